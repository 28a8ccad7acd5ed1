/-
  node.Without.
-/
import Derived.Test.YtkbdcbcjbgbglaaNl
namespace Go.Proofs.Ytkbdcbcjbgbglaa
open Go.RowKit
set_option linter.unusedVariables false
set_option linter.unusedSimpArgs false
set_option maxHeartbeats 4000000 in
set_option maxRecDepth 100000 in
theorem out_no (lf : Bool) (A : Option Addr) (c : Nat) (ks : List (List UInt8)) (B : Option Addr) (d : Nat) (ds : List Int) (k : Int) (w : World) (hl : ks.length ≤ 4000000) (hs : shapedB lf ks ds = false) :
    Calls Try.prog 24 #[.agg #[.bool lf, .slice A ks.length c, .slice B ds.length d], .int .i64 k] w fun e w' => e = .returned (.agg #[.bool false, .slice none 0 0, .slice none 0 0]) ∧ Below w.heap.size w w' := by
  obtain ⟨W, hW⟩ : ∃ W : World, W = (w.alloc (.cells #[.bool lf, .slice A ks.length c, .slice B ds.length d] 25)).alloc (.cells #[.bool false, .slice none 0 0, .slice none 0 0] 25) := ⟨_, rfl⟩
  have ra := row_on (heap_alloc_new w (.cells #[.bool lf, .slice A ks.length c, .slice B ds.length d] 25)) (bda _ (.cells #[.bool false, .slice none 0 0, .slice none 0 0] 25))
  have rb := heap_alloc_new (w.alloc (.cells #[.bool lf, .slice A ks.length c, .slice B ds.length d] 25)) (.cells #[.bool false, .slice none 0 0, .slice none 0 0] 25)
  simp only [World.size_alloc] at rb
  rw [← hW] at ra rb
  have RA := Lib.hid ra
  have RB := Lib.hid rb
  have BW := Lib.hid (show Below w.heap.size w W by rw [hW]; exact bon (bda _ _) (bda _ _))
  have HW := Lib.hid hW
  have SH := Lib.hid (shaped_any lf A c ks B d ds W hl)
  rw [hs] at SH
  clear ra rb hW hs
  unfold sv at *
  go_enter Try.func24, Try.ntmps24
  go_wp2_with fail
  rw [← HW.out]
  refine SH.out.mono ?_
  rintro e w2 ⟨rfl, hb⟩
  have R2 := Lib.hid (row_on RB.out hb)
  have K2 := Lib.hid (BW.out.trans (hb.mono BW.out.size))
  clear hb
  have p0 := row_c R2.out (i := 0) rfl
  have p1 := row_c R2.out (i := 1) rfl
  have p2 := row_c R2.out (i := 2) rfl
  have y0 := frozen_of_row _ _ 0 _ _ R2.out
  have y1 := frozen_of_row _ _ 1 _ _ R2.out
  have y2 := frozen_of_row _ _ 2 _ _ R2.out
  go_wp2
  refine bodyPost_ret (v := .agg #[.bool false, .slice none 0 0, .slice none 0 0]) (by simp [results, Try.results24, go_sem, p0, p1, p2]) rfl ⟨rfl, ?_⟩
  exact ((K2.out.setCell (by simp) _).setCell (by simp) _).setCell (by simp) _
set_option maxHeartbeats 4000000 in
set_option maxRecDepth 100000 in
theorem out_id (lf : Bool) (A : Option Addr) (c : Nat) (ks : List (List UInt8)) (B : Option Addr) (d : Nat) (ds : List Int) (k : Int) (w : World) (h : Rl sv w A c ks) (h2 : Rl nv w B d ds) (hl : ks.length ≤ 3999999) (hs : shapedB lf ks ds = true) (hk : k < 0 ∨ (0 ≤ k ∧ (ds.length : Int) ≤ k) ∨ (0 ≤ k ∧ k < ds.length ∧ ks.length = 0)) :
    Calls Try.prog 24 #[.agg #[.bool lf, .slice A ks.length c, .slice B ds.length d], .int .i64 k] w fun e w' => ∃ A' c' B' d', e = .returned (.agg #[.bool lf, .slice A' ks.length c', .slice B' ds.length d']) ∧ Rl sv w' A' c' ks ∧ Rl nv w' B' d' ds ∧ Below w.heap.size w w' := by
  have hl : ks.length ≤ 4000000 := by omega
  have hsd : ds.length = if lf then ks.length else ks.length + 1 := by unfold shapedB at hs; cases lf <;> simpa using hs
  have hld : ds.length ≤ 4000000 := by rw [hsd]; split <;> omega
  clear hsd
  obtain ⟨W, hW⟩ : ∃ W : World, W = (w.alloc (.cells #[.bool lf, .slice A ks.length c, .slice B ds.length d] 25)).alloc (.cells #[.bool false, .slice none 0 0, .slice none 0 0] 25) := ⟨_, rfl⟩
  have ra := row_on (heap_alloc_new w (.cells #[.bool lf, .slice A ks.length c, .slice B ds.length d] 25)) (bda _ (.cells #[.bool false, .slice none 0 0, .slice none 0 0] 25))
  have rb := heap_alloc_new (w.alloc (.cells #[.bool lf, .slice A ks.length c, .slice B ds.length d] 25)) (.cells #[.bool false, .slice none 0 0, .slice none 0 0] 25)
  simp only [World.size_alloc] at rb
  rw [← hW] at ra rb
  have RA := Lib.hid ra
  have RB := Lib.hid rb
  have BW := Lib.hid (show Below w.heap.size w W by rw [hW]; exact bon (bda _ _) (bda _ _))
  have HW := Lib.hid hW
  have SH := Lib.hid (shaped_any lf A c ks B d ds W hl)
  rw [hs] at SH
  clear ra rb hW hs
  have H := Lib.hid h
  have H2 := Lib.hid h2
  clear h h2
  go_enter Try.func24, Try.ntmps24
  go_wp2_with fail
  rw [← HW.out]
  refine SH.out.mono ?_
  rintro e w2 ⟨rfl, hb⟩
  have R2 := Lib.hid (row_on RA.out hb)
  have Q2 := Lib.hid (row_on RB.out hb)
  have K2 := Lib.hid (BW.out.trans (hb.mono BW.out.size))
  clear hb SH HW
  have SW2 := Lib.hid (show w.heap.size + 2 ≤ w2.heap.size from heap_lt Q2.out)
  have V1 := Lib.hid (H.out.below K2.out)
  have V2 := Lib.hid (H2.out.below K2.out)
  have FA := Lib.hid (fun x (K : Below w2.heap.size w2 x) => And.intro (row_c (row_on R2.out K) (i := 0) rfl) (And.intro (row_c (row_on R2.out K) (i := 1) rfl) (row_c (row_on R2.out K) (i := 2) rfl)))
  have LS := Lib.hid (fun V (hV : Below w2.heap.size w2 V) => clone_s A c ks V (V1.out.below hV) hl)
  have LI := Lib.hid (fun V (hV : Below w2.heap.size w2 V) => clone_i B d ds V (V2.out.below hV) hld)
  have f1 := row_c R2.out (i := 1) rfl
  have f2 := row_c R2.out (i := 2) rfl
  clear hl hld
  rcases hk with hk | hk | hk
  · have e1 : decide (k < 0) = true := decide_eq_true hk
    clear hk
    go_upto_region 4 with (fail)
    clear f1 f2 e1
    refine wp_operands (W := w2) rfl 9 [25, 26, 27, 28, 29, 30, 31, 32, 33] (fun i u x => match i with | 0 => u = .pointer (some ⟨w.heap.size, 0, none⟩) | 1 => u = .bool lf | 2 => u = .pointer (some ⟨w.heap.size, 1, none⟩) | 3 => u = .slice A ks.length c | 4 => ∃ A0 c0, u = .slice A0 ks.length c0 ∧ Rl sv x A0 c0 ks ∧ Fr (w.heap.size + 2) A0 | 5 => u = .pointer (some ⟨w.heap.size, 2, none⟩) | 6 => u = .slice B ds.length d | 7 => ∃ A0 c0, u = .slice A0 ds.length c0 ∧ Rl nv x A0 c0 ds ∧ Fr (w.heap.size + 2) A0 | 8 => ∃ A0 c0 B0 d0, u = .agg #[.bool lf, .slice A0 ks.length c0, .slice B0 ds.length d0] ∧ Rl sv x A0 c0 ks ∧ Rl nv x B0 d0 ds ∧ Fr (w.heap.size + 2) A0 ∧ Fr (w.heap.size + 2) B0 | _ => True) (fun _ => false)
      (by decide) rfl (by kernel_rfl) (by kernel_rfl) (by decide) (by kernel_rfl) ?_ (fun _ _ _ h => by cases h) ?_ ?_
    · intro i u x x' hi hR hb'
      have hi' : i = 0 ∨ i = 1 ∨ i = 2 ∨ i = 3 ∨ i = 4 ∨ i = 5 ∨ i = 6 ∨ i = 7 ∨ i = 8 := by omega
      rcases hi' with rfl | rfl | rfl | rfl | rfl | rfl | rfl | rfl | rfl
      · exact hR
      · exact hR
      · exact hR
      · exact hR
      · obtain ⟨A0, c0, e, hr, hf⟩ := hR; exact ⟨A0, c0, e, hr.below hb', hf⟩
      · exact hR
      · exact hR
      · obtain ⟨A0, c0, e, hr, hf⟩ := hR; exact ⟨A0, c0, e, hr.below hb', hf⟩
      · obtain ⟨A0, c0, B0, d0, e, h1, h2, h3, h4⟩ := hR; exact ⟨A0, c0, B0, d0, e, h1.below hb', h2.below hb', h3, h4⟩
    · intro i av x K hi hF hb' hw hK
      have hi' : i = 0 ∨ i = 1 ∨ i = 2 ∨ i = 3 ∨ i = 4 ∨ i = 5 ∨ i = 6 ∨ i = 7 ∨ i = 8 := by omega
      rcases hi' with rfl | rfl | rfl | rfl | rfl | rfl | rfl | rfl | rfl
      · simp only [wpOp, List.getElem?_toArray, List.getElem?_cons_zero, Region.wanted, if_true]
        refine Or.inl ?_
        have e0 : av.tmps.getD 2 undef = .pointer (some ⟨w.heap.size, 0, none⟩) := hF.2.2 2 (by decide)
        have e0e : av.eval (.tmp 2) = .pointer (some ⟨w.heap.size, 0, none⟩) := e0
        have e0g : av.tmps[2]?.getD undef = .pointer (some ⟨w.heap.size, 0, none⟩) := by have := e0; simp only [Array.getD_eq_getD_getElem?] at this; exact this
        clear hw hF
        simp only [Oper.wp, execOp]
        try simp only [e0e]
        go_simp
        exact hK _ x (by first | rfl | (simp only [Nat.add_zero]; done) | (congr 1; omega)) (Below.refl _ _) (fun h => by cases h)
      · simp only [wpOp, List.getElem?_toArray, List.getElem?_cons_succ, List.getElem?_cons_zero, Region.wanted, if_true]
        refine Or.inl ?_
        have e0 : av.tmps.getD 25 undef = .pointer (some ⟨w.heap.size, 0, none⟩) := (hw 0 (by kernel_rfl))
        have e0e : av.eval (.tmp 25) = .pointer (some ⟨w.heap.size, 0, none⟩) := e0
        have e0g : av.tmps[25]?.getD undef = .pointer (some ⟨w.heap.size, 0, none⟩) := by have := e0; simp only [Array.getD_eq_getD_getElem?] at this; exact this
        obtain ⟨f0, f1, f2⟩ := FA.out x hb'
        clear hw hF
        simp only [Oper.wp, execOp]
        try simp only [e0e]
        go_simp
        exact hK _ x (by first | rfl | (simp only [Nat.add_zero]; done) | (congr 1; omega)) (Below.refl _ _) (fun h => by cases h)
      · simp only [wpOp, List.getElem?_toArray, List.getElem?_cons_succ, List.getElem?_cons_zero, Region.wanted, if_true]
        refine Or.inl ?_
        have e0 : av.tmps.getD 2 undef = .pointer (some ⟨w.heap.size, 0, none⟩) := hF.2.2 2 (by decide)
        have e0e : av.eval (.tmp 2) = .pointer (some ⟨w.heap.size, 0, none⟩) := e0
        have e0g : av.tmps[2]?.getD undef = .pointer (some ⟨w.heap.size, 0, none⟩) := by have := e0; simp only [Array.getD_eq_getD_getElem?] at this; exact this
        clear hw hF
        simp only [Oper.wp, execOp]
        try simp only [e0e]
        go_simp
        exact hK _ x (by first | rfl | (simp only [Nat.add_zero]; done) | (congr 1; omega)) (Below.refl _ _) (fun h => by cases h)
      · simp only [wpOp, List.getElem?_toArray, List.getElem?_cons_succ, List.getElem?_cons_zero, Region.wanted, if_true]
        refine Or.inl ?_
        have e0 : av.tmps.getD 27 undef = .pointer (some ⟨w.heap.size, 1, none⟩) := (hw 2 (by kernel_rfl))
        have e0e : av.eval (.tmp 27) = .pointer (some ⟨w.heap.size, 1, none⟩) := e0
        have e0g : av.tmps[27]?.getD undef = .pointer (some ⟨w.heap.size, 1, none⟩) := by have := e0; simp only [Array.getD_eq_getD_getElem?] at this; exact this
        obtain ⟨f0, f1, f2⟩ := FA.out x hb'
        clear hw hF
        simp only [Oper.wp, execOp]
        try simp only [e0e]
        go_simp
        exact hK _ x (by first | rfl | (simp only [Nat.add_zero]; done) | (congr 1; omega)) (Below.refl _ _) (fun h => by cases h)
      · simp only [wpOp, List.getElem?_toArray, List.getElem?_cons_succ, List.getElem?_cons_zero, Region.wanted, if_true]
        refine Or.inl ?_
        have e0 : av.tmps.getD 28 undef = .slice A ks.length c := (hw 3 (by kernel_rfl))
        have e0e : av.eval (.tmp 28) = .slice A ks.length c := e0
        have e0g : av.tmps[28]?.getD undef = .slice A ks.length c := by have := e0; simp only [Array.getD_eq_getD_getElem?] at this; exact this
        clear hw hF
        simp only [Oper.wp, execOp]
        try simp only [e0e]
        go_simp
        refine (LS.out x hb').mono ?_
        rintro e x' ⟨A0, c0, rfl, hr, hx, hf⟩
        exact hK _ x' ⟨A0, c0, rfl, hr, fun b_ o_ e_ => by have := hf b_ o_ e_; have := SW2.out; have := hb'.size; omega⟩ hx (fun h => by cases h)
      · simp only [wpOp, List.getElem?_toArray, List.getElem?_cons_succ, List.getElem?_cons_zero, Region.wanted, if_true]
        refine Or.inl ?_
        have e0 : av.tmps.getD 2 undef = .pointer (some ⟨w.heap.size, 0, none⟩) := hF.2.2 2 (by decide)
        have e0e : av.eval (.tmp 2) = .pointer (some ⟨w.heap.size, 0, none⟩) := e0
        have e0g : av.tmps[2]?.getD undef = .pointer (some ⟨w.heap.size, 0, none⟩) := by have := e0; simp only [Array.getD_eq_getD_getElem?] at this; exact this
        clear hw hF
        simp only [Oper.wp, execOp]
        try simp only [e0e]
        go_simp
        exact hK _ x (by first | rfl | (simp only [Nat.add_zero]; done) | (congr 1; omega)) (Below.refl _ _) (fun h => by cases h)
      · simp only [wpOp, List.getElem?_toArray, List.getElem?_cons_succ, List.getElem?_cons_zero, Region.wanted, if_true]
        refine Or.inl ?_
        have e0 : av.tmps.getD 30 undef = .pointer (some ⟨w.heap.size, 2, none⟩) := (hw 5 (by kernel_rfl))
        have e0e : av.eval (.tmp 30) = .pointer (some ⟨w.heap.size, 2, none⟩) := e0
        have e0g : av.tmps[30]?.getD undef = .pointer (some ⟨w.heap.size, 2, none⟩) := by have := e0; simp only [Array.getD_eq_getD_getElem?] at this; exact this
        obtain ⟨f0, f1, f2⟩ := FA.out x hb'
        clear hw hF
        simp only [Oper.wp, execOp]
        try simp only [e0e]
        go_simp
        exact hK _ x (by first | rfl | (simp only [Nat.add_zero]; done) | (congr 1; omega)) (Below.refl _ _) (fun h => by cases h)
      · simp only [wpOp, List.getElem?_toArray, List.getElem?_cons_succ, List.getElem?_cons_zero, Region.wanted, if_true]
        refine Or.inl ?_
        have e0 : av.tmps.getD 31 undef = .slice B ds.length d := (hw 6 (by kernel_rfl))
        have e0e : av.eval (.tmp 31) = .slice B ds.length d := e0
        have e0g : av.tmps[31]?.getD undef = .slice B ds.length d := by have := e0; simp only [Array.getD_eq_getD_getElem?] at this; exact this
        clear hw hF
        simp only [Oper.wp, execOp]
        try simp only [e0e]
        go_simp
        refine (LI.out x hb').mono ?_
        rintro e x' ⟨A0, c0, rfl, hr, hx, hf⟩
        exact hK _ x' ⟨A0, c0, rfl, hr, fun b_ o_ e_ => by have := hf b_ o_ e_; have := SW2.out; have := hb'.size; omega⟩ hx (fun h => by cases h)
      · simp only [wpOp, List.getElem?_toArray, List.getElem?_cons_succ, List.getElem?_cons_zero, Region.wanted, if_true]
        refine Or.inl ?_
        have e0 : av.tmps.getD 26 undef = .bool lf := (hw 1 (by kernel_rfl))
        have e0e : av.eval (.tmp 26) = .bool lf := e0
        have e0g : av.tmps[26]?.getD undef = .bool lf := by have := e0; simp only [Array.getD_eq_getD_getElem?] at this; exact this
        obtain ⟨A1, c1, e1, hr1, hf1⟩ := (hw 4 (by kernel_rfl))
        have e1e : av.eval (.tmp 29) = .slice A1 ks.length c1 := e1
        have e1g : av.tmps[29]?.getD undef = .slice A1 ks.length c1 := by have := e1; simp only [Array.getD_eq_getD_getElem?] at this; exact this
        obtain ⟨A2, c2, e2, hr2, hf2⟩ := (hw 7 (by kernel_rfl))
        have e2e : av.eval (.tmp 32) = .slice A2 ds.length c2 := e2
        have e2g : av.tmps[32]?.getD undef = .slice A2 ds.length c2 := by have := e2; simp only [Array.getD_eq_getD_getElem?] at this; exact this
        clear hw hF
        simp only [Oper.wp, execOp]
        try simp only [e0e, e1e, e2e]
        go_simp
        exact hK _ x ⟨A1, c1, A2, c2, rfl, hr1, hr2, hf1, hf2⟩ (Below.refl _ _) (fun h => by cases h)
    · intro av x hF hb' hR _
      have e0 : av.tmps.getD 25 undef = .pointer (some ⟨w.heap.size, 0, none⟩) := hR 0 (by decide)
      have e1 : av.tmps.getD 26 undef = .bool lf := hR 1 (by decide)
      have e2 : av.tmps.getD 27 undef = .pointer (some ⟨w.heap.size, 1, none⟩) := hR 2 (by decide)
      have e3 : av.tmps.getD 28 undef = .slice A ks.length c := hR 3 (by decide)
      obtain ⟨A4, c4, e4, hr4, hf4⟩ := hR 4 (by decide)
      replace e4 : av.tmps.getD 29 undef = .slice A4 ks.length c4 := e4
      have e5 : av.tmps.getD 30 undef = .pointer (some ⟨w.heap.size, 2, none⟩) := hR 5 (by decide)
      have e6 : av.tmps.getD 31 undef = .slice B ds.length d := hR 6 (by decide)
      obtain ⟨A7, c7, e7, hr7, hf7⟩ := hR 7 (by decide)
      replace e7 : av.tmps.getD 32 undef = .slice A7 ds.length c7 := e7
      obtain ⟨Ax8, cx8, Bx8, dx8, e8, h1x8, h2x8, h3x8, h4x8⟩ := hR 8 (by decide)
      replace e8 : av.tmps.getD 33 undef = .agg #[.bool lf, .slice Ax8 ks.length cx8, .slice Bx8 ds.length dx8] := e8
      rw [hF.fold (by kernel_rfl)]
      simp only [List.foldl_cons, List.foldl_nil, e0, e1, e2, e3, e4, e5, e6, e7, e8]
      simp only [Act.put, List.setIfInBounds_toArray, List.set_cons_zero, List.set_cons_succ]
      change wpOps _ _ _ [9] _ _
      simp only [wpOps_cons]
      clear e0 e1 e2 e3 e4 e5 e6 e7 e8 hR hF
      have Q3 := Lib.hid (row_on Q2.out hb')
      have K3 := Lib.hid (K2.out.trans (hb'.mono K2.out.size))
      have X1 := Lib.hid h1x8
      have X2 := Lib.hid h2x8
      have X3 := Lib.hid h3x8
      have X4 := Lib.hid h4x8
      clear hb' h1x8 h2x8 h3x8 h4x8
      have p0 := row_c Q3.out (i := 0) rfl
      have p1 := row_c Q3.out (i := 1) rfl
      have p2 := row_c Q3.out (i := 2) rfl
      have y0 := frozen_of_row _ _ 0 _ _ Q3.out
      have y1 := frozen_of_row _ _ 1 _ _ Q3.out
      have y2 := frozen_of_row _ _ 2 _ _ Q3.out
      try rw [wpOps_cons]
      simp only [wpOp, List.getElem?_toArray, List.getElem?_cons_succ, List.getElem?_cons_zero, Region.wanted, if_true]
      refine Or.inl ?_
      simp only [Oper.wp, execOp]
      go_simp
      try simp only [wpOps]
      go_wp2
      refine bodyPost_ret (v := .agg #[.bool lf, .slice Ax8 ks.length cx8, .slice Bx8 ds.length dx8]) (by simp [results, Try.results24, go_sem, p0, p1, p2]) rfl ⟨Ax8, cx8, Bx8, dx8, rfl, ?_, ?_, ?_⟩
      · exact ((X1.out.set X3.out (by omega) _ _).set X3.out (by omega) _ _).set X3.out (by omega) _ _
      · exact ((X2.out.set X4.out (by omega) _ _).set X4.out (by omega) _ _).set X4.out (by omega) _ _
      · exact ((K3.out.setCell (by simp) _).setCell (by simp) _).setCell (by simp) _
  · have e1 : decide (k < 0) = false := decide_eq_false (by omega)
    have e2 : decide ((ds.length : Int) ≤ k) = true := decide_eq_true hk.2
    clear hk
    go_upto_region 4 with (fail)
    clear f1 f2 e1 e2
    refine wp_operands (W := w2) rfl 9 [25, 26, 27, 28, 29, 30, 31, 32, 33] (fun i u x => match i with | 0 => u = .pointer (some ⟨w.heap.size, 0, none⟩) | 1 => u = .bool lf | 2 => u = .pointer (some ⟨w.heap.size, 1, none⟩) | 3 => u = .slice A ks.length c | 4 => ∃ A0 c0, u = .slice A0 ks.length c0 ∧ Rl sv x A0 c0 ks ∧ Fr (w.heap.size + 2) A0 | 5 => u = .pointer (some ⟨w.heap.size, 2, none⟩) | 6 => u = .slice B ds.length d | 7 => ∃ A0 c0, u = .slice A0 ds.length c0 ∧ Rl nv x A0 c0 ds ∧ Fr (w.heap.size + 2) A0 | 8 => ∃ A0 c0 B0 d0, u = .agg #[.bool lf, .slice A0 ks.length c0, .slice B0 ds.length d0] ∧ Rl sv x A0 c0 ks ∧ Rl nv x B0 d0 ds ∧ Fr (w.heap.size + 2) A0 ∧ Fr (w.heap.size + 2) B0 | _ => True) (fun _ => false)
      (by decide) rfl (by kernel_rfl) (by kernel_rfl) (by decide) (by kernel_rfl) ?_ (fun _ _ _ h => by cases h) ?_ ?_
    · intro i u x x' hi hR hb'
      have hi' : i = 0 ∨ i = 1 ∨ i = 2 ∨ i = 3 ∨ i = 4 ∨ i = 5 ∨ i = 6 ∨ i = 7 ∨ i = 8 := by omega
      rcases hi' with rfl | rfl | rfl | rfl | rfl | rfl | rfl | rfl | rfl
      · exact hR
      · exact hR
      · exact hR
      · exact hR
      · obtain ⟨A0, c0, e, hr, hf⟩ := hR; exact ⟨A0, c0, e, hr.below hb', hf⟩
      · exact hR
      · exact hR
      · obtain ⟨A0, c0, e, hr, hf⟩ := hR; exact ⟨A0, c0, e, hr.below hb', hf⟩
      · obtain ⟨A0, c0, B0, d0, e, h1, h2, h3, h4⟩ := hR; exact ⟨A0, c0, B0, d0, e, h1.below hb', h2.below hb', h3, h4⟩
    · intro i av x K hi hF hb' hw hK
      have hi' : i = 0 ∨ i = 1 ∨ i = 2 ∨ i = 3 ∨ i = 4 ∨ i = 5 ∨ i = 6 ∨ i = 7 ∨ i = 8 := by omega
      rcases hi' with rfl | rfl | rfl | rfl | rfl | rfl | rfl | rfl | rfl
      · simp only [wpOp, List.getElem?_toArray, List.getElem?_cons_zero, Region.wanted, if_true]
        refine Or.inl ?_
        have e0 : av.tmps.getD 2 undef = .pointer (some ⟨w.heap.size, 0, none⟩) := hF.2.2 2 (by decide)
        have e0e : av.eval (.tmp 2) = .pointer (some ⟨w.heap.size, 0, none⟩) := e0
        have e0g : av.tmps[2]?.getD undef = .pointer (some ⟨w.heap.size, 0, none⟩) := by have := e0; simp only [Array.getD_eq_getD_getElem?] at this; exact this
        clear hw hF
        simp only [Oper.wp, execOp]
        try simp only [e0e]
        go_simp
        exact hK _ x (by first | rfl | (simp only [Nat.add_zero]; done) | (congr 1; omega)) (Below.refl _ _) (fun h => by cases h)
      · simp only [wpOp, List.getElem?_toArray, List.getElem?_cons_succ, List.getElem?_cons_zero, Region.wanted, if_true]
        refine Or.inl ?_
        have e0 : av.tmps.getD 25 undef = .pointer (some ⟨w.heap.size, 0, none⟩) := (hw 0 (by kernel_rfl))
        have e0e : av.eval (.tmp 25) = .pointer (some ⟨w.heap.size, 0, none⟩) := e0
        have e0g : av.tmps[25]?.getD undef = .pointer (some ⟨w.heap.size, 0, none⟩) := by have := e0; simp only [Array.getD_eq_getD_getElem?] at this; exact this
        obtain ⟨f0, f1, f2⟩ := FA.out x hb'
        clear hw hF
        simp only [Oper.wp, execOp]
        try simp only [e0e]
        go_simp
        exact hK _ x (by first | rfl | (simp only [Nat.add_zero]; done) | (congr 1; omega)) (Below.refl _ _) (fun h => by cases h)
      · simp only [wpOp, List.getElem?_toArray, List.getElem?_cons_succ, List.getElem?_cons_zero, Region.wanted, if_true]
        refine Or.inl ?_
        have e0 : av.tmps.getD 2 undef = .pointer (some ⟨w.heap.size, 0, none⟩) := hF.2.2 2 (by decide)
        have e0e : av.eval (.tmp 2) = .pointer (some ⟨w.heap.size, 0, none⟩) := e0
        have e0g : av.tmps[2]?.getD undef = .pointer (some ⟨w.heap.size, 0, none⟩) := by have := e0; simp only [Array.getD_eq_getD_getElem?] at this; exact this
        clear hw hF
        simp only [Oper.wp, execOp]
        try simp only [e0e]
        go_simp
        exact hK _ x (by first | rfl | (simp only [Nat.add_zero]; done) | (congr 1; omega)) (Below.refl _ _) (fun h => by cases h)
      · simp only [wpOp, List.getElem?_toArray, List.getElem?_cons_succ, List.getElem?_cons_zero, Region.wanted, if_true]
        refine Or.inl ?_
        have e0 : av.tmps.getD 27 undef = .pointer (some ⟨w.heap.size, 1, none⟩) := (hw 2 (by kernel_rfl))
        have e0e : av.eval (.tmp 27) = .pointer (some ⟨w.heap.size, 1, none⟩) := e0
        have e0g : av.tmps[27]?.getD undef = .pointer (some ⟨w.heap.size, 1, none⟩) := by have := e0; simp only [Array.getD_eq_getD_getElem?] at this; exact this
        obtain ⟨f0, f1, f2⟩ := FA.out x hb'
        clear hw hF
        simp only [Oper.wp, execOp]
        try simp only [e0e]
        go_simp
        exact hK _ x (by first | rfl | (simp only [Nat.add_zero]; done) | (congr 1; omega)) (Below.refl _ _) (fun h => by cases h)
      · simp only [wpOp, List.getElem?_toArray, List.getElem?_cons_succ, List.getElem?_cons_zero, Region.wanted, if_true]
        refine Or.inl ?_
        have e0 : av.tmps.getD 28 undef = .slice A ks.length c := (hw 3 (by kernel_rfl))
        have e0e : av.eval (.tmp 28) = .slice A ks.length c := e0
        have e0g : av.tmps[28]?.getD undef = .slice A ks.length c := by have := e0; simp only [Array.getD_eq_getD_getElem?] at this; exact this
        clear hw hF
        simp only [Oper.wp, execOp]
        try simp only [e0e]
        go_simp
        refine (LS.out x hb').mono ?_
        rintro e x' ⟨A0, c0, rfl, hr, hx, hf⟩
        exact hK _ x' ⟨A0, c0, rfl, hr, fun b_ o_ e_ => by have := hf b_ o_ e_; have := SW2.out; have := hb'.size; omega⟩ hx (fun h => by cases h)
      · simp only [wpOp, List.getElem?_toArray, List.getElem?_cons_succ, List.getElem?_cons_zero, Region.wanted, if_true]
        refine Or.inl ?_
        have e0 : av.tmps.getD 2 undef = .pointer (some ⟨w.heap.size, 0, none⟩) := hF.2.2 2 (by decide)
        have e0e : av.eval (.tmp 2) = .pointer (some ⟨w.heap.size, 0, none⟩) := e0
        have e0g : av.tmps[2]?.getD undef = .pointer (some ⟨w.heap.size, 0, none⟩) := by have := e0; simp only [Array.getD_eq_getD_getElem?] at this; exact this
        clear hw hF
        simp only [Oper.wp, execOp]
        try simp only [e0e]
        go_simp
        exact hK _ x (by first | rfl | (simp only [Nat.add_zero]; done) | (congr 1; omega)) (Below.refl _ _) (fun h => by cases h)
      · simp only [wpOp, List.getElem?_toArray, List.getElem?_cons_succ, List.getElem?_cons_zero, Region.wanted, if_true]
        refine Or.inl ?_
        have e0 : av.tmps.getD 30 undef = .pointer (some ⟨w.heap.size, 2, none⟩) := (hw 5 (by kernel_rfl))
        have e0e : av.eval (.tmp 30) = .pointer (some ⟨w.heap.size, 2, none⟩) := e0
        have e0g : av.tmps[30]?.getD undef = .pointer (some ⟨w.heap.size, 2, none⟩) := by have := e0; simp only [Array.getD_eq_getD_getElem?] at this; exact this
        obtain ⟨f0, f1, f2⟩ := FA.out x hb'
        clear hw hF
        simp only [Oper.wp, execOp]
        try simp only [e0e]
        go_simp
        exact hK _ x (by first | rfl | (simp only [Nat.add_zero]; done) | (congr 1; omega)) (Below.refl _ _) (fun h => by cases h)
      · simp only [wpOp, List.getElem?_toArray, List.getElem?_cons_succ, List.getElem?_cons_zero, Region.wanted, if_true]
        refine Or.inl ?_
        have e0 : av.tmps.getD 31 undef = .slice B ds.length d := (hw 6 (by kernel_rfl))
        have e0e : av.eval (.tmp 31) = .slice B ds.length d := e0
        have e0g : av.tmps[31]?.getD undef = .slice B ds.length d := by have := e0; simp only [Array.getD_eq_getD_getElem?] at this; exact this
        clear hw hF
        simp only [Oper.wp, execOp]
        try simp only [e0e]
        go_simp
        refine (LI.out x hb').mono ?_
        rintro e x' ⟨A0, c0, rfl, hr, hx, hf⟩
        exact hK _ x' ⟨A0, c0, rfl, hr, fun b_ o_ e_ => by have := hf b_ o_ e_; have := SW2.out; have := hb'.size; omega⟩ hx (fun h => by cases h)
      · simp only [wpOp, List.getElem?_toArray, List.getElem?_cons_succ, List.getElem?_cons_zero, Region.wanted, if_true]
        refine Or.inl ?_
        have e0 : av.tmps.getD 26 undef = .bool lf := (hw 1 (by kernel_rfl))
        have e0e : av.eval (.tmp 26) = .bool lf := e0
        have e0g : av.tmps[26]?.getD undef = .bool lf := by have := e0; simp only [Array.getD_eq_getD_getElem?] at this; exact this
        obtain ⟨A1, c1, e1, hr1, hf1⟩ := (hw 4 (by kernel_rfl))
        have e1e : av.eval (.tmp 29) = .slice A1 ks.length c1 := e1
        have e1g : av.tmps[29]?.getD undef = .slice A1 ks.length c1 := by have := e1; simp only [Array.getD_eq_getD_getElem?] at this; exact this
        obtain ⟨A2, c2, e2, hr2, hf2⟩ := (hw 7 (by kernel_rfl))
        have e2e : av.eval (.tmp 32) = .slice A2 ds.length c2 := e2
        have e2g : av.tmps[32]?.getD undef = .slice A2 ds.length c2 := by have := e2; simp only [Array.getD_eq_getD_getElem?] at this; exact this
        clear hw hF
        simp only [Oper.wp, execOp]
        try simp only [e0e, e1e, e2e]
        go_simp
        exact hK _ x ⟨A1, c1, A2, c2, rfl, hr1, hr2, hf1, hf2⟩ (Below.refl _ _) (fun h => by cases h)
    · intro av x hF hb' hR _
      have e0 : av.tmps.getD 25 undef = .pointer (some ⟨w.heap.size, 0, none⟩) := hR 0 (by decide)
      have e1 : av.tmps.getD 26 undef = .bool lf := hR 1 (by decide)
      have e2 : av.tmps.getD 27 undef = .pointer (some ⟨w.heap.size, 1, none⟩) := hR 2 (by decide)
      have e3 : av.tmps.getD 28 undef = .slice A ks.length c := hR 3 (by decide)
      obtain ⟨A4, c4, e4, hr4, hf4⟩ := hR 4 (by decide)
      replace e4 : av.tmps.getD 29 undef = .slice A4 ks.length c4 := e4
      have e5 : av.tmps.getD 30 undef = .pointer (some ⟨w.heap.size, 2, none⟩) := hR 5 (by decide)
      have e6 : av.tmps.getD 31 undef = .slice B ds.length d := hR 6 (by decide)
      obtain ⟨A7, c7, e7, hr7, hf7⟩ := hR 7 (by decide)
      replace e7 : av.tmps.getD 32 undef = .slice A7 ds.length c7 := e7
      obtain ⟨Ax8, cx8, Bx8, dx8, e8, h1x8, h2x8, h3x8, h4x8⟩ := hR 8 (by decide)
      replace e8 : av.tmps.getD 33 undef = .agg #[.bool lf, .slice Ax8 ks.length cx8, .slice Bx8 ds.length dx8] := e8
      rw [hF.fold (by kernel_rfl)]
      simp only [List.foldl_cons, List.foldl_nil, e0, e1, e2, e3, e4, e5, e6, e7, e8]
      simp only [Act.put, List.setIfInBounds_toArray, List.set_cons_zero, List.set_cons_succ]
      change wpOps _ _ _ [9] _ _
      simp only [wpOps_cons]
      clear e0 e1 e2 e3 e4 e5 e6 e7 e8 hR hF
      have Q3 := Lib.hid (row_on Q2.out hb')
      have K3 := Lib.hid (K2.out.trans (hb'.mono K2.out.size))
      have X1 := Lib.hid h1x8
      have X2 := Lib.hid h2x8
      have X3 := Lib.hid h3x8
      have X4 := Lib.hid h4x8
      clear hb' h1x8 h2x8 h3x8 h4x8
      have p0 := row_c Q3.out (i := 0) rfl
      have p1 := row_c Q3.out (i := 1) rfl
      have p2 := row_c Q3.out (i := 2) rfl
      have y0 := frozen_of_row _ _ 0 _ _ Q3.out
      have y1 := frozen_of_row _ _ 1 _ _ Q3.out
      have y2 := frozen_of_row _ _ 2 _ _ Q3.out
      try rw [wpOps_cons]
      simp only [wpOp, List.getElem?_toArray, List.getElem?_cons_succ, List.getElem?_cons_zero, Region.wanted, if_true]
      refine Or.inl ?_
      simp only [Oper.wp, execOp]
      go_simp
      try simp only [wpOps]
      go_wp2
      refine bodyPost_ret (v := .agg #[.bool lf, .slice Ax8 ks.length cx8, .slice Bx8 ds.length dx8]) (by simp [results, Try.results24, go_sem, p0, p1, p2]) rfl ⟨Ax8, cx8, Bx8, dx8, rfl, ?_, ?_, ?_⟩
      · exact ((X1.out.set X3.out (by omega) _ _).set X3.out (by omega) _ _).set X3.out (by omega) _ _
      · exact ((X2.out.set X4.out (by omega) _ _).set X4.out (by omega) _ _).set X4.out (by omega) _ _
      · exact ((K3.out.setCell (by simp) _).setCell (by simp) _).setCell (by simp) _
  · have e1 : decide (k < 0) = false := decide_eq_false (by omega)
    have e2 : decide ((ds.length : Int) ≤ k) = false := decide_eq_false (by omega)
    have e3 : (ks.length == 0) = true := by simp [hk.2.2]
    have e4 : ((ks.length : Int) == 0) = true := by simp [hk.2.2]
    clear hk
    go_upto_region 4 with (fail)
    clear f1 f2 e1 e2 e3 e4
    refine wp_operands (W := w2) rfl 9 [25, 26, 27, 28, 29, 30, 31, 32, 33] (fun i u x => match i with | 0 => u = .pointer (some ⟨w.heap.size, 0, none⟩) | 1 => u = .bool lf | 2 => u = .pointer (some ⟨w.heap.size, 1, none⟩) | 3 => u = .slice A ks.length c | 4 => ∃ A0 c0, u = .slice A0 ks.length c0 ∧ Rl sv x A0 c0 ks ∧ Fr (w.heap.size + 2) A0 | 5 => u = .pointer (some ⟨w.heap.size, 2, none⟩) | 6 => u = .slice B ds.length d | 7 => ∃ A0 c0, u = .slice A0 ds.length c0 ∧ Rl nv x A0 c0 ds ∧ Fr (w.heap.size + 2) A0 | 8 => ∃ A0 c0 B0 d0, u = .agg #[.bool lf, .slice A0 ks.length c0, .slice B0 ds.length d0] ∧ Rl sv x A0 c0 ks ∧ Rl nv x B0 d0 ds ∧ Fr (w.heap.size + 2) A0 ∧ Fr (w.heap.size + 2) B0 | _ => True) (fun _ => false)
      (by decide) rfl (by kernel_rfl) (by kernel_rfl) (by decide) (by kernel_rfl) ?_ (fun _ _ _ h => by cases h) ?_ ?_
    · intro i u x x' hi hR hb'
      have hi' : i = 0 ∨ i = 1 ∨ i = 2 ∨ i = 3 ∨ i = 4 ∨ i = 5 ∨ i = 6 ∨ i = 7 ∨ i = 8 := by omega
      rcases hi' with rfl | rfl | rfl | rfl | rfl | rfl | rfl | rfl | rfl
      · exact hR
      · exact hR
      · exact hR
      · exact hR
      · obtain ⟨A0, c0, e, hr, hf⟩ := hR; exact ⟨A0, c0, e, hr.below hb', hf⟩
      · exact hR
      · exact hR
      · obtain ⟨A0, c0, e, hr, hf⟩ := hR; exact ⟨A0, c0, e, hr.below hb', hf⟩
      · obtain ⟨A0, c0, B0, d0, e, h1, h2, h3, h4⟩ := hR; exact ⟨A0, c0, B0, d0, e, h1.below hb', h2.below hb', h3, h4⟩
    · intro i av x K hi hF hb' hw hK
      have hi' : i = 0 ∨ i = 1 ∨ i = 2 ∨ i = 3 ∨ i = 4 ∨ i = 5 ∨ i = 6 ∨ i = 7 ∨ i = 8 := by omega
      rcases hi' with rfl | rfl | rfl | rfl | rfl | rfl | rfl | rfl | rfl
      · simp only [wpOp, List.getElem?_toArray, List.getElem?_cons_zero, Region.wanted, if_true]
        refine Or.inl ?_
        have e0 : av.tmps.getD 2 undef = .pointer (some ⟨w.heap.size, 0, none⟩) := hF.2.2 2 (by decide)
        have e0e : av.eval (.tmp 2) = .pointer (some ⟨w.heap.size, 0, none⟩) := e0
        have e0g : av.tmps[2]?.getD undef = .pointer (some ⟨w.heap.size, 0, none⟩) := by have := e0; simp only [Array.getD_eq_getD_getElem?] at this; exact this
        clear hw hF
        simp only [Oper.wp, execOp]
        try simp only [e0e]
        go_simp
        exact hK _ x (by first | rfl | (simp only [Nat.add_zero]; done) | (congr 1; omega)) (Below.refl _ _) (fun h => by cases h)
      · simp only [wpOp, List.getElem?_toArray, List.getElem?_cons_succ, List.getElem?_cons_zero, Region.wanted, if_true]
        refine Or.inl ?_
        have e0 : av.tmps.getD 25 undef = .pointer (some ⟨w.heap.size, 0, none⟩) := (hw 0 (by kernel_rfl))
        have e0e : av.eval (.tmp 25) = .pointer (some ⟨w.heap.size, 0, none⟩) := e0
        have e0g : av.tmps[25]?.getD undef = .pointer (some ⟨w.heap.size, 0, none⟩) := by have := e0; simp only [Array.getD_eq_getD_getElem?] at this; exact this
        obtain ⟨f0, f1, f2⟩ := FA.out x hb'
        clear hw hF
        simp only [Oper.wp, execOp]
        try simp only [e0e]
        go_simp
        exact hK _ x (by first | rfl | (simp only [Nat.add_zero]; done) | (congr 1; omega)) (Below.refl _ _) (fun h => by cases h)
      · simp only [wpOp, List.getElem?_toArray, List.getElem?_cons_succ, List.getElem?_cons_zero, Region.wanted, if_true]
        refine Or.inl ?_
        have e0 : av.tmps.getD 2 undef = .pointer (some ⟨w.heap.size, 0, none⟩) := hF.2.2 2 (by decide)
        have e0e : av.eval (.tmp 2) = .pointer (some ⟨w.heap.size, 0, none⟩) := e0
        have e0g : av.tmps[2]?.getD undef = .pointer (some ⟨w.heap.size, 0, none⟩) := by have := e0; simp only [Array.getD_eq_getD_getElem?] at this; exact this
        clear hw hF
        simp only [Oper.wp, execOp]
        try simp only [e0e]
        go_simp
        exact hK _ x (by first | rfl | (simp only [Nat.add_zero]; done) | (congr 1; omega)) (Below.refl _ _) (fun h => by cases h)
      · simp only [wpOp, List.getElem?_toArray, List.getElem?_cons_succ, List.getElem?_cons_zero, Region.wanted, if_true]
        refine Or.inl ?_
        have e0 : av.tmps.getD 27 undef = .pointer (some ⟨w.heap.size, 1, none⟩) := (hw 2 (by kernel_rfl))
        have e0e : av.eval (.tmp 27) = .pointer (some ⟨w.heap.size, 1, none⟩) := e0
        have e0g : av.tmps[27]?.getD undef = .pointer (some ⟨w.heap.size, 1, none⟩) := by have := e0; simp only [Array.getD_eq_getD_getElem?] at this; exact this
        obtain ⟨f0, f1, f2⟩ := FA.out x hb'
        clear hw hF
        simp only [Oper.wp, execOp]
        try simp only [e0e]
        go_simp
        exact hK _ x (by first | rfl | (simp only [Nat.add_zero]; done) | (congr 1; omega)) (Below.refl _ _) (fun h => by cases h)
      · simp only [wpOp, List.getElem?_toArray, List.getElem?_cons_succ, List.getElem?_cons_zero, Region.wanted, if_true]
        refine Or.inl ?_
        have e0 : av.tmps.getD 28 undef = .slice A ks.length c := (hw 3 (by kernel_rfl))
        have e0e : av.eval (.tmp 28) = .slice A ks.length c := e0
        have e0g : av.tmps[28]?.getD undef = .slice A ks.length c := by have := e0; simp only [Array.getD_eq_getD_getElem?] at this; exact this
        clear hw hF
        simp only [Oper.wp, execOp]
        try simp only [e0e]
        go_simp
        refine (LS.out x hb').mono ?_
        rintro e x' ⟨A0, c0, rfl, hr, hx, hf⟩
        exact hK _ x' ⟨A0, c0, rfl, hr, fun b_ o_ e_ => by have := hf b_ o_ e_; have := SW2.out; have := hb'.size; omega⟩ hx (fun h => by cases h)
      · simp only [wpOp, List.getElem?_toArray, List.getElem?_cons_succ, List.getElem?_cons_zero, Region.wanted, if_true]
        refine Or.inl ?_
        have e0 : av.tmps.getD 2 undef = .pointer (some ⟨w.heap.size, 0, none⟩) := hF.2.2 2 (by decide)
        have e0e : av.eval (.tmp 2) = .pointer (some ⟨w.heap.size, 0, none⟩) := e0
        have e0g : av.tmps[2]?.getD undef = .pointer (some ⟨w.heap.size, 0, none⟩) := by have := e0; simp only [Array.getD_eq_getD_getElem?] at this; exact this
        clear hw hF
        simp only [Oper.wp, execOp]
        try simp only [e0e]
        go_simp
        exact hK _ x (by first | rfl | (simp only [Nat.add_zero]; done) | (congr 1; omega)) (Below.refl _ _) (fun h => by cases h)
      · simp only [wpOp, List.getElem?_toArray, List.getElem?_cons_succ, List.getElem?_cons_zero, Region.wanted, if_true]
        refine Or.inl ?_
        have e0 : av.tmps.getD 30 undef = .pointer (some ⟨w.heap.size, 2, none⟩) := (hw 5 (by kernel_rfl))
        have e0e : av.eval (.tmp 30) = .pointer (some ⟨w.heap.size, 2, none⟩) := e0
        have e0g : av.tmps[30]?.getD undef = .pointer (some ⟨w.heap.size, 2, none⟩) := by have := e0; simp only [Array.getD_eq_getD_getElem?] at this; exact this
        obtain ⟨f0, f1, f2⟩ := FA.out x hb'
        clear hw hF
        simp only [Oper.wp, execOp]
        try simp only [e0e]
        go_simp
        exact hK _ x (by first | rfl | (simp only [Nat.add_zero]; done) | (congr 1; omega)) (Below.refl _ _) (fun h => by cases h)
      · simp only [wpOp, List.getElem?_toArray, List.getElem?_cons_succ, List.getElem?_cons_zero, Region.wanted, if_true]
        refine Or.inl ?_
        have e0 : av.tmps.getD 31 undef = .slice B ds.length d := (hw 6 (by kernel_rfl))
        have e0e : av.eval (.tmp 31) = .slice B ds.length d := e0
        have e0g : av.tmps[31]?.getD undef = .slice B ds.length d := by have := e0; simp only [Array.getD_eq_getD_getElem?] at this; exact this
        clear hw hF
        simp only [Oper.wp, execOp]
        try simp only [e0e]
        go_simp
        refine (LI.out x hb').mono ?_
        rintro e x' ⟨A0, c0, rfl, hr, hx, hf⟩
        exact hK _ x' ⟨A0, c0, rfl, hr, fun b_ o_ e_ => by have := hf b_ o_ e_; have := SW2.out; have := hb'.size; omega⟩ hx (fun h => by cases h)
      · simp only [wpOp, List.getElem?_toArray, List.getElem?_cons_succ, List.getElem?_cons_zero, Region.wanted, if_true]
        refine Or.inl ?_
        have e0 : av.tmps.getD 26 undef = .bool lf := (hw 1 (by kernel_rfl))
        have e0e : av.eval (.tmp 26) = .bool lf := e0
        have e0g : av.tmps[26]?.getD undef = .bool lf := by have := e0; simp only [Array.getD_eq_getD_getElem?] at this; exact this
        obtain ⟨A1, c1, e1, hr1, hf1⟩ := (hw 4 (by kernel_rfl))
        have e1e : av.eval (.tmp 29) = .slice A1 ks.length c1 := e1
        have e1g : av.tmps[29]?.getD undef = .slice A1 ks.length c1 := by have := e1; simp only [Array.getD_eq_getD_getElem?] at this; exact this
        obtain ⟨A2, c2, e2, hr2, hf2⟩ := (hw 7 (by kernel_rfl))
        have e2e : av.eval (.tmp 32) = .slice A2 ds.length c2 := e2
        have e2g : av.tmps[32]?.getD undef = .slice A2 ds.length c2 := by have := e2; simp only [Array.getD_eq_getD_getElem?] at this; exact this
        clear hw hF
        simp only [Oper.wp, execOp]
        try simp only [e0e, e1e, e2e]
        go_simp
        exact hK _ x ⟨A1, c1, A2, c2, rfl, hr1, hr2, hf1, hf2⟩ (Below.refl _ _) (fun h => by cases h)
    · intro av x hF hb' hR _
      have e0 : av.tmps.getD 25 undef = .pointer (some ⟨w.heap.size, 0, none⟩) := hR 0 (by decide)
      have e1 : av.tmps.getD 26 undef = .bool lf := hR 1 (by decide)
      have e2 : av.tmps.getD 27 undef = .pointer (some ⟨w.heap.size, 1, none⟩) := hR 2 (by decide)
      have e3 : av.tmps.getD 28 undef = .slice A ks.length c := hR 3 (by decide)
      obtain ⟨A4, c4, e4, hr4, hf4⟩ := hR 4 (by decide)
      replace e4 : av.tmps.getD 29 undef = .slice A4 ks.length c4 := e4
      have e5 : av.tmps.getD 30 undef = .pointer (some ⟨w.heap.size, 2, none⟩) := hR 5 (by decide)
      have e6 : av.tmps.getD 31 undef = .slice B ds.length d := hR 6 (by decide)
      obtain ⟨A7, c7, e7, hr7, hf7⟩ := hR 7 (by decide)
      replace e7 : av.tmps.getD 32 undef = .slice A7 ds.length c7 := e7
      obtain ⟨Ax8, cx8, Bx8, dx8, e8, h1x8, h2x8, h3x8, h4x8⟩ := hR 8 (by decide)
      replace e8 : av.tmps.getD 33 undef = .agg #[.bool lf, .slice Ax8 ks.length cx8, .slice Bx8 ds.length dx8] := e8
      rw [hF.fold (by kernel_rfl)]
      simp only [List.foldl_cons, List.foldl_nil, e0, e1, e2, e3, e4, e5, e6, e7, e8]
      simp only [Act.put, List.setIfInBounds_toArray, List.set_cons_zero, List.set_cons_succ]
      change wpOps _ _ _ [9] _ _
      simp only [wpOps_cons]
      clear e0 e1 e2 e3 e4 e5 e6 e7 e8 hR hF
      have Q3 := Lib.hid (row_on Q2.out hb')
      have K3 := Lib.hid (K2.out.trans (hb'.mono K2.out.size))
      have X1 := Lib.hid h1x8
      have X2 := Lib.hid h2x8
      have X3 := Lib.hid h3x8
      have X4 := Lib.hid h4x8
      clear hb' h1x8 h2x8 h3x8 h4x8
      have p0 := row_c Q3.out (i := 0) rfl
      have p1 := row_c Q3.out (i := 1) rfl
      have p2 := row_c Q3.out (i := 2) rfl
      have y0 := frozen_of_row _ _ 0 _ _ Q3.out
      have y1 := frozen_of_row _ _ 1 _ _ Q3.out
      have y2 := frozen_of_row _ _ 2 _ _ Q3.out
      try rw [wpOps_cons]
      simp only [wpOp, List.getElem?_toArray, List.getElem?_cons_succ, List.getElem?_cons_zero, Region.wanted, if_true]
      refine Or.inl ?_
      simp only [Oper.wp, execOp]
      go_simp
      try simp only [wpOps]
      go_wp2
      refine bodyPost_ret (v := .agg #[.bool lf, .slice Ax8 ks.length cx8, .slice Bx8 ds.length dx8]) (by simp [results, Try.results24, go_sem, p0, p1, p2]) rfl ⟨Ax8, cx8, Bx8, dx8, rfl, ?_, ?_, ?_⟩
      · exact ((X1.out.set X3.out (by omega) _ _).set X3.out (by omega) _ _).set X3.out (by omega) _ _
      · exact ((X2.out.set X4.out (by omega) _ _).set X4.out (by omega) _ _).set X4.out (by omega) _ _
      · exact ((K3.out.setCell (by simp) _).setCell (by simp) _).setCell (by simp) _
set_option maxHeartbeats 4000000 in
set_option maxRecDepth 100000 in
theorem out_any (lf : Bool) (A : Option Addr) (c : Nat) (ks : List (List UInt8)) (B : Option Addr) (d : Nat) (ds : List Int) (k : Nat) (w : World) (h : Rl sv w A c ks) (h2 : Rl nv w B d ds) (hl : ks.length ≤ 3999999) (hs : shapedB lf ks ds = true) (hk : k < ds.length) (h0 : 0 < ks.length) :
    Calls Try.prog 24 #[.agg #[.bool lf, .slice A ks.length c, .slice B ds.length d], .int .i64 k] w fun e w' => ∃ A' c' B' d', e = .returned (.agg #[.bool lf, .slice A' (ks.take (if lf then k else k - 1) ++ [] ++ ks.drop ((if lf then k else k - 1) + 1)).length c', .slice B' (ds.take k ++ [] ++ ds.drop (k + 1)).length d']) ∧ Rl sv w' A' c' (ks.take (if lf then k else k - 1) ++ [] ++ ks.drop ((if lf then k else k - 1) + 1)) ∧ Rl nv w' B' d' (ds.take k ++ [] ++ ds.drop (k + 1)) ∧ Below w.heap.size w w' := by
  have hl : ks.length ≤ 4000000 := by omega
  have hsd : ds.length = if lf then ks.length else ks.length + 1 := by unfold shapedB at hs; cases lf <;> simpa using hs
  have hld : ds.length ≤ 4000000 := by rw [hsd]; split <;> omega
  obtain ⟨j, hj⟩ : ∃ j, (if lf then k else k - 1) = j := ⟨_, rfl⟩
  have hj2 : j + 1 ≤ ks.length := by rw [← hj]; cases lf <;> simp at hsd ⊢ <;> omega
  have KH := Lib.hid (show lf = false → max 0 ((k : Int) - 1) = (j : Int) from fun h => by rw [h] at hj; simp at hj; omega)
  have KT := Lib.hid (show lf = true → (k : Int) = (j : Int) from fun h => by rw [h] at hj; simp at hj; omega)
  rw [hj]
  obtain ⟨zs, hzs⟩ : ∃ z, ks.take j ++ [] ++ ks.drop (j + 1) = z := ⟨_, rfl⟩
  obtain ⟨ys, hys⟩ : ∃ z, ds.take k ++ [] ++ ds.drop (k + 1) = z := ⟨_, rfl⟩
  rw [hzs, hys]
  have ZZ := Lib.hid (And.intro hzs hys)
  clear hzs hys hsd hj
  obtain ⟨W, hW⟩ : ∃ W : World, W = (w.alloc (.cells #[.bool lf, .slice A ks.length c, .slice B ds.length d] 25)).alloc (.cells #[.bool false, .slice none 0 0, .slice none 0 0] 25) := ⟨_, rfl⟩
  have ra := row_on (heap_alloc_new w (.cells #[.bool lf, .slice A ks.length c, .slice B ds.length d] 25)) (bda _ (.cells #[.bool false, .slice none 0 0, .slice none 0 0] 25))
  have rb := heap_alloc_new (w.alloc (.cells #[.bool lf, .slice A ks.length c, .slice B ds.length d] 25)) (.cells #[.bool false, .slice none 0 0, .slice none 0 0] 25)
  simp only [World.size_alloc] at rb
  rw [← hW] at ra rb
  have RA := Lib.hid ra
  have RB := Lib.hid rb
  have BW := Lib.hid (show Below w.heap.size w W by rw [hW]; exact bon (bda _ _) (bda _ _))
  have HW := Lib.hid hW
  have SH := Lib.hid (shaped_any lf A c ks B d ds W hl)
  rw [hs] at SH
  clear ra rb hW hs
  have H := Lib.hid h
  have H2 := Lib.hid h2
  clear h h2
  go_enter Try.func24, Try.ntmps24
  go_wp2_with fail
  rw [← HW.out]
  refine SH.out.mono ?_
  rintro e w2 ⟨rfl, hb⟩
  have R2 := Lib.hid (row_on RA.out hb)
  have Q2 := Lib.hid (row_on RB.out hb)
  have K2 := Lib.hid (BW.out.trans (hb.mono BW.out.size))
  clear hb SH HW
  have SW2 := Lib.hid (show w.heap.size + 2 ≤ w2.heap.size from heap_lt Q2.out)
  have V1 := Lib.hid (H.out.below K2.out)
  have V2 := Lib.hid (H2.out.below K2.out)
  have FA := Lib.hid (fun x (K : Below w2.heap.size w2 x) => And.intro (row_c (row_on R2.out K) (i := 0) rfl) (And.intro (row_c (row_on R2.out K) (i := 1) rfl) (row_c (row_on R2.out K) (i := 2) rfl)))
  have LS := Lib.hid (fun V (hV : Below w2.heap.size w2 V) => show Calls Try.prog 41 #[.slice A ks.length c, .int .i64 (j : Int), .int .i64 1, .slice none 0 0] V fun e w' => ∃ A' c', e = .returned (.slice A' (ks.take j ++ [] ++ ks.drop (j + 1)).length c') ∧ Rl sv w' A' c' (ks.take j ++ [] ++ ks.drop (j + 1)) ∧ Below V.heap.size V w' ∧ Fr V.heap.size A' from lay_s A c ks j 1 none 0 [] V (V1.out.below hV) (Rl.nil_ _ _ _ _) hj2 (by omega) (by simp))
  have LI := Lib.hid (fun V (hV : Below w2.heap.size w2 V) => show Calls Try.prog 42 #[.slice B ds.length d, .int .i64 (k : Int), .int .i64 1, .slice none 0 0] V fun e w' => ∃ A' c', e = .returned (.slice A' (ds.take k ++ [] ++ ds.drop (k + 1)).length c') ∧ Rl nv w' A' c' (ds.take k ++ [] ++ ds.drop (k + 1)) ∧ Below V.heap.size V w' ∧ Fr V.heap.size A' from lay_i B d ds k 1 none 0 [] V (V2.out.below hV) (Rl.nil_ _ _ _ _) (by omega) (by omega) (by simp))
  rw [ZZ.out.1] at LS
  rw [ZZ.out.2] at LI
  have f0 := row_c R2.out (i := 0) rfl
  have f1 := row_c R2.out (i := 1) rfl
  have f2 := row_c R2.out (i := 2) rfl
  have e1 : decide ((k : Int) < 0) = false := decide_eq_false (by omega)
  have e2 : decide ((ds.length : Int) ≤ (k : Int)) = false := decide_eq_false (by omega)
  have e2' : decide (ds.length ≤ k) = false := decide_eq_false (by omega)
  have e3 : (ks.length == 0) = false := by simp; intro h; rw [h] at h0; simp at h0
  have e4 : ((ks.length : Int) == 0) = false := by simp; intro h; rw [h] at h0; simp at h0
  have e5 : IntKind.i64.wrap ((k : Int) - 1) = (k : Int) - 1 := IntWalk.i64_in _ (by omega)
  clear hl hld hk h0 hj2
  cases lf
  · have mx : max 0 ((k : Int) - 1) = (j : Int) := KH.out rfl
    go_upto_region 8 with (fail)
    try rw [mx]
    clear f0 f1 f2 e1 e2 e2' e3 e4 e5
    refine wp_operands (W := w2) rfl 11 [41, 42, 43, 44, 45, 46, 47, 48, 49, 50, 51] (fun i u x => match i with | 0 => u = .pointer (some ⟨w.heap.size, 0, none⟩) | 1 => u = .bool false | 2 => u = .pointer (some ⟨w.heap.size, 1, none⟩) | 3 => u = .slice A ks.length c | 4 => u = .int .i64 (j : Int) | 5 => ∃ A0 c0, u = .slice A0 zs.length c0 ∧ Rl sv x A0 c0 zs ∧ Fr (w.heap.size + 2) A0 | 6 => u = .pointer (some ⟨w.heap.size, 2, none⟩) | 7 => u = .slice B ds.length d | 8 => u = .int .i64 (k : Int) | 9 => ∃ A0 c0, u = .slice A0 ys.length c0 ∧ Rl nv x A0 c0 ys ∧ Fr (w.heap.size + 2) A0 | 10 => ∃ A0 c0 B0 d0, u = .agg #[.bool false, .slice A0 zs.length c0, .slice B0 ys.length d0] ∧ Rl sv x A0 c0 zs ∧ Rl nv x B0 d0 ys ∧ Fr (w.heap.size + 2) A0 ∧ Fr (w.heap.size + 2) B0 | _ => True) (fun _ => false)
      (by decide) rfl (by kernel_rfl) (by kernel_rfl) (by decide) (by kernel_rfl) ?_ (fun _ _ _ h => by cases h) ?_ ?_
    · intro i u x x' hi hR hb'
      have hi' : i = 0 ∨ i = 1 ∨ i = 2 ∨ i = 3 ∨ i = 4 ∨ i = 5 ∨ i = 6 ∨ i = 7 ∨ i = 8 ∨ i = 9 ∨ i = 10 := by omega
      rcases hi' with rfl | rfl | rfl | rfl | rfl | rfl | rfl | rfl | rfl | rfl | rfl
      · exact hR
      · exact hR
      · exact hR
      · exact hR
      · exact hR
      · obtain ⟨A0, c0, e, hr, hf⟩ := hR; exact ⟨A0, c0, e, hr.below hb', hf⟩
      · exact hR
      · exact hR
      · exact hR
      · obtain ⟨A0, c0, e, hr, hf⟩ := hR; exact ⟨A0, c0, e, hr.below hb', hf⟩
      · obtain ⟨A0, c0, B0, d0, e, h1, h2, h3, h4⟩ := hR; exact ⟨A0, c0, B0, d0, e, h1.below hb', h2.below hb', h3, h4⟩
    · intro i av x K hi hF hb' hw hK
      have hi' : i = 0 ∨ i = 1 ∨ i = 2 ∨ i = 3 ∨ i = 4 ∨ i = 5 ∨ i = 6 ∨ i = 7 ∨ i = 8 ∨ i = 9 ∨ i = 10 := by omega
      rcases hi' with rfl | rfl | rfl | rfl | rfl | rfl | rfl | rfl | rfl | rfl | rfl
      · simp only [wpOp, List.getElem?_toArray, List.getElem?_cons_zero, Region.wanted, if_true]
        refine Or.inl ?_
        have e0 : av.tmps.getD 2 undef = .pointer (some ⟨w.heap.size, 0, none⟩) := hF.2.2 2 (by decide)
        have e0e : av.eval (.tmp 2) = .pointer (some ⟨w.heap.size, 0, none⟩) := e0
        have e0g : av.tmps[2]?.getD undef = .pointer (some ⟨w.heap.size, 0, none⟩) := by have := e0; simp only [Array.getD_eq_getD_getElem?] at this; exact this
        clear hw hF
        simp only [Oper.wp, execOp]
        try simp only [e0e]
        go_simp
        exact hK _ x (by first | rfl | (simp only [Nat.add_zero]; done) | (congr 1; omega)) (Below.refl _ _) (fun h => by cases h)
      · simp only [wpOp, List.getElem?_toArray, List.getElem?_cons_succ, List.getElem?_cons_zero, Region.wanted, if_true]
        refine Or.inl ?_
        have e0 : av.tmps.getD 41 undef = .pointer (some ⟨w.heap.size, 0, none⟩) := (hw 0 (by kernel_rfl))
        have e0e : av.eval (.tmp 41) = .pointer (some ⟨w.heap.size, 0, none⟩) := e0
        have e0g : av.tmps[41]?.getD undef = .pointer (some ⟨w.heap.size, 0, none⟩) := by have := e0; simp only [Array.getD_eq_getD_getElem?] at this; exact this
        obtain ⟨f0, f1, f2⟩ := FA.out x hb'
        clear hw hF
        simp only [Oper.wp, execOp]
        try simp only [e0e]
        go_simp
        exact hK _ x (by first | rfl | (simp only [Nat.add_zero]; done) | (congr 1; omega)) (Below.refl _ _) (fun h => by cases h)
      · simp only [wpOp, List.getElem?_toArray, List.getElem?_cons_succ, List.getElem?_cons_zero, Region.wanted, if_true]
        refine Or.inl ?_
        have e0 : av.tmps.getD 2 undef = .pointer (some ⟨w.heap.size, 0, none⟩) := hF.2.2 2 (by decide)
        have e0e : av.eval (.tmp 2) = .pointer (some ⟨w.heap.size, 0, none⟩) := e0
        have e0g : av.tmps[2]?.getD undef = .pointer (some ⟨w.heap.size, 0, none⟩) := by have := e0; simp only [Array.getD_eq_getD_getElem?] at this; exact this
        clear hw hF
        simp only [Oper.wp, execOp]
        try simp only [e0e]
        go_simp
        exact hK _ x (by first | rfl | (simp only [Nat.add_zero]; done) | (congr 1; omega)) (Below.refl _ _) (fun h => by cases h)
      · simp only [wpOp, List.getElem?_toArray, List.getElem?_cons_succ, List.getElem?_cons_zero, Region.wanted, if_true]
        refine Or.inl ?_
        have e0 : av.tmps.getD 43 undef = .pointer (some ⟨w.heap.size, 1, none⟩) := (hw 2 (by kernel_rfl))
        have e0e : av.eval (.tmp 43) = .pointer (some ⟨w.heap.size, 1, none⟩) := e0
        have e0g : av.tmps[43]?.getD undef = .pointer (some ⟨w.heap.size, 1, none⟩) := by have := e0; simp only [Array.getD_eq_getD_getElem?] at this; exact this
        obtain ⟨f0, f1, f2⟩ := FA.out x hb'
        clear hw hF
        simp only [Oper.wp, execOp]
        try simp only [e0e]
        go_simp
        exact hK _ x (by first | rfl | (simp only [Nat.add_zero]; done) | (congr 1; omega)) (Below.refl _ _) (fun h => by cases h)
      · simp only [wpOp, List.getElem?_toArray, List.getElem?_cons_succ, List.getElem?_cons_zero, Region.wanted, if_true]
        refine Or.inl ?_
        have e0 : av.tmps.getD 5 undef = .int .i64 (j : Int) := hF.2.2 5 (by decide)
        have e0e : av.eval (.tmp 5) = .int .i64 (j : Int) := e0
        have e0g : av.tmps[5]?.getD undef = .int .i64 (j : Int) := by have := e0; simp only [Array.getD_eq_getD_getElem?] at this; exact this
        clear hw hF
        simp only [Oper.wp, execOp]
        try simp only [e0e]
        go_simp
        exact hK _ x (by first | rfl | (simp only [Nat.add_zero]; done) | (congr 1; omega)) (Below.refl _ _) (fun h => by cases h)
      · simp only [wpOp, List.getElem?_toArray, List.getElem?_cons_succ, List.getElem?_cons_zero, Region.wanted, if_true]
        refine Or.inl ?_
        have e0 : av.tmps.getD 44 undef = .slice A ks.length c := (hw 3 (by kernel_rfl))
        have e0e : av.eval (.tmp 44) = .slice A ks.length c := e0
        have e0g : av.tmps[44]?.getD undef = .slice A ks.length c := by have := e0; simp only [Array.getD_eq_getD_getElem?] at this; exact this
        have e1 : av.tmps.getD 45 undef = .int .i64 (j : Int) := (hw 4 (by kernel_rfl))
        have e1e : av.eval (.tmp 45) = .int .i64 (j : Int) := e1
        have e1g : av.tmps[45]?.getD undef = .int .i64 (j : Int) := by have := e1; simp only [Array.getD_eq_getD_getElem?] at this; exact this
        clear hw hF
        simp only [Oper.wp, execOp]
        try simp only [e0e, e1e]
        go_simp
        refine (LS.out x hb').mono ?_
        rintro e x' ⟨A0, c0, rfl, hr, hx, hf⟩
        exact hK _ x' ⟨A0, c0, rfl, hr, fun b_ o_ e_ => by have := hf b_ o_ e_; have := SW2.out; have := hb'.size; omega⟩ hx (fun h => by cases h)
      · simp only [wpOp, List.getElem?_toArray, List.getElem?_cons_succ, List.getElem?_cons_zero, Region.wanted, if_true]
        refine Or.inl ?_
        have e0 : av.tmps.getD 2 undef = .pointer (some ⟨w.heap.size, 0, none⟩) := hF.2.2 2 (by decide)
        have e0e : av.eval (.tmp 2) = .pointer (some ⟨w.heap.size, 0, none⟩) := e0
        have e0g : av.tmps[2]?.getD undef = .pointer (some ⟨w.heap.size, 0, none⟩) := by have := e0; simp only [Array.getD_eq_getD_getElem?] at this; exact this
        clear hw hF
        simp only [Oper.wp, execOp]
        try simp only [e0e]
        go_simp
        exact hK _ x (by first | rfl | (simp only [Nat.add_zero]; done) | (congr 1; omega)) (Below.refl _ _) (fun h => by cases h)
      · simp only [wpOp, List.getElem?_toArray, List.getElem?_cons_succ, List.getElem?_cons_zero, Region.wanted, if_true]
        refine Or.inl ?_
        have e0 : av.tmps.getD 47 undef = .pointer (some ⟨w.heap.size, 2, none⟩) := (hw 6 (by kernel_rfl))
        have e0e : av.eval (.tmp 47) = .pointer (some ⟨w.heap.size, 2, none⟩) := e0
        have e0g : av.tmps[47]?.getD undef = .pointer (some ⟨w.heap.size, 2, none⟩) := by have := e0; simp only [Array.getD_eq_getD_getElem?] at this; exact this
        obtain ⟨f0, f1, f2⟩ := FA.out x hb'
        clear hw hF
        simp only [Oper.wp, execOp]
        try simp only [e0e]
        go_simp
        exact hK _ x (by first | rfl | (simp only [Nat.add_zero]; done) | (congr 1; omega)) (Below.refl _ _) (fun h => by cases h)
      · simp only [wpOp, List.getElem?_toArray, List.getElem?_cons_succ, List.getElem?_cons_zero, Region.wanted, if_true]
        refine Or.inl ?_
        have e0 : av.tmps.getD 1 undef = .int .i64 (k : Int) := hF.2.2 1 (by decide)
        have e0e : av.eval (.tmp 1) = .int .i64 (k : Int) := e0
        have e0g : av.tmps[1]?.getD undef = .int .i64 (k : Int) := by have := e0; simp only [Array.getD_eq_getD_getElem?] at this; exact this
        clear hw hF
        simp only [Oper.wp, execOp]
        try simp only [e0e]
        go_simp
        exact hK _ x (by first | rfl | (simp only [Nat.add_zero]; done) | (congr 1; omega)) (Below.refl _ _) (fun h => by cases h)
      · simp only [wpOp, List.getElem?_toArray, List.getElem?_cons_succ, List.getElem?_cons_zero, Region.wanted, if_true]
        refine Or.inl ?_
        have e0 : av.tmps.getD 48 undef = .slice B ds.length d := (hw 7 (by kernel_rfl))
        have e0e : av.eval (.tmp 48) = .slice B ds.length d := e0
        have e0g : av.tmps[48]?.getD undef = .slice B ds.length d := by have := e0; simp only [Array.getD_eq_getD_getElem?] at this; exact this
        have e1 : av.tmps.getD 49 undef = .int .i64 (k : Int) := (hw 8 (by kernel_rfl))
        have e1e : av.eval (.tmp 49) = .int .i64 (k : Int) := e1
        have e1g : av.tmps[49]?.getD undef = .int .i64 (k : Int) := by have := e1; simp only [Array.getD_eq_getD_getElem?] at this; exact this
        clear hw hF
        simp only [Oper.wp, execOp]
        try simp only [e0e, e1e]
        go_simp
        refine (LI.out x hb').mono ?_
        rintro e x' ⟨A0, c0, rfl, hr, hx, hf⟩
        exact hK _ x' ⟨A0, c0, rfl, hr, fun b_ o_ e_ => by have := hf b_ o_ e_; have := SW2.out; have := hb'.size; omega⟩ hx (fun h => by cases h)
      · simp only [wpOp, List.getElem?_toArray, List.getElem?_cons_succ, List.getElem?_cons_zero, Region.wanted, if_true]
        refine Or.inl ?_
        have e0 : av.tmps.getD 42 undef = .bool false := (hw 1 (by kernel_rfl))
        have e0e : av.eval (.tmp 42) = .bool false := e0
        have e0g : av.tmps[42]?.getD undef = .bool false := by have := e0; simp only [Array.getD_eq_getD_getElem?] at this; exact this
        obtain ⟨A1, c1, e1, hr1, hf1⟩ := (hw 5 (by kernel_rfl))
        have e1e : av.eval (.tmp 46) = .slice A1 zs.length c1 := e1
        have e1g : av.tmps[46]?.getD undef = .slice A1 zs.length c1 := by have := e1; simp only [Array.getD_eq_getD_getElem?] at this; exact this
        obtain ⟨A2, c2, e2, hr2, hf2⟩ := (hw 9 (by kernel_rfl))
        have e2e : av.eval (.tmp 50) = .slice A2 ys.length c2 := e2
        have e2g : av.tmps[50]?.getD undef = .slice A2 ys.length c2 := by have := e2; simp only [Array.getD_eq_getD_getElem?] at this; exact this
        clear hw hF
        simp only [Oper.wp, execOp]
        try simp only [e0e, e1e, e2e]
        go_simp
        exact hK _ x ⟨A1, c1, A2, c2, rfl, hr1, hr2, hf1, hf2⟩ (Below.refl _ _) (fun h => by cases h)
    · intro av x hF hb' hR _
      have e0 : av.tmps.getD 41 undef = .pointer (some ⟨w.heap.size, 0, none⟩) := hR 0 (by decide)
      have e1 : av.tmps.getD 42 undef = .bool false := hR 1 (by decide)
      have e2 : av.tmps.getD 43 undef = .pointer (some ⟨w.heap.size, 1, none⟩) := hR 2 (by decide)
      have e3 : av.tmps.getD 44 undef = .slice A ks.length c := hR 3 (by decide)
      have e4 : av.tmps.getD 45 undef = .int .i64 (j : Int) := hR 4 (by decide)
      obtain ⟨A5, c5, e5, hr5, hf5⟩ := hR 5 (by decide)
      replace e5 : av.tmps.getD 46 undef = .slice A5 zs.length c5 := e5
      have e6 : av.tmps.getD 47 undef = .pointer (some ⟨w.heap.size, 2, none⟩) := hR 6 (by decide)
      have e7 : av.tmps.getD 48 undef = .slice B ds.length d := hR 7 (by decide)
      have e8 : av.tmps.getD 49 undef = .int .i64 (k : Int) := hR 8 (by decide)
      obtain ⟨A9, c9, e9, hr9, hf9⟩ := hR 9 (by decide)
      replace e9 : av.tmps.getD 50 undef = .slice A9 ys.length c9 := e9
      obtain ⟨Ax10, cx10, Bx10, dx10, e10, h1x10, h2x10, h3x10, h4x10⟩ := hR 10 (by decide)
      replace e10 : av.tmps.getD 51 undef = .agg #[.bool false, .slice Ax10 zs.length cx10, .slice Bx10 ys.length dx10] := e10
      rw [hF.fold (by kernel_rfl)]
      simp only [List.foldl_cons, List.foldl_nil, e0, e1, e2, e3, e4, e5, e6, e7, e8, e9, e10]
      simp only [Act.put, List.setIfInBounds_toArray, List.set_cons_zero, List.set_cons_succ]
      change wpOps _ _ _ [11] _ _
      simp only [wpOps_cons]
      clear e0 e1 e2 e3 e4 e5 e6 e7 e8 e9 e10 hR hF
      have Q3 := Lib.hid (row_on Q2.out hb')
      have K3 := Lib.hid (K2.out.trans (hb'.mono K2.out.size))
      have X1 := Lib.hid h1x10
      have X2 := Lib.hid h2x10
      have X3 := Lib.hid h3x10
      have X4 := Lib.hid h4x10
      clear hb' h1x10 h2x10 h3x10 h4x10
      have p0 := row_c Q3.out (i := 0) rfl
      have p1 := row_c Q3.out (i := 1) rfl
      have p2 := row_c Q3.out (i := 2) rfl
      have y0 := frozen_of_row _ _ 0 _ _ Q3.out
      have y1 := frozen_of_row _ _ 1 _ _ Q3.out
      have y2 := frozen_of_row _ _ 2 _ _ Q3.out
      try rw [wpOps_cons]
      simp only [wpOp, List.getElem?_toArray, List.getElem?_cons_succ, List.getElem?_cons_zero, Region.wanted, if_true]
      refine Or.inl ?_
      simp only [Oper.wp, execOp]
      go_simp
      try simp only [wpOps]
      go_wp2
      refine bodyPost_ret (v := .agg #[.bool false, .slice Ax10 zs.length cx10, .slice Bx10 ys.length dx10]) (by simp [results, Try.results24, go_sem, p0, p1, p2]) rfl ⟨Ax10, cx10, Bx10, dx10, rfl, ?_, ?_, ?_⟩
      · exact ((X1.out.set X3.out (by omega) _ _).set X3.out (by omega) _ _).set X3.out (by omega) _ _
      · exact ((X2.out.set X4.out (by omega) _ _).set X4.out (by omega) _ _).set X4.out (by omega) _ _
      · exact ((K3.out.setCell (by simp) _).setCell (by simp) _).setCell (by simp) _
  · go_upto_region 8 with (fail)
    obtain rfl : k = j := by have := KT.out trivial; omega
    clear f0 f1 f2 e1 e2 e2' e3 e4 e5
    refine wp_operands (W := w2) rfl 11 [41, 42, 43, 44, 45, 46, 47, 48, 49, 50, 51] (fun i u x => match i with | 0 => u = .pointer (some ⟨w.heap.size, 0, none⟩) | 1 => u = .bool true | 2 => u = .pointer (some ⟨w.heap.size, 1, none⟩) | 3 => u = .slice A ks.length c | 4 => u = .int .i64 (k : Int) | 5 => ∃ A0 c0, u = .slice A0 zs.length c0 ∧ Rl sv x A0 c0 zs ∧ Fr (w.heap.size + 2) A0 | 6 => u = .pointer (some ⟨w.heap.size, 2, none⟩) | 7 => u = .slice B ds.length d | 8 => u = .int .i64 (k : Int) | 9 => ∃ A0 c0, u = .slice A0 ys.length c0 ∧ Rl nv x A0 c0 ys ∧ Fr (w.heap.size + 2) A0 | 10 => ∃ A0 c0 B0 d0, u = .agg #[.bool true, .slice A0 zs.length c0, .slice B0 ys.length d0] ∧ Rl sv x A0 c0 zs ∧ Rl nv x B0 d0 ys ∧ Fr (w.heap.size + 2) A0 ∧ Fr (w.heap.size + 2) B0 | _ => True) (fun _ => false)
      (by decide) rfl (by kernel_rfl) (by kernel_rfl) (by decide) (by kernel_rfl) ?_ (fun _ _ _ h => by cases h) ?_ ?_
    · intro i u x x' hi hR hb'
      have hi' : i = 0 ∨ i = 1 ∨ i = 2 ∨ i = 3 ∨ i = 4 ∨ i = 5 ∨ i = 6 ∨ i = 7 ∨ i = 8 ∨ i = 9 ∨ i = 10 := by omega
      rcases hi' with rfl | rfl | rfl | rfl | rfl | rfl | rfl | rfl | rfl | rfl | rfl
      · exact hR
      · exact hR
      · exact hR
      · exact hR
      · exact hR
      · obtain ⟨A0, c0, e, hr, hf⟩ := hR; exact ⟨A0, c0, e, hr.below hb', hf⟩
      · exact hR
      · exact hR
      · exact hR
      · obtain ⟨A0, c0, e, hr, hf⟩ := hR; exact ⟨A0, c0, e, hr.below hb', hf⟩
      · obtain ⟨A0, c0, B0, d0, e, h1, h2, h3, h4⟩ := hR; exact ⟨A0, c0, B0, d0, e, h1.below hb', h2.below hb', h3, h4⟩
    · intro i av x K hi hF hb' hw hK
      have hi' : i = 0 ∨ i = 1 ∨ i = 2 ∨ i = 3 ∨ i = 4 ∨ i = 5 ∨ i = 6 ∨ i = 7 ∨ i = 8 ∨ i = 9 ∨ i = 10 := by omega
      rcases hi' with rfl | rfl | rfl | rfl | rfl | rfl | rfl | rfl | rfl | rfl | rfl
      · simp only [wpOp, List.getElem?_toArray, List.getElem?_cons_zero, Region.wanted, if_true]
        refine Or.inl ?_
        have e0 : av.tmps.getD 2 undef = .pointer (some ⟨w.heap.size, 0, none⟩) := hF.2.2 2 (by decide)
        have e0e : av.eval (.tmp 2) = .pointer (some ⟨w.heap.size, 0, none⟩) := e0
        have e0g : av.tmps[2]?.getD undef = .pointer (some ⟨w.heap.size, 0, none⟩) := by have := e0; simp only [Array.getD_eq_getD_getElem?] at this; exact this
        clear hw hF
        simp only [Oper.wp, execOp]
        try simp only [e0e]
        go_simp
        exact hK _ x (by first | rfl | (simp only [Nat.add_zero]; done) | (congr 1; omega)) (Below.refl _ _) (fun h => by cases h)
      · simp only [wpOp, List.getElem?_toArray, List.getElem?_cons_succ, List.getElem?_cons_zero, Region.wanted, if_true]
        refine Or.inl ?_
        have e0 : av.tmps.getD 41 undef = .pointer (some ⟨w.heap.size, 0, none⟩) := (hw 0 (by kernel_rfl))
        have e0e : av.eval (.tmp 41) = .pointer (some ⟨w.heap.size, 0, none⟩) := e0
        have e0g : av.tmps[41]?.getD undef = .pointer (some ⟨w.heap.size, 0, none⟩) := by have := e0; simp only [Array.getD_eq_getD_getElem?] at this; exact this
        obtain ⟨f0, f1, f2⟩ := FA.out x hb'
        clear hw hF
        simp only [Oper.wp, execOp]
        try simp only [e0e]
        go_simp
        exact hK _ x (by first | rfl | (simp only [Nat.add_zero]; done) | (congr 1; omega)) (Below.refl _ _) (fun h => by cases h)
      · simp only [wpOp, List.getElem?_toArray, List.getElem?_cons_succ, List.getElem?_cons_zero, Region.wanted, if_true]
        refine Or.inl ?_
        have e0 : av.tmps.getD 2 undef = .pointer (some ⟨w.heap.size, 0, none⟩) := hF.2.2 2 (by decide)
        have e0e : av.eval (.tmp 2) = .pointer (some ⟨w.heap.size, 0, none⟩) := e0
        have e0g : av.tmps[2]?.getD undef = .pointer (some ⟨w.heap.size, 0, none⟩) := by have := e0; simp only [Array.getD_eq_getD_getElem?] at this; exact this
        clear hw hF
        simp only [Oper.wp, execOp]
        try simp only [e0e]
        go_simp
        exact hK _ x (by first | rfl | (simp only [Nat.add_zero]; done) | (congr 1; omega)) (Below.refl _ _) (fun h => by cases h)
      · simp only [wpOp, List.getElem?_toArray, List.getElem?_cons_succ, List.getElem?_cons_zero, Region.wanted, if_true]
        refine Or.inl ?_
        have e0 : av.tmps.getD 43 undef = .pointer (some ⟨w.heap.size, 1, none⟩) := (hw 2 (by kernel_rfl))
        have e0e : av.eval (.tmp 43) = .pointer (some ⟨w.heap.size, 1, none⟩) := e0
        have e0g : av.tmps[43]?.getD undef = .pointer (some ⟨w.heap.size, 1, none⟩) := by have := e0; simp only [Array.getD_eq_getD_getElem?] at this; exact this
        obtain ⟨f0, f1, f2⟩ := FA.out x hb'
        clear hw hF
        simp only [Oper.wp, execOp]
        try simp only [e0e]
        go_simp
        exact hK _ x (by first | rfl | (simp only [Nat.add_zero]; done) | (congr 1; omega)) (Below.refl _ _) (fun h => by cases h)
      · simp only [wpOp, List.getElem?_toArray, List.getElem?_cons_succ, List.getElem?_cons_zero, Region.wanted, if_true]
        refine Or.inl ?_
        have e0 : av.tmps.getD 5 undef = .int .i64 (k : Int) := hF.2.2 5 (by decide)
        have e0e : av.eval (.tmp 5) = .int .i64 (k : Int) := e0
        have e0g : av.tmps[5]?.getD undef = .int .i64 (k : Int) := by have := e0; simp only [Array.getD_eq_getD_getElem?] at this; exact this
        clear hw hF
        simp only [Oper.wp, execOp]
        try simp only [e0e]
        go_simp
        exact hK _ x (by first | rfl | (simp only [Nat.add_zero]; done) | (congr 1; omega)) (Below.refl _ _) (fun h => by cases h)
      · simp only [wpOp, List.getElem?_toArray, List.getElem?_cons_succ, List.getElem?_cons_zero, Region.wanted, if_true]
        refine Or.inl ?_
        have e0 : av.tmps.getD 44 undef = .slice A ks.length c := (hw 3 (by kernel_rfl))
        have e0e : av.eval (.tmp 44) = .slice A ks.length c := e0
        have e0g : av.tmps[44]?.getD undef = .slice A ks.length c := by have := e0; simp only [Array.getD_eq_getD_getElem?] at this; exact this
        have e1 : av.tmps.getD 45 undef = .int .i64 (k : Int) := (hw 4 (by kernel_rfl))
        have e1e : av.eval (.tmp 45) = .int .i64 (k : Int) := e1
        have e1g : av.tmps[45]?.getD undef = .int .i64 (k : Int) := by have := e1; simp only [Array.getD_eq_getD_getElem?] at this; exact this
        clear hw hF
        simp only [Oper.wp, execOp]
        try simp only [e0e, e1e]
        go_simp
        refine (LS.out x hb').mono ?_
        rintro e x' ⟨A0, c0, rfl, hr, hx, hf⟩
        exact hK _ x' ⟨A0, c0, rfl, hr, fun b_ o_ e_ => by have := hf b_ o_ e_; have := SW2.out; have := hb'.size; omega⟩ hx (fun h => by cases h)
      · simp only [wpOp, List.getElem?_toArray, List.getElem?_cons_succ, List.getElem?_cons_zero, Region.wanted, if_true]
        refine Or.inl ?_
        have e0 : av.tmps.getD 2 undef = .pointer (some ⟨w.heap.size, 0, none⟩) := hF.2.2 2 (by decide)
        have e0e : av.eval (.tmp 2) = .pointer (some ⟨w.heap.size, 0, none⟩) := e0
        have e0g : av.tmps[2]?.getD undef = .pointer (some ⟨w.heap.size, 0, none⟩) := by have := e0; simp only [Array.getD_eq_getD_getElem?] at this; exact this
        clear hw hF
        simp only [Oper.wp, execOp]
        try simp only [e0e]
        go_simp
        exact hK _ x (by first | rfl | (simp only [Nat.add_zero]; done) | (congr 1; omega)) (Below.refl _ _) (fun h => by cases h)
      · simp only [wpOp, List.getElem?_toArray, List.getElem?_cons_succ, List.getElem?_cons_zero, Region.wanted, if_true]
        refine Or.inl ?_
        have e0 : av.tmps.getD 47 undef = .pointer (some ⟨w.heap.size, 2, none⟩) := (hw 6 (by kernel_rfl))
        have e0e : av.eval (.tmp 47) = .pointer (some ⟨w.heap.size, 2, none⟩) := e0
        have e0g : av.tmps[47]?.getD undef = .pointer (some ⟨w.heap.size, 2, none⟩) := by have := e0; simp only [Array.getD_eq_getD_getElem?] at this; exact this
        obtain ⟨f0, f1, f2⟩ := FA.out x hb'
        clear hw hF
        simp only [Oper.wp, execOp]
        try simp only [e0e]
        go_simp
        exact hK _ x (by first | rfl | (simp only [Nat.add_zero]; done) | (congr 1; omega)) (Below.refl _ _) (fun h => by cases h)
      · simp only [wpOp, List.getElem?_toArray, List.getElem?_cons_succ, List.getElem?_cons_zero, Region.wanted, if_true]
        refine Or.inl ?_
        have e0 : av.tmps.getD 1 undef = .int .i64 (k : Int) := hF.2.2 1 (by decide)
        have e0e : av.eval (.tmp 1) = .int .i64 (k : Int) := e0
        have e0g : av.tmps[1]?.getD undef = .int .i64 (k : Int) := by have := e0; simp only [Array.getD_eq_getD_getElem?] at this; exact this
        clear hw hF
        simp only [Oper.wp, execOp]
        try simp only [e0e]
        go_simp
        exact hK _ x (by first | rfl | (simp only [Nat.add_zero]; done) | (congr 1; omega)) (Below.refl _ _) (fun h => by cases h)
      · simp only [wpOp, List.getElem?_toArray, List.getElem?_cons_succ, List.getElem?_cons_zero, Region.wanted, if_true]
        refine Or.inl ?_
        have e0 : av.tmps.getD 48 undef = .slice B ds.length d := (hw 7 (by kernel_rfl))
        have e0e : av.eval (.tmp 48) = .slice B ds.length d := e0
        have e0g : av.tmps[48]?.getD undef = .slice B ds.length d := by have := e0; simp only [Array.getD_eq_getD_getElem?] at this; exact this
        have e1 : av.tmps.getD 49 undef = .int .i64 (k : Int) := (hw 8 (by kernel_rfl))
        have e1e : av.eval (.tmp 49) = .int .i64 (k : Int) := e1
        have e1g : av.tmps[49]?.getD undef = .int .i64 (k : Int) := by have := e1; simp only [Array.getD_eq_getD_getElem?] at this; exact this
        clear hw hF
        simp only [Oper.wp, execOp]
        try simp only [e0e, e1e]
        go_simp
        refine (LI.out x hb').mono ?_
        rintro e x' ⟨A0, c0, rfl, hr, hx, hf⟩
        exact hK _ x' ⟨A0, c0, rfl, hr, fun b_ o_ e_ => by have := hf b_ o_ e_; have := SW2.out; have := hb'.size; omega⟩ hx (fun h => by cases h)
      · simp only [wpOp, List.getElem?_toArray, List.getElem?_cons_succ, List.getElem?_cons_zero, Region.wanted, if_true]
        refine Or.inl ?_
        have e0 : av.tmps.getD 42 undef = .bool true := (hw 1 (by kernel_rfl))
        have e0e : av.eval (.tmp 42) = .bool true := e0
        have e0g : av.tmps[42]?.getD undef = .bool true := by have := e0; simp only [Array.getD_eq_getD_getElem?] at this; exact this
        obtain ⟨A1, c1, e1, hr1, hf1⟩ := (hw 5 (by kernel_rfl))
        have e1e : av.eval (.tmp 46) = .slice A1 zs.length c1 := e1
        have e1g : av.tmps[46]?.getD undef = .slice A1 zs.length c1 := by have := e1; simp only [Array.getD_eq_getD_getElem?] at this; exact this
        obtain ⟨A2, c2, e2, hr2, hf2⟩ := (hw 9 (by kernel_rfl))
        have e2e : av.eval (.tmp 50) = .slice A2 ys.length c2 := e2
        have e2g : av.tmps[50]?.getD undef = .slice A2 ys.length c2 := by have := e2; simp only [Array.getD_eq_getD_getElem?] at this; exact this
        clear hw hF
        simp only [Oper.wp, execOp]
        try simp only [e0e, e1e, e2e]
        go_simp
        exact hK _ x ⟨A1, c1, A2, c2, rfl, hr1, hr2, hf1, hf2⟩ (Below.refl _ _) (fun h => by cases h)
    · intro av x hF hb' hR _
      have e0 : av.tmps.getD 41 undef = .pointer (some ⟨w.heap.size, 0, none⟩) := hR 0 (by decide)
      have e1 : av.tmps.getD 42 undef = .bool true := hR 1 (by decide)
      have e2 : av.tmps.getD 43 undef = .pointer (some ⟨w.heap.size, 1, none⟩) := hR 2 (by decide)
      have e3 : av.tmps.getD 44 undef = .slice A ks.length c := hR 3 (by decide)
      have e4 : av.tmps.getD 45 undef = .int .i64 (k : Int) := hR 4 (by decide)
      obtain ⟨A5, c5, e5, hr5, hf5⟩ := hR 5 (by decide)
      replace e5 : av.tmps.getD 46 undef = .slice A5 zs.length c5 := e5
      have e6 : av.tmps.getD 47 undef = .pointer (some ⟨w.heap.size, 2, none⟩) := hR 6 (by decide)
      have e7 : av.tmps.getD 48 undef = .slice B ds.length d := hR 7 (by decide)
      have e8 : av.tmps.getD 49 undef = .int .i64 (k : Int) := hR 8 (by decide)
      obtain ⟨A9, c9, e9, hr9, hf9⟩ := hR 9 (by decide)
      replace e9 : av.tmps.getD 50 undef = .slice A9 ys.length c9 := e9
      obtain ⟨Ax10, cx10, Bx10, dx10, e10, h1x10, h2x10, h3x10, h4x10⟩ := hR 10 (by decide)
      replace e10 : av.tmps.getD 51 undef = .agg #[.bool true, .slice Ax10 zs.length cx10, .slice Bx10 ys.length dx10] := e10
      rw [hF.fold (by kernel_rfl)]
      simp only [List.foldl_cons, List.foldl_nil, e0, e1, e2, e3, e4, e5, e6, e7, e8, e9, e10]
      simp only [Act.put, List.setIfInBounds_toArray, List.set_cons_zero, List.set_cons_succ]
      change wpOps _ _ _ [11] _ _
      simp only [wpOps_cons]
      clear e0 e1 e2 e3 e4 e5 e6 e7 e8 e9 e10 hR hF
      have Q3 := Lib.hid (row_on Q2.out hb')
      have K3 := Lib.hid (K2.out.trans (hb'.mono K2.out.size))
      have X1 := Lib.hid h1x10
      have X2 := Lib.hid h2x10
      have X3 := Lib.hid h3x10
      have X4 := Lib.hid h4x10
      clear hb' h1x10 h2x10 h3x10 h4x10
      have p0 := row_c Q3.out (i := 0) rfl
      have p1 := row_c Q3.out (i := 1) rfl
      have p2 := row_c Q3.out (i := 2) rfl
      have y0 := frozen_of_row _ _ 0 _ _ Q3.out
      have y1 := frozen_of_row _ _ 1 _ _ Q3.out
      have y2 := frozen_of_row _ _ 2 _ _ Q3.out
      try rw [wpOps_cons]
      simp only [wpOp, List.getElem?_toArray, List.getElem?_cons_succ, List.getElem?_cons_zero, Region.wanted, if_true]
      refine Or.inl ?_
      simp only [Oper.wp, execOp]
      go_simp
      try simp only [wpOps]
      go_wp2
      refine bodyPost_ret (v := .agg #[.bool true, .slice Ax10 zs.length cx10, .slice Bx10 ys.length dx10]) (by simp [results, Try.results24, go_sem, p0, p1, p2]) rfl ⟨Ax10, cx10, Bx10, dx10, rfl, ?_, ?_, ?_⟩
      · exact ((X1.out.set X3.out (by omega) _ _).set X3.out (by omega) _ _).set X3.out (by omega) _ _
      · exact ((X2.out.set X4.out (by omega) _ _).set X4.out (by omega) _ _).set X4.out (by omega) _ _
      · exact ((K3.out.setCell (by simp) _).setCell (by simp) _).setCell (by simp) _
end Go.Proofs.Ytkbdcbcjbgbglaa
