/-
  node.Put.
-/
import Derived.Test.YtkbdcbcjbgbglaaNk
namespace Go.Proofs.Ytkbdcbcjbgbglaa
open Go.RowKit
set_option linter.unusedVariables false
def putKi (ks : List (List UInt8)) (key : List UInt8) (i : Nat) (b : Bool) : List (List UInt8) := ks.take i ++ [key] ++ ks.drop (i + if b then 1 else 0)
def bhd (lf : Bool) (i : Nat) : Nat := if lf then i else i + 1
def putDi (ds : List Int) (kid : Int) (lf : Bool) (i : Nat) (b : Bool) : List Int := ds.take (bhd lf i) ++ [kid] ++ ds.drop (bhd lf i + if b then 1 else 0)
set_option maxHeartbeats 4000000 in
set_option maxRecDepth 100000 in
theorem put_no (lf : Bool) (A : Option Addr) (c : Nat) (ks : List (List UInt8)) (B : Option Addr) (d : Nat) (ds : List Int) (key : List UInt8) (kid : Int) (w : World) (hl : ks.length ≤ 4000000) (hs : shapedB lf ks ds = false) :
    Calls Try.prog 23 #[.agg #[.bool lf, .slice A ks.length c, .slice B ds.length d], sv key, .int .i64 kid] w fun e w' => e = .returned (.agg #[.bool false, .slice none 0 0, .slice none 0 0]) ∧ Below w.heap.size w w' := by
  obtain ⟨W, hW⟩ : ∃ W : World, W = (w.alloc (.cells #[.bool lf, .slice A ks.length c, .slice B ds.length d] 25)).alloc (.cells #[.bool false, .slice none 0 0, .slice none 0 0] 25) := ⟨_, rfl⟩
  have ra := row_on (heap_alloc_new w (.cells #[.bool lf, .slice A ks.length c, .slice B ds.length d] 25)) (bda _ (.cells #[.bool false, .slice none 0 0, .slice none 0 0] 25))
  have rb := heap_alloc_new (w.alloc (.cells #[.bool lf, .slice A ks.length c, .slice B ds.length d] 25)) (.cells #[.bool false, .slice none 0 0, .slice none 0 0] 25)
  simp only [World.size_alloc] at rb
  rw [← hW] at ra rb
  have RA := Lib.hid ra
  have RB := Lib.hid rb
  have BW := Lib.hid (show Below w.heap.size w W by rw [hW]; exact bon (bda _ _) (bda _ _))
  have HW := Lib.hid hW
  have SH := Lib.hid (shaped_any lf A c ks B d ds W hl)
  rw [hs] at SH
  clear ra rb hW hs
  unfold sv at *
  go_enter Try.func23, Try.ntmps23
  go_wp2_with fail
  rw [← HW.out]
  refine SH.out.mono ?_
  rintro e w2 ⟨rfl, hb⟩
  have R2 := Lib.hid (row_on RB.out hb)
  have K2 := Lib.hid (BW.out.trans (hb.mono BW.out.size))
  clear hb
  have p0 := row_c R2.out (i := 0) rfl
  have p1 := row_c R2.out (i := 1) rfl
  have p2 := row_c R2.out (i := 2) rfl
  have y0 := frozen_of_row _ _ 0 _ _ R2.out
  have y1 := frozen_of_row _ _ 1 _ _ R2.out
  have y2 := frozen_of_row _ _ 2 _ _ R2.out
  go_wp2
  refine bodyPost_ret (v := .agg #[.bool false, .slice none 0 0, .slice none 0 0]) (by simp [results, Try.results23, go_sem, p0, p1, p2]) rfl ⟨rfl, ?_⟩
  exact ((K2.out.setCell (by simp) _).setCell (by simp) _).setCell (by simp) _
set_option maxHeartbeats 4000000 in
set_option maxRecDepth 100000 in
theorem put_any (lf : Bool) (A : Option Addr) (c : Nat) (ks : List (List UInt8)) (B : Option Addr) (d : Nat) (ds : List Int) (key : List UInt8) (kid : Int) (w : World) (h : Rl sv w A c ks) (h2 : Rl nv w B d ds) (hl : ks.length ≤ 4000000) (hs : shapedB lf ks ds = true) :
    Calls Try.prog 23 #[.agg #[.bool lf, .slice A ks.length c, .slice B ds.length d], sv key, .int .i64 kid] w fun e w' => ∃ (i : Nat) (b : Bool) (A' : Option Addr) (c' : Nat) (B' : Option Addr) (d' : Nat), e = .returned (.agg #[.bool lf, .slice A' (putKi ks key i b).length c', .slice B' (putDi ds kid lf i b).length d']) ∧ Rl sv w' A' c' (putKi ks key i b) ∧ Rl nv w' B' d' (putDi ds kid lf i b) ∧ i ≤ ks.length ∧ (b = true → i < ks.length) ∧ (Srt ks → i = lbK key ks ∧ b = thereB key ks) ∧ Below w.heap.size w w' ∧ Fr w.heap.size A' ∧ Fr w.heap.size B' := by
  have hsd : ds.length = if lf then ks.length else ks.length + 1 := by unfold shapedB at hs; cases lf <;> simpa using hs
  obtain ⟨W, hW⟩ : ∃ W : World, W = (w.alloc (.cells #[.bool lf, .slice A ks.length c, .slice B ds.length d] 25)).alloc (.cells #[.bool false, .slice none 0 0, .slice none 0 0] 25) := ⟨_, rfl⟩
  have ra := row_on (heap_alloc_new w (.cells #[.bool lf, .slice A ks.length c, .slice B ds.length d] 25)) (bda _ (.cells #[.bool false, .slice none 0 0, .slice none 0 0] 25))
  have rb := heap_alloc_new (w.alloc (.cells #[.bool lf, .slice A ks.length c, .slice B ds.length d] 25)) (.cells #[.bool false, .slice none 0 0, .slice none 0 0] 25)
  simp only [World.size_alloc] at rb
  rw [← hW] at ra rb
  have RA := Lib.hid ra
  have RB := Lib.hid rb
  have BW := Lib.hid (show Below w.heap.size w W by rw [hW]; exact bon (bda _ _) (bda _ _))
  have HW := Lib.hid hW
  have SH := Lib.hid (shaped_any lf A c ks B d ds W hl)
  rw [hs] at SH
  clear ra rb hW hs
  have H := Lib.hid h
  have H2 := Lib.hid h2
  have BS := Lib.hid (fun V (hV : Rl sv V A c ks) => bsearch_any A c ks key V hV hl)
  have HSD := Lib.hid hsd
  clear h h2 hsd
  unfold sv at BS ⊢
  go_enter Try.func23, Try.ntmps23
  go_wp2_with fail
  rw [← HW.out]
  refine SH.out.mono ?_
  rintro e w2 ⟨rfl, hb⟩
  have R2 := Lib.hid (row_on RA.out hb)
  have Q2 := Lib.hid (row_on RB.out hb)
  have K2 := Lib.hid (BW.out.trans (hb.mono BW.out.size))
  clear hb SH HW
  have SW2 := Lib.hid (show w.heap.size + 2 ≤ w2.heap.size from heap_lt Q2.out)
  have V1 := Lib.hid (H.out.below K2.out)
  have V2 := Lib.hid (H2.out.below K2.out)
  have f1 := row_c R2.out (i := 1) rfl
  go_wp2_with fail
  refine (BS.out _ V1.out).mono ?_
  rintro e w3 ⟨ix, b, rfl, hi, hb1, hb2, hw3⟩
  obtain rfl : w2 = w3 := hw3.symm
  have HI := Lib.hid (And.intro hi (And.intro hb1 hb2))
  have ii : IntKind.i64.wrap ((ix : Int) + 1) = (ix : Int) + 1 := IntWalk.i64_in _ (by omega)
  obtain ⟨mn, hmn⟩ : ∃ m, (if b then 1 else 0) = m := ⟨_, rfl⟩
  obtain ⟨bh, hbh⟩ : ∃ m, bhd lf ix = m := ⟨_, rfl⟩
  have LB := Lib.hid (show ix + mn ≤ ks.length ∧ bh + mn ≤ ds.length by
    rw [← hmn, ← hbh, HSD.out]
    unfold bhd
    cases b with
    | false => cases lf <;> simp <;> omega
    | true => have := hb1 rfl; cases lf <;> simp <;> omega)
  obtain ⟨zs, hzs⟩ : ∃ z, ks.take ix ++ [key] ++ ks.drop (ix + mn) = z := ⟨_, rfl⟩
  obtain ⟨ys, hys⟩ : ∃ z, ds.take bh ++ [kid] ++ ds.drop (bh + mn) = z := ⟨_, rfl⟩
  have HZ := Lib.hid (show putKi ks key ix b = zs by unfold putKi; rw [hmn]; exact hzs)
  have HY := Lib.hid (show putDi ds kid lf ix b = ys by unfold putDi; rw [hmn, hbh]; exact hys)
  have LS := Lib.hid (fun V g (hV : Below w2.heap.size w2 V) (hg : V.heap[g]? = some (.cells #[.string ⟨key.toArray⟩] 9 (0, 0))) => lay_s A c ks ix mn (some ⟨g, 0, none⟩) 1 [key] V (V1.out.below hV) (rl_of_row hg 1 (by simp)) LB.out.1 (by omega) (by simp))
  have LI := Lib.hid (fun V g (hV : Below w2.heap.size w2 V) (hg : V.heap[g]? = some (.cells #[.int .i64 kid] 3 (0, 0))) => lay_i B d ds bh mn (some ⟨g, 0, none⟩) 1 [kid] V (V2.out.below hV) (rl_of_row hg 1 (by simp)) LB.out.2 (by rw [HSD.out]; split <;> omega) (by simp))
  rw [hzs] at LS
  rw [hys] at LI
  have FA := Lib.hid (fun x (K : Below w2.heap.size w2 x) => And.intro (row_c (row_on R2.out K) (i := 0) rfl) (And.intro (row_c (row_on R2.out K) (i := 1) rfl) (row_c (row_on R2.out K) (i := 2) rfl)))
  have HBH := Lib.hid hbh
  have HMN := Lib.hid hmn
  clear hi hb1 hb2 hzs hys hbh hmn BS
  cases b
  · cases lf
    · have m0 : mn = 0 := by rw [← HMN.out]; rfl
      have m1 : bh = ix + 1 := by rw [← HBH.out]; rfl
      have f0 := row_c R2.out (i := 0) rfl
      go_upto_region 9 with (fail)
      clear f0 f1 ii
      refine wp_operands (W := w2) rfl 17 [29, 30, 31, 32, 33, 34, 35, 36, 37, 38, 39, 40, 41, 42, 43, 44, 45] (fun i u x => match i with | 0 => u = .pointer (some ⟨w.heap.size, 0, none⟩) | 1 => u = .bool false | 2 => u = .pointer (some ⟨w.heap.size, 1, none⟩) | 3 => u = .slice A ks.length c | 4 => u = .int .i64 (ix : Int) | 5 => u = .int .i64 0 | 6 => u = .string ⟨key.toArray⟩ | 7 => ∃ g, u = .slice (some ⟨g, 0, none⟩) 1 1 ∧ x.heap[g]? = some (.cells #[.string ⟨key.toArray⟩] 9 (0, 0)) | 8 => ∃ A0 c0, u = .slice A0 zs.length c0 ∧ Rl sv x A0 c0 zs ∧ Fr (w.heap.size + 2) A0 | 9 => u = .pointer (some ⟨w.heap.size, 2, none⟩) | 10 => u = .slice B ds.length d | 11 => u = .int .i64 ((ix : Int) + 1) | 12 => u = .int .i64 0 | 13 => u = .int .i64 kid | 14 => ∃ g, u = .slice (some ⟨g, 0, none⟩) 1 1 ∧ x.heap[g]? = some (.cells #[.int .i64 kid] 3 (0, 0)) | 15 => ∃ A0 c0, u = .slice A0 ys.length c0 ∧ Rl nv x A0 c0 ys ∧ Fr (w.heap.size + 2) A0 | 16 => ∃ A0 c0 B0 d0, u = .agg #[.bool false, .slice A0 zs.length c0, .slice B0 ys.length d0] ∧ Rl sv x A0 c0 zs ∧ Rl nv x B0 d0 ys ∧ Fr (w.heap.size + 2) A0 ∧ Fr (w.heap.size + 2) B0 | _ => True) (fun _ => false)
        (by decide) rfl (by kernel_rfl) (by kernel_rfl) (by decide) (by kernel_rfl) ?_ (fun _ _ _ h => by cases h) ?_ ?_
      · intro i u x x' hi hR hb'
        have hi' : i = 0 ∨ i = 1 ∨ i = 2 ∨ i = 3 ∨ i = 4 ∨ i = 5 ∨ i = 6 ∨ i = 7 ∨ i = 8 ∨ i = 9 ∨ i = 10 ∨ i = 11 ∨ i = 12 ∨ i = 13 ∨ i = 14 ∨ i = 15 ∨ i = 16 := by omega
        rcases hi' with rfl | rfl | rfl | rfl | rfl | rfl | rfl | rfl | rfl | rfl | rfl | rfl | rfl | rfl | rfl | rfl | rfl
        · exact hR
        · exact hR
        · exact hR
        · exact hR
        · exact hR
        · exact hR
        · exact hR
        · obtain ⟨g, e, hg⟩ := hR; exact ⟨g, e, (hb'.block g (heap_lt hg)).trans hg⟩
        · obtain ⟨A0, c0, e, hr, hf⟩ := hR; exact ⟨A0, c0, e, hr.below hb', hf⟩
        · exact hR
        · exact hR
        · exact hR
        · exact hR
        · exact hR
        · obtain ⟨g, e, hg⟩ := hR; exact ⟨g, e, (hb'.block g (heap_lt hg)).trans hg⟩
        · obtain ⟨A0, c0, e, hr, hf⟩ := hR; exact ⟨A0, c0, e, hr.below hb', hf⟩
        · obtain ⟨A0, c0, B0, d0, e, h1, h2, h3, h4⟩ := hR; exact ⟨A0, c0, B0, d0, e, h1.below hb', h2.below hb', h3, h4⟩
      · intro i av x K hi hF hb' hw hK
        have hi' : i = 0 ∨ i = 1 ∨ i = 2 ∨ i = 3 ∨ i = 4 ∨ i = 5 ∨ i = 6 ∨ i = 7 ∨ i = 8 ∨ i = 9 ∨ i = 10 ∨ i = 11 ∨ i = 12 ∨ i = 13 ∨ i = 14 ∨ i = 15 ∨ i = 16 := by omega
        rcases hi' with rfl | rfl | rfl | rfl | rfl | rfl | rfl | rfl | rfl | rfl | rfl | rfl | rfl | rfl | rfl | rfl | rfl
        · simp only [wpOp, List.getElem?_toArray, List.getElem?_cons_zero, Region.wanted, if_true]
          refine Or.inl ?_
          have e0 : av.tmps.getD 3 undef = .pointer (some ⟨w.heap.size, 0, none⟩) := hF.2.2 3 (by decide)
          have e0e : av.eval (.tmp 3) = .pointer (some ⟨w.heap.size, 0, none⟩) := e0
          have e0g : av.tmps[3]?.getD undef = .pointer (some ⟨w.heap.size, 0, none⟩) := by have := e0; simp only [Array.getD_eq_getD_getElem?] at this; exact this
          clear hw hF
          simp only [Oper.wp, execOp]
          try simp only [e0e]
          go_simp
          exact hK _ x (by first | rfl | (simp only [Nat.add_zero]; done) | (congr 1; omega)) (Below.refl _ _) (fun h => by cases h)
        · simp only [wpOp, List.getElem?_toArray, List.getElem?_cons_succ, List.getElem?_cons_zero, Region.wanted, if_true]
          refine Or.inl ?_
          have e0 : av.tmps.getD 29 undef = .pointer (some ⟨w.heap.size, 0, none⟩) := (hw 0 (by kernel_rfl))
          have e0e : av.eval (.tmp 29) = .pointer (some ⟨w.heap.size, 0, none⟩) := e0
          have e0g : av.tmps[29]?.getD undef = .pointer (some ⟨w.heap.size, 0, none⟩) := by have := e0; simp only [Array.getD_eq_getD_getElem?] at this; exact this
          obtain ⟨f0, f1, f2⟩ := FA.out x hb'
          clear hw hF
          simp only [Oper.wp, execOp]
          try simp only [e0e]
          go_simp
          exact hK _ x (by first | rfl | (simp only [Nat.add_zero]; done) | (congr 1; omega)) (Below.refl _ _) (fun h => by cases h)
        · simp only [wpOp, List.getElem?_toArray, List.getElem?_cons_succ, List.getElem?_cons_zero, Region.wanted, if_true]
          refine Or.inl ?_
          have e0 : av.tmps.getD 3 undef = .pointer (some ⟨w.heap.size, 0, none⟩) := hF.2.2 3 (by decide)
          have e0e : av.eval (.tmp 3) = .pointer (some ⟨w.heap.size, 0, none⟩) := e0
          have e0g : av.tmps[3]?.getD undef = .pointer (some ⟨w.heap.size, 0, none⟩) := by have := e0; simp only [Array.getD_eq_getD_getElem?] at this; exact this
          clear hw hF
          simp only [Oper.wp, execOp]
          try simp only [e0e]
          go_simp
          exact hK _ x (by first | rfl | (simp only [Nat.add_zero]; done) | (congr 1; omega)) (Below.refl _ _) (fun h => by cases h)
        · simp only [wpOp, List.getElem?_toArray, List.getElem?_cons_succ, List.getElem?_cons_zero, Region.wanted, if_true]
          refine Or.inl ?_
          have e0 : av.tmps.getD 31 undef = .pointer (some ⟨w.heap.size, 1, none⟩) := (hw 2 (by kernel_rfl))
          have e0e : av.eval (.tmp 31) = .pointer (some ⟨w.heap.size, 1, none⟩) := e0
          have e0g : av.tmps[31]?.getD undef = .pointer (some ⟨w.heap.size, 1, none⟩) := by have := e0; simp only [Array.getD_eq_getD_getElem?] at this; exact this
          obtain ⟨f0, f1, f2⟩ := FA.out x hb'
          clear hw hF
          simp only [Oper.wp, execOp]
          try simp only [e0e]
          go_simp
          exact hK _ x (by first | rfl | (simp only [Nat.add_zero]; done) | (congr 1; omega)) (Below.refl _ _) (fun h => by cases h)
        · simp only [wpOp, List.getElem?_toArray, List.getElem?_cons_succ, List.getElem?_cons_zero, Region.wanted, if_true]
          refine Or.inl ?_
          have e0 : av.tmps.getD 7 undef = .int .i64 (ix : Int) := hF.2.2 7 (by decide)
          have e0e : av.eval (.tmp 7) = .int .i64 (ix : Int) := e0
          have e0g : av.tmps[7]?.getD undef = .int .i64 (ix : Int) := by have := e0; simp only [Array.getD_eq_getD_getElem?] at this; exact this
          clear hw hF
          simp only [Oper.wp, execOp]
          try simp only [e0e]
          go_simp
          exact hK _ x (by first | rfl | (simp only [Nat.add_zero]; done) | (congr 1; omega)) (Below.refl _ _) (fun h => by cases h)
        · simp only [wpOp, List.getElem?_toArray, List.getElem?_cons_succ, List.getElem?_cons_zero, Region.wanted, if_true]
          refine Or.inl ?_
          have e0 : av.tmps.getD 9 undef = .int .i64 0 := hF.2.2 9 (by decide)
          have e0e : av.eval (.tmp 9) = .int .i64 0 := e0
          have e0g : av.tmps[9]?.getD undef = .int .i64 0 := by have := e0; simp only [Array.getD_eq_getD_getElem?] at this; exact this
          clear hw hF
          simp only [Oper.wp, execOp]
          try simp only [e0e]
          go_simp
          exact hK _ x (by first | rfl | (simp only [Nat.add_zero]; done) | (congr 1; omega)) (Below.refl _ _) (fun h => by cases h)
        · simp only [wpOp, List.getElem?_toArray, List.getElem?_cons_succ, List.getElem?_cons_zero, Region.wanted, if_true]
          refine Or.inl ?_
          have e0 : av.tmps.getD 1 undef = .string ⟨key.toArray⟩ := hF.2.2 1 (by decide)
          have e0e : av.eval (.tmp 1) = .string ⟨key.toArray⟩ := e0
          have e0g : av.tmps[1]?.getD undef = .string ⟨key.toArray⟩ := by have := e0; simp only [Array.getD_eq_getD_getElem?] at this; exact this
          clear hw hF
          simp only [Oper.wp, execOp]
          try simp only [e0e]
          go_simp
          exact hK _ x (by first | rfl | (simp only [Nat.add_zero]; done) | (congr 1; omega)) (Below.refl _ _) (fun h => by cases h)
        · simp only [wpOp, List.getElem?_toArray, List.getElem?_cons_succ, List.getElem?_cons_zero, Region.wanted, if_true]
          refine Or.inl ?_
          have e0 : av.tmps.getD 35 undef = .string ⟨key.toArray⟩ := (hw 6 (by kernel_rfl))
          have e0e : av.eval (.tmp 35) = .string ⟨key.toArray⟩ := e0
          have e0g : av.tmps[35]?.getD undef = .string ⟨key.toArray⟩ := by have := e0; simp only [Array.getD_eq_getD_getElem?] at this; exact this
          clear hw hF
          simp only [Oper.wp, execOp]
          try simp only [e0e]
          go_simp
          exact hK _ _ ⟨_, rfl, heap_alloc_new _ _⟩ ((Below.refl _ _).alloc (Nat.le_refl _) _) (fun h => by cases h)
        · simp only [wpOp, List.getElem?_toArray, List.getElem?_cons_succ, List.getElem?_cons_zero, Region.wanted, if_true]
          refine Or.inl ?_
          have e0 : av.tmps.getD 32 undef = .slice A ks.length c := (hw 3 (by kernel_rfl))
          have e0e : av.eval (.tmp 32) = .slice A ks.length c := e0
          have e0g : av.tmps[32]?.getD undef = .slice A ks.length c := by have := e0; simp only [Array.getD_eq_getD_getElem?] at this; exact this
          have e1 : av.tmps.getD 33 undef = .int .i64 (ix : Int) := (hw 4 (by kernel_rfl))
          have e1e : av.eval (.tmp 33) = .int .i64 (ix : Int) := e1
          have e1g : av.tmps[33]?.getD undef = .int .i64 (ix : Int) := by have := e1; simp only [Array.getD_eq_getD_getElem?] at this; exact this
          have e2 : av.tmps.getD 34 undef = .int .i64 0 := (hw 5 (by kernel_rfl))
          have e2e : av.eval (.tmp 34) = .int .i64 0 := e2
          have e2g : av.tmps[34]?.getD undef = .int .i64 0 := by have := e2; simp only [Array.getD_eq_getD_getElem?] at this; exact this
          obtain ⟨gg3, e3, hg3⟩ := (hw 7 (by kernel_rfl))
          have e3e : av.eval (.tmp 36) = .slice (some ⟨gg3, 0, none⟩) 1 1 := e3
          have e3g : av.tmps[36]?.getD undef = .slice (some ⟨gg3, 0, none⟩) 1 1 := by have := e3; simp only [Array.getD_eq_getD_getElem?] at this; exact this
          clear hw hF
          simp only [Oper.wp, execOp]
          try simp only [e0e, e1e, e2e, e3e]
          go_simp
          have LSx := LS.out x gg3 hb' hg3
          rw [m0] at LSx
          refine LSx.mono ?_
          rintro e x' ⟨A0, c0, rfl, hr, hx, hf⟩
          exact hK _ x' ⟨A0, c0, rfl, hr, fun b_ o_ e_ => by have := hf b_ o_ e_; have := SW2.out; have := hb'.size; omega⟩ hx (fun h => by cases h)
        · simp only [wpOp, List.getElem?_toArray, List.getElem?_cons_succ, List.getElem?_cons_zero, Region.wanted, if_true]
          refine Or.inl ?_
          have e0 : av.tmps.getD 3 undef = .pointer (some ⟨w.heap.size, 0, none⟩) := hF.2.2 3 (by decide)
          have e0e : av.eval (.tmp 3) = .pointer (some ⟨w.heap.size, 0, none⟩) := e0
          have e0g : av.tmps[3]?.getD undef = .pointer (some ⟨w.heap.size, 0, none⟩) := by have := e0; simp only [Array.getD_eq_getD_getElem?] at this; exact this
          clear hw hF
          simp only [Oper.wp, execOp]
          try simp only [e0e]
          go_simp
          exact hK _ x (by first | rfl | (simp only [Nat.add_zero]; done) | (congr 1; omega)) (Below.refl _ _) (fun h => by cases h)
        · simp only [wpOp, List.getElem?_toArray, List.getElem?_cons_succ, List.getElem?_cons_zero, Region.wanted, if_true]
          refine Or.inl ?_
          have e0 : av.tmps.getD 38 undef = .pointer (some ⟨w.heap.size, 2, none⟩) := (hw 9 (by kernel_rfl))
          have e0e : av.eval (.tmp 38) = .pointer (some ⟨w.heap.size, 2, none⟩) := e0
          have e0g : av.tmps[38]?.getD undef = .pointer (some ⟨w.heap.size, 2, none⟩) := by have := e0; simp only [Array.getD_eq_getD_getElem?] at this; exact this
          obtain ⟨f0, f1, f2⟩ := FA.out x hb'
          clear hw hF
          simp only [Oper.wp, execOp]
          try simp only [e0e]
          go_simp
          exact hK _ x (by first | rfl | (simp only [Nat.add_zero]; done) | (congr 1; omega)) (Below.refl _ _) (fun h => by cases h)
        · simp only [wpOp, List.getElem?_toArray, List.getElem?_cons_succ, List.getElem?_cons_zero, Region.wanted, if_true]
          refine Or.inl ?_
          have e0 : av.tmps.getD 10 undef = .int .i64 ((ix : Int) + 1) := hF.2.2 10 (by decide)
          have e0e : av.eval (.tmp 10) = .int .i64 ((ix : Int) + 1) := e0
          have e0g : av.tmps[10]?.getD undef = .int .i64 ((ix : Int) + 1) := by have := e0; simp only [Array.getD_eq_getD_getElem?] at this; exact this
          clear hw hF
          simp only [Oper.wp, execOp]
          try simp only [e0e]
          go_simp
          exact hK _ x (by first | rfl | (simp only [Nat.add_zero]; done) | (congr 1; omega)) (Below.refl _ _) (fun h => by cases h)
        · simp only [wpOp, List.getElem?_toArray, List.getElem?_cons_succ, List.getElem?_cons_zero, Region.wanted, if_true]
          refine Or.inl ?_
          have e0 : av.tmps.getD 9 undef = .int .i64 0 := hF.2.2 9 (by decide)
          have e0e : av.eval (.tmp 9) = .int .i64 0 := e0
          have e0g : av.tmps[9]?.getD undef = .int .i64 0 := by have := e0; simp only [Array.getD_eq_getD_getElem?] at this; exact this
          clear hw hF
          simp only [Oper.wp, execOp]
          try simp only [e0e]
          go_simp
          exact hK _ x (by first | rfl | (simp only [Nat.add_zero]; done) | (congr 1; omega)) (Below.refl _ _) (fun h => by cases h)
        · simp only [wpOp, List.getElem?_toArray, List.getElem?_cons_succ, List.getElem?_cons_zero, Region.wanted, if_true]
          refine Or.inl ?_
          have e0 : av.tmps.getD 2 undef = .int .i64 kid := hF.2.2 2 (by decide)
          have e0e : av.eval (.tmp 2) = .int .i64 kid := e0
          have e0g : av.tmps[2]?.getD undef = .int .i64 kid := by have := e0; simp only [Array.getD_eq_getD_getElem?] at this; exact this
          clear hw hF
          simp only [Oper.wp, execOp]
          try simp only [e0e]
          go_simp
          exact hK _ x (by first | rfl | (simp only [Nat.add_zero]; done) | (congr 1; omega)) (Below.refl _ _) (fun h => by cases h)
        · simp only [wpOp, List.getElem?_toArray, List.getElem?_cons_succ, List.getElem?_cons_zero, Region.wanted, if_true]
          refine Or.inl ?_
          have e0 : av.tmps.getD 42 undef = .int .i64 kid := (hw 13 (by kernel_rfl))
          have e0e : av.eval (.tmp 42) = .int .i64 kid := e0
          have e0g : av.tmps[42]?.getD undef = .int .i64 kid := by have := e0; simp only [Array.getD_eq_getD_getElem?] at this; exact this
          clear hw hF
          simp only [Oper.wp, execOp]
          try simp only [e0e]
          go_simp
          exact hK _ _ ⟨_, rfl, heap_alloc_new _ _⟩ ((Below.refl _ _).alloc (Nat.le_refl _) _) (fun h => by cases h)
        · simp only [wpOp, List.getElem?_toArray, List.getElem?_cons_succ, List.getElem?_cons_zero, Region.wanted, if_true]
          refine Or.inl ?_
          have e0 : av.tmps.getD 39 undef = .slice B ds.length d := (hw 10 (by kernel_rfl))
          have e0e : av.eval (.tmp 39) = .slice B ds.length d := e0
          have e0g : av.tmps[39]?.getD undef = .slice B ds.length d := by have := e0; simp only [Array.getD_eq_getD_getElem?] at this; exact this
          have e1 : av.tmps.getD 40 undef = .int .i64 ((ix : Int) + 1) := (hw 11 (by kernel_rfl))
          have e1e : av.eval (.tmp 40) = .int .i64 ((ix : Int) + 1) := e1
          have e1g : av.tmps[40]?.getD undef = .int .i64 ((ix : Int) + 1) := by have := e1; simp only [Array.getD_eq_getD_getElem?] at this; exact this
          have e2 : av.tmps.getD 41 undef = .int .i64 0 := (hw 12 (by kernel_rfl))
          have e2e : av.eval (.tmp 41) = .int .i64 0 := e2
          have e2g : av.tmps[41]?.getD undef = .int .i64 0 := by have := e2; simp only [Array.getD_eq_getD_getElem?] at this; exact this
          obtain ⟨gg3, e3, hg3⟩ := (hw 14 (by kernel_rfl))
          have e3e : av.eval (.tmp 43) = .slice (some ⟨gg3, 0, none⟩) 1 1 := e3
          have e3g : av.tmps[43]?.getD undef = .slice (some ⟨gg3, 0, none⟩) 1 1 := by have := e3; simp only [Array.getD_eq_getD_getElem?] at this; exact this
          clear hw hF
          simp only [Oper.wp, execOp]
          try simp only [e0e, e1e, e2e, e3e]
          go_simp
          have LIx := LI.out x gg3 hb' hg3
          rw [m0, m1] at LIx
          refine LIx.mono ?_
          rintro e x' ⟨A0, c0, rfl, hr, hx, hf⟩
          exact hK _ x' ⟨A0, c0, rfl, hr, fun b_ o_ e_ => by have := hf b_ o_ e_; have := SW2.out; have := hb'.size; omega⟩ hx (fun h => by cases h)
        · simp only [wpOp, List.getElem?_toArray, List.getElem?_cons_succ, List.getElem?_cons_zero, Region.wanted, if_true]
          refine Or.inl ?_
          have e0 : av.tmps.getD 30 undef = .bool false := (hw 1 (by kernel_rfl))
          have e0e : av.eval (.tmp 30) = .bool false := e0
          have e0g : av.tmps[30]?.getD undef = .bool false := by have := e0; simp only [Array.getD_eq_getD_getElem?] at this; exact this
          obtain ⟨A1, c1, e1, hr1, hf1⟩ := (hw 8 (by kernel_rfl))
          have e1e : av.eval (.tmp 37) = .slice A1 zs.length c1 := e1
          have e1g : av.tmps[37]?.getD undef = .slice A1 zs.length c1 := by have := e1; simp only [Array.getD_eq_getD_getElem?] at this; exact this
          obtain ⟨A2, c2, e2, hr2, hf2⟩ := (hw 15 (by kernel_rfl))
          have e2e : av.eval (.tmp 44) = .slice A2 ys.length c2 := e2
          have e2g : av.tmps[44]?.getD undef = .slice A2 ys.length c2 := by have := e2; simp only [Array.getD_eq_getD_getElem?] at this; exact this
          clear hw hF
          simp only [Oper.wp, execOp]
          try simp only [e0e, e1e, e2e]
          go_simp
          exact hK _ x ⟨A1, c1, A2, c2, rfl, hr1, hr2, hf1, hf2⟩ (Below.refl _ _) (fun h => by cases h)
      · intro av x hF hb' hR _
        have e0 : av.tmps.getD 29 undef = .pointer (some ⟨w.heap.size, 0, none⟩) := hR 0 (by decide)
        have e1 : av.tmps.getD 30 undef = .bool false := hR 1 (by decide)
        have e2 : av.tmps.getD 31 undef = .pointer (some ⟨w.heap.size, 1, none⟩) := hR 2 (by decide)
        have e3 : av.tmps.getD 32 undef = .slice A ks.length c := hR 3 (by decide)
        have e4 : av.tmps.getD 33 undef = .int .i64 (ix : Int) := hR 4 (by decide)
        have e5 : av.tmps.getD 34 undef = .int .i64 0 := hR 5 (by decide)
        have e6 : av.tmps.getD 35 undef = .string ⟨key.toArray⟩ := hR 6 (by decide)
        obtain ⟨gg7, e7, hg7⟩ := hR 7 (by decide)
        replace e7 : av.tmps.getD 36 undef = .slice (some ⟨gg7, 0, none⟩) 1 1 := e7
        obtain ⟨A8, c8, e8, hr8, hf8⟩ := hR 8 (by decide)
        replace e8 : av.tmps.getD 37 undef = .slice A8 zs.length c8 := e8
        have e9 : av.tmps.getD 38 undef = .pointer (some ⟨w.heap.size, 2, none⟩) := hR 9 (by decide)
        have e10 : av.tmps.getD 39 undef = .slice B ds.length d := hR 10 (by decide)
        have e11 : av.tmps.getD 40 undef = .int .i64 ((ix : Int) + 1) := hR 11 (by decide)
        have e12 : av.tmps.getD 41 undef = .int .i64 0 := hR 12 (by decide)
        have e13 : av.tmps.getD 42 undef = .int .i64 kid := hR 13 (by decide)
        obtain ⟨gg14, e14, hg14⟩ := hR 14 (by decide)
        replace e14 : av.tmps.getD 43 undef = .slice (some ⟨gg14, 0, none⟩) 1 1 := e14
        obtain ⟨A15, c15, e15, hr15, hf15⟩ := hR 15 (by decide)
        replace e15 : av.tmps.getD 44 undef = .slice A15 ys.length c15 := e15
        obtain ⟨Ax16, cx16, Bx16, dx16, e16, h1x16, h2x16, h3x16, h4x16⟩ := hR 16 (by decide)
        replace e16 : av.tmps.getD 45 undef = .agg #[.bool false, .slice Ax16 zs.length cx16, .slice Bx16 ys.length dx16] := e16
        rw [hF.fold (by kernel_rfl)]
        simp only [List.foldl_cons, List.foldl_nil, e0, e1, e2, e3, e4, e5, e6, e7, e8, e9, e10, e11, e12, e13, e14, e15, e16]
        simp only [Act.put, List.setIfInBounds_toArray, List.set_cons_zero, List.set_cons_succ]
        change wpOps _ _ _ [17] _ _
        simp only [wpOps_cons]
        clear e0 e1 e2 e3 e4 e5 e6 e7 e8 e9 e10 e11 e12 e13 e14 e15 e16 hR hF
        have Q3 := Lib.hid (row_on Q2.out hb')
        have K3 := Lib.hid (K2.out.trans (hb'.mono K2.out.size))
        have X1 := Lib.hid h1x16
        have X2 := Lib.hid h2x16
        have X3 := Lib.hid h3x16
        have X4 := Lib.hid h4x16
        clear hb' h1x16 h2x16 h3x16 h4x16
        have p0 := row_c Q3.out (i := 0) rfl
        have p1 := row_c Q3.out (i := 1) rfl
        have p2 := row_c Q3.out (i := 2) rfl
        have y0 := frozen_of_row _ _ 0 _ _ Q3.out
        have y1 := frozen_of_row _ _ 1 _ _ Q3.out
        have y2 := frozen_of_row _ _ 2 _ _ Q3.out
        try rw [wpOps_cons]
        simp only [wpOp, List.getElem?_toArray, List.getElem?_cons_succ, List.getElem?_cons_zero, Region.wanted, if_true]
        refine Or.inl ?_
        simp only [Oper.wp, execOp]
        go_simp
        try simp only [wpOps]
        go_wp2
        refine bodyPost_ret (v := .agg #[.bool false, .slice Ax16 zs.length cx16, .slice Bx16 ys.length dx16]) (by simp [results, Try.results23, go_sem, p0, p1, p2]) rfl ⟨ix, false, Ax16, cx16, Bx16, dx16, by rw [HZ.out, HY.out], ?_, ?_, HI.out.1, (fun hh => by have h := HI.out.2.1; first | exact h hh | exact h trivial), HI.out.2.2, ?_, ?_, ?_⟩
        · rw [HZ.out]; exact ((X1.out.set X3.out (by omega) _ _).set X3.out (by omega) _ _).set X3.out (by omega) _ _
        · rw [HY.out]; exact ((X2.out.set X4.out (by omega) _ _).set X4.out (by omega) _ _).set X4.out (by omega) _ _
        · exact ((K3.out.setCell (by simp) _).setCell (by simp) _).setCell (by simp) _
        · exact fun b_ o_ e_ => by have := X3.out b_ o_ e_; omega
        · exact fun b_ o_ e_ => by have := X4.out b_ o_ e_; omega
    · have m0 : mn = 0 := by rw [← HMN.out]; rfl
      have m1 : bh = ix := by rw [← HBH.out]; rfl
      have f0 := row_c R2.out (i := 0) rfl
      go_upto_region 9 with (fail)
      clear f0 f1 ii
      refine wp_operands (W := w2) rfl 17 [29, 30, 31, 32, 33, 34, 35, 36, 37, 38, 39, 40, 41, 42, 43, 44, 45] (fun i u x => match i with | 0 => u = .pointer (some ⟨w.heap.size, 0, none⟩) | 1 => u = .bool true | 2 => u = .pointer (some ⟨w.heap.size, 1, none⟩) | 3 => u = .slice A ks.length c | 4 => u = .int .i64 (ix : Int) | 5 => u = .int .i64 0 | 6 => u = .string ⟨key.toArray⟩ | 7 => ∃ g, u = .slice (some ⟨g, 0, none⟩) 1 1 ∧ x.heap[g]? = some (.cells #[.string ⟨key.toArray⟩] 9 (0, 0)) | 8 => ∃ A0 c0, u = .slice A0 zs.length c0 ∧ Rl sv x A0 c0 zs ∧ Fr (w.heap.size + 2) A0 | 9 => u = .pointer (some ⟨w.heap.size, 2, none⟩) | 10 => u = .slice B ds.length d | 11 => u = .int .i64 (ix : Int) | 12 => u = .int .i64 0 | 13 => u = .int .i64 kid | 14 => ∃ g, u = .slice (some ⟨g, 0, none⟩) 1 1 ∧ x.heap[g]? = some (.cells #[.int .i64 kid] 3 (0, 0)) | 15 => ∃ A0 c0, u = .slice A0 ys.length c0 ∧ Rl nv x A0 c0 ys ∧ Fr (w.heap.size + 2) A0 | 16 => ∃ A0 c0 B0 d0, u = .agg #[.bool true, .slice A0 zs.length c0, .slice B0 ys.length d0] ∧ Rl sv x A0 c0 zs ∧ Rl nv x B0 d0 ys ∧ Fr (w.heap.size + 2) A0 ∧ Fr (w.heap.size + 2) B0 | _ => True) (fun _ => false)
        (by decide) rfl (by kernel_rfl) (by kernel_rfl) (by decide) (by kernel_rfl) ?_ (fun _ _ _ h => by cases h) ?_ ?_
      · intro i u x x' hi hR hb'
        have hi' : i = 0 ∨ i = 1 ∨ i = 2 ∨ i = 3 ∨ i = 4 ∨ i = 5 ∨ i = 6 ∨ i = 7 ∨ i = 8 ∨ i = 9 ∨ i = 10 ∨ i = 11 ∨ i = 12 ∨ i = 13 ∨ i = 14 ∨ i = 15 ∨ i = 16 := by omega
        rcases hi' with rfl | rfl | rfl | rfl | rfl | rfl | rfl | rfl | rfl | rfl | rfl | rfl | rfl | rfl | rfl | rfl | rfl
        · exact hR
        · exact hR
        · exact hR
        · exact hR
        · exact hR
        · exact hR
        · exact hR
        · obtain ⟨g, e, hg⟩ := hR; exact ⟨g, e, (hb'.block g (heap_lt hg)).trans hg⟩
        · obtain ⟨A0, c0, e, hr, hf⟩ := hR; exact ⟨A0, c0, e, hr.below hb', hf⟩
        · exact hR
        · exact hR
        · exact hR
        · exact hR
        · exact hR
        · obtain ⟨g, e, hg⟩ := hR; exact ⟨g, e, (hb'.block g (heap_lt hg)).trans hg⟩
        · obtain ⟨A0, c0, e, hr, hf⟩ := hR; exact ⟨A0, c0, e, hr.below hb', hf⟩
        · obtain ⟨A0, c0, B0, d0, e, h1, h2, h3, h4⟩ := hR; exact ⟨A0, c0, B0, d0, e, h1.below hb', h2.below hb', h3, h4⟩
      · intro i av x K hi hF hb' hw hK
        have hi' : i = 0 ∨ i = 1 ∨ i = 2 ∨ i = 3 ∨ i = 4 ∨ i = 5 ∨ i = 6 ∨ i = 7 ∨ i = 8 ∨ i = 9 ∨ i = 10 ∨ i = 11 ∨ i = 12 ∨ i = 13 ∨ i = 14 ∨ i = 15 ∨ i = 16 := by omega
        rcases hi' with rfl | rfl | rfl | rfl | rfl | rfl | rfl | rfl | rfl | rfl | rfl | rfl | rfl | rfl | rfl | rfl | rfl
        · simp only [wpOp, List.getElem?_toArray, List.getElem?_cons_zero, Region.wanted, if_true]
          refine Or.inl ?_
          have e0 : av.tmps.getD 3 undef = .pointer (some ⟨w.heap.size, 0, none⟩) := hF.2.2 3 (by decide)
          have e0e : av.eval (.tmp 3) = .pointer (some ⟨w.heap.size, 0, none⟩) := e0
          have e0g : av.tmps[3]?.getD undef = .pointer (some ⟨w.heap.size, 0, none⟩) := by have := e0; simp only [Array.getD_eq_getD_getElem?] at this; exact this
          clear hw hF
          simp only [Oper.wp, execOp]
          try simp only [e0e]
          go_simp
          exact hK _ x (by first | rfl | (simp only [Nat.add_zero]; done) | (congr 1; omega)) (Below.refl _ _) (fun h => by cases h)
        · simp only [wpOp, List.getElem?_toArray, List.getElem?_cons_succ, List.getElem?_cons_zero, Region.wanted, if_true]
          refine Or.inl ?_
          have e0 : av.tmps.getD 29 undef = .pointer (some ⟨w.heap.size, 0, none⟩) := (hw 0 (by kernel_rfl))
          have e0e : av.eval (.tmp 29) = .pointer (some ⟨w.heap.size, 0, none⟩) := e0
          have e0g : av.tmps[29]?.getD undef = .pointer (some ⟨w.heap.size, 0, none⟩) := by have := e0; simp only [Array.getD_eq_getD_getElem?] at this; exact this
          obtain ⟨f0, f1, f2⟩ := FA.out x hb'
          clear hw hF
          simp only [Oper.wp, execOp]
          try simp only [e0e]
          go_simp
          exact hK _ x (by first | rfl | (simp only [Nat.add_zero]; done) | (congr 1; omega)) (Below.refl _ _) (fun h => by cases h)
        · simp only [wpOp, List.getElem?_toArray, List.getElem?_cons_succ, List.getElem?_cons_zero, Region.wanted, if_true]
          refine Or.inl ?_
          have e0 : av.tmps.getD 3 undef = .pointer (some ⟨w.heap.size, 0, none⟩) := hF.2.2 3 (by decide)
          have e0e : av.eval (.tmp 3) = .pointer (some ⟨w.heap.size, 0, none⟩) := e0
          have e0g : av.tmps[3]?.getD undef = .pointer (some ⟨w.heap.size, 0, none⟩) := by have := e0; simp only [Array.getD_eq_getD_getElem?] at this; exact this
          clear hw hF
          simp only [Oper.wp, execOp]
          try simp only [e0e]
          go_simp
          exact hK _ x (by first | rfl | (simp only [Nat.add_zero]; done) | (congr 1; omega)) (Below.refl _ _) (fun h => by cases h)
        · simp only [wpOp, List.getElem?_toArray, List.getElem?_cons_succ, List.getElem?_cons_zero, Region.wanted, if_true]
          refine Or.inl ?_
          have e0 : av.tmps.getD 31 undef = .pointer (some ⟨w.heap.size, 1, none⟩) := (hw 2 (by kernel_rfl))
          have e0e : av.eval (.tmp 31) = .pointer (some ⟨w.heap.size, 1, none⟩) := e0
          have e0g : av.tmps[31]?.getD undef = .pointer (some ⟨w.heap.size, 1, none⟩) := by have := e0; simp only [Array.getD_eq_getD_getElem?] at this; exact this
          obtain ⟨f0, f1, f2⟩ := FA.out x hb'
          clear hw hF
          simp only [Oper.wp, execOp]
          try simp only [e0e]
          go_simp
          exact hK _ x (by first | rfl | (simp only [Nat.add_zero]; done) | (congr 1; omega)) (Below.refl _ _) (fun h => by cases h)
        · simp only [wpOp, List.getElem?_toArray, List.getElem?_cons_succ, List.getElem?_cons_zero, Region.wanted, if_true]
          refine Or.inl ?_
          have e0 : av.tmps.getD 7 undef = .int .i64 (ix : Int) := hF.2.2 7 (by decide)
          have e0e : av.eval (.tmp 7) = .int .i64 (ix : Int) := e0
          have e0g : av.tmps[7]?.getD undef = .int .i64 (ix : Int) := by have := e0; simp only [Array.getD_eq_getD_getElem?] at this; exact this
          clear hw hF
          simp only [Oper.wp, execOp]
          try simp only [e0e]
          go_simp
          exact hK _ x (by first | rfl | (simp only [Nat.add_zero]; done) | (congr 1; omega)) (Below.refl _ _) (fun h => by cases h)
        · simp only [wpOp, List.getElem?_toArray, List.getElem?_cons_succ, List.getElem?_cons_zero, Region.wanted, if_true]
          refine Or.inl ?_
          have e0 : av.tmps.getD 9 undef = .int .i64 0 := hF.2.2 9 (by decide)
          have e0e : av.eval (.tmp 9) = .int .i64 0 := e0
          have e0g : av.tmps[9]?.getD undef = .int .i64 0 := by have := e0; simp only [Array.getD_eq_getD_getElem?] at this; exact this
          clear hw hF
          simp only [Oper.wp, execOp]
          try simp only [e0e]
          go_simp
          exact hK _ x (by first | rfl | (simp only [Nat.add_zero]; done) | (congr 1; omega)) (Below.refl _ _) (fun h => by cases h)
        · simp only [wpOp, List.getElem?_toArray, List.getElem?_cons_succ, List.getElem?_cons_zero, Region.wanted, if_true]
          refine Or.inl ?_
          have e0 : av.tmps.getD 1 undef = .string ⟨key.toArray⟩ := hF.2.2 1 (by decide)
          have e0e : av.eval (.tmp 1) = .string ⟨key.toArray⟩ := e0
          have e0g : av.tmps[1]?.getD undef = .string ⟨key.toArray⟩ := by have := e0; simp only [Array.getD_eq_getD_getElem?] at this; exact this
          clear hw hF
          simp only [Oper.wp, execOp]
          try simp only [e0e]
          go_simp
          exact hK _ x (by first | rfl | (simp only [Nat.add_zero]; done) | (congr 1; omega)) (Below.refl _ _) (fun h => by cases h)
        · simp only [wpOp, List.getElem?_toArray, List.getElem?_cons_succ, List.getElem?_cons_zero, Region.wanted, if_true]
          refine Or.inl ?_
          have e0 : av.tmps.getD 35 undef = .string ⟨key.toArray⟩ := (hw 6 (by kernel_rfl))
          have e0e : av.eval (.tmp 35) = .string ⟨key.toArray⟩ := e0
          have e0g : av.tmps[35]?.getD undef = .string ⟨key.toArray⟩ := by have := e0; simp only [Array.getD_eq_getD_getElem?] at this; exact this
          clear hw hF
          simp only [Oper.wp, execOp]
          try simp only [e0e]
          go_simp
          exact hK _ _ ⟨_, rfl, heap_alloc_new _ _⟩ ((Below.refl _ _).alloc (Nat.le_refl _) _) (fun h => by cases h)
        · simp only [wpOp, List.getElem?_toArray, List.getElem?_cons_succ, List.getElem?_cons_zero, Region.wanted, if_true]
          refine Or.inl ?_
          have e0 : av.tmps.getD 32 undef = .slice A ks.length c := (hw 3 (by kernel_rfl))
          have e0e : av.eval (.tmp 32) = .slice A ks.length c := e0
          have e0g : av.tmps[32]?.getD undef = .slice A ks.length c := by have := e0; simp only [Array.getD_eq_getD_getElem?] at this; exact this
          have e1 : av.tmps.getD 33 undef = .int .i64 (ix : Int) := (hw 4 (by kernel_rfl))
          have e1e : av.eval (.tmp 33) = .int .i64 (ix : Int) := e1
          have e1g : av.tmps[33]?.getD undef = .int .i64 (ix : Int) := by have := e1; simp only [Array.getD_eq_getD_getElem?] at this; exact this
          have e2 : av.tmps.getD 34 undef = .int .i64 0 := (hw 5 (by kernel_rfl))
          have e2e : av.eval (.tmp 34) = .int .i64 0 := e2
          have e2g : av.tmps[34]?.getD undef = .int .i64 0 := by have := e2; simp only [Array.getD_eq_getD_getElem?] at this; exact this
          obtain ⟨gg3, e3, hg3⟩ := (hw 7 (by kernel_rfl))
          have e3e : av.eval (.tmp 36) = .slice (some ⟨gg3, 0, none⟩) 1 1 := e3
          have e3g : av.tmps[36]?.getD undef = .slice (some ⟨gg3, 0, none⟩) 1 1 := by have := e3; simp only [Array.getD_eq_getD_getElem?] at this; exact this
          clear hw hF
          simp only [Oper.wp, execOp]
          try simp only [e0e, e1e, e2e, e3e]
          go_simp
          have LSx := LS.out x gg3 hb' hg3
          rw [m0] at LSx
          refine LSx.mono ?_
          rintro e x' ⟨A0, c0, rfl, hr, hx, hf⟩
          exact hK _ x' ⟨A0, c0, rfl, hr, fun b_ o_ e_ => by have := hf b_ o_ e_; have := SW2.out; have := hb'.size; omega⟩ hx (fun h => by cases h)
        · simp only [wpOp, List.getElem?_toArray, List.getElem?_cons_succ, List.getElem?_cons_zero, Region.wanted, if_true]
          refine Or.inl ?_
          have e0 : av.tmps.getD 3 undef = .pointer (some ⟨w.heap.size, 0, none⟩) := hF.2.2 3 (by decide)
          have e0e : av.eval (.tmp 3) = .pointer (some ⟨w.heap.size, 0, none⟩) := e0
          have e0g : av.tmps[3]?.getD undef = .pointer (some ⟨w.heap.size, 0, none⟩) := by have := e0; simp only [Array.getD_eq_getD_getElem?] at this; exact this
          clear hw hF
          simp only [Oper.wp, execOp]
          try simp only [e0e]
          go_simp
          exact hK _ x (by first | rfl | (simp only [Nat.add_zero]; done) | (congr 1; omega)) (Below.refl _ _) (fun h => by cases h)
        · simp only [wpOp, List.getElem?_toArray, List.getElem?_cons_succ, List.getElem?_cons_zero, Region.wanted, if_true]
          refine Or.inl ?_
          have e0 : av.tmps.getD 38 undef = .pointer (some ⟨w.heap.size, 2, none⟩) := (hw 9 (by kernel_rfl))
          have e0e : av.eval (.tmp 38) = .pointer (some ⟨w.heap.size, 2, none⟩) := e0
          have e0g : av.tmps[38]?.getD undef = .pointer (some ⟨w.heap.size, 2, none⟩) := by have := e0; simp only [Array.getD_eq_getD_getElem?] at this; exact this
          obtain ⟨f0, f1, f2⟩ := FA.out x hb'
          clear hw hF
          simp only [Oper.wp, execOp]
          try simp only [e0e]
          go_simp
          exact hK _ x (by first | rfl | (simp only [Nat.add_zero]; done) | (congr 1; omega)) (Below.refl _ _) (fun h => by cases h)
        · simp only [wpOp, List.getElem?_toArray, List.getElem?_cons_succ, List.getElem?_cons_zero, Region.wanted, if_true]
          refine Or.inl ?_
          have e0 : av.tmps.getD 10 undef = .int .i64 (ix : Int) := hF.2.2 10 (by decide)
          have e0e : av.eval (.tmp 10) = .int .i64 (ix : Int) := e0
          have e0g : av.tmps[10]?.getD undef = .int .i64 (ix : Int) := by have := e0; simp only [Array.getD_eq_getD_getElem?] at this; exact this
          clear hw hF
          simp only [Oper.wp, execOp]
          try simp only [e0e]
          go_simp
          exact hK _ x (by first | rfl | (simp only [Nat.add_zero]; done) | (congr 1; omega)) (Below.refl _ _) (fun h => by cases h)
        · simp only [wpOp, List.getElem?_toArray, List.getElem?_cons_succ, List.getElem?_cons_zero, Region.wanted, if_true]
          refine Or.inl ?_
          have e0 : av.tmps.getD 9 undef = .int .i64 0 := hF.2.2 9 (by decide)
          have e0e : av.eval (.tmp 9) = .int .i64 0 := e0
          have e0g : av.tmps[9]?.getD undef = .int .i64 0 := by have := e0; simp only [Array.getD_eq_getD_getElem?] at this; exact this
          clear hw hF
          simp only [Oper.wp, execOp]
          try simp only [e0e]
          go_simp
          exact hK _ x (by first | rfl | (simp only [Nat.add_zero]; done) | (congr 1; omega)) (Below.refl _ _) (fun h => by cases h)
        · simp only [wpOp, List.getElem?_toArray, List.getElem?_cons_succ, List.getElem?_cons_zero, Region.wanted, if_true]
          refine Or.inl ?_
          have e0 : av.tmps.getD 2 undef = .int .i64 kid := hF.2.2 2 (by decide)
          have e0e : av.eval (.tmp 2) = .int .i64 kid := e0
          have e0g : av.tmps[2]?.getD undef = .int .i64 kid := by have := e0; simp only [Array.getD_eq_getD_getElem?] at this; exact this
          clear hw hF
          simp only [Oper.wp, execOp]
          try simp only [e0e]
          go_simp
          exact hK _ x (by first | rfl | (simp only [Nat.add_zero]; done) | (congr 1; omega)) (Below.refl _ _) (fun h => by cases h)
        · simp only [wpOp, List.getElem?_toArray, List.getElem?_cons_succ, List.getElem?_cons_zero, Region.wanted, if_true]
          refine Or.inl ?_
          have e0 : av.tmps.getD 42 undef = .int .i64 kid := (hw 13 (by kernel_rfl))
          have e0e : av.eval (.tmp 42) = .int .i64 kid := e0
          have e0g : av.tmps[42]?.getD undef = .int .i64 kid := by have := e0; simp only [Array.getD_eq_getD_getElem?] at this; exact this
          clear hw hF
          simp only [Oper.wp, execOp]
          try simp only [e0e]
          go_simp
          exact hK _ _ ⟨_, rfl, heap_alloc_new _ _⟩ ((Below.refl _ _).alloc (Nat.le_refl _) _) (fun h => by cases h)
        · simp only [wpOp, List.getElem?_toArray, List.getElem?_cons_succ, List.getElem?_cons_zero, Region.wanted, if_true]
          refine Or.inl ?_
          have e0 : av.tmps.getD 39 undef = .slice B ds.length d := (hw 10 (by kernel_rfl))
          have e0e : av.eval (.tmp 39) = .slice B ds.length d := e0
          have e0g : av.tmps[39]?.getD undef = .slice B ds.length d := by have := e0; simp only [Array.getD_eq_getD_getElem?] at this; exact this
          have e1 : av.tmps.getD 40 undef = .int .i64 (ix : Int) := (hw 11 (by kernel_rfl))
          have e1e : av.eval (.tmp 40) = .int .i64 (ix : Int) := e1
          have e1g : av.tmps[40]?.getD undef = .int .i64 (ix : Int) := by have := e1; simp only [Array.getD_eq_getD_getElem?] at this; exact this
          have e2 : av.tmps.getD 41 undef = .int .i64 0 := (hw 12 (by kernel_rfl))
          have e2e : av.eval (.tmp 41) = .int .i64 0 := e2
          have e2g : av.tmps[41]?.getD undef = .int .i64 0 := by have := e2; simp only [Array.getD_eq_getD_getElem?] at this; exact this
          obtain ⟨gg3, e3, hg3⟩ := (hw 14 (by kernel_rfl))
          have e3e : av.eval (.tmp 43) = .slice (some ⟨gg3, 0, none⟩) 1 1 := e3
          have e3g : av.tmps[43]?.getD undef = .slice (some ⟨gg3, 0, none⟩) 1 1 := by have := e3; simp only [Array.getD_eq_getD_getElem?] at this; exact this
          clear hw hF
          simp only [Oper.wp, execOp]
          try simp only [e0e, e1e, e2e, e3e]
          go_simp
          have LIx := LI.out x gg3 hb' hg3
          rw [m0, m1] at LIx
          refine LIx.mono ?_
          rintro e x' ⟨A0, c0, rfl, hr, hx, hf⟩
          exact hK _ x' ⟨A0, c0, rfl, hr, fun b_ o_ e_ => by have := hf b_ o_ e_; have := SW2.out; have := hb'.size; omega⟩ hx (fun h => by cases h)
        · simp only [wpOp, List.getElem?_toArray, List.getElem?_cons_succ, List.getElem?_cons_zero, Region.wanted, if_true]
          refine Or.inl ?_
          have e0 : av.tmps.getD 30 undef = .bool true := (hw 1 (by kernel_rfl))
          have e0e : av.eval (.tmp 30) = .bool true := e0
          have e0g : av.tmps[30]?.getD undef = .bool true := by have := e0; simp only [Array.getD_eq_getD_getElem?] at this; exact this
          obtain ⟨A1, c1, e1, hr1, hf1⟩ := (hw 8 (by kernel_rfl))
          have e1e : av.eval (.tmp 37) = .slice A1 zs.length c1 := e1
          have e1g : av.tmps[37]?.getD undef = .slice A1 zs.length c1 := by have := e1; simp only [Array.getD_eq_getD_getElem?] at this; exact this
          obtain ⟨A2, c2, e2, hr2, hf2⟩ := (hw 15 (by kernel_rfl))
          have e2e : av.eval (.tmp 44) = .slice A2 ys.length c2 := e2
          have e2g : av.tmps[44]?.getD undef = .slice A2 ys.length c2 := by have := e2; simp only [Array.getD_eq_getD_getElem?] at this; exact this
          clear hw hF
          simp only [Oper.wp, execOp]
          try simp only [e0e, e1e, e2e]
          go_simp
          exact hK _ x ⟨A1, c1, A2, c2, rfl, hr1, hr2, hf1, hf2⟩ (Below.refl _ _) (fun h => by cases h)
      · intro av x hF hb' hR _
        have e0 : av.tmps.getD 29 undef = .pointer (some ⟨w.heap.size, 0, none⟩) := hR 0 (by decide)
        have e1 : av.tmps.getD 30 undef = .bool true := hR 1 (by decide)
        have e2 : av.tmps.getD 31 undef = .pointer (some ⟨w.heap.size, 1, none⟩) := hR 2 (by decide)
        have e3 : av.tmps.getD 32 undef = .slice A ks.length c := hR 3 (by decide)
        have e4 : av.tmps.getD 33 undef = .int .i64 (ix : Int) := hR 4 (by decide)
        have e5 : av.tmps.getD 34 undef = .int .i64 0 := hR 5 (by decide)
        have e6 : av.tmps.getD 35 undef = .string ⟨key.toArray⟩ := hR 6 (by decide)
        obtain ⟨gg7, e7, hg7⟩ := hR 7 (by decide)
        replace e7 : av.tmps.getD 36 undef = .slice (some ⟨gg7, 0, none⟩) 1 1 := e7
        obtain ⟨A8, c8, e8, hr8, hf8⟩ := hR 8 (by decide)
        replace e8 : av.tmps.getD 37 undef = .slice A8 zs.length c8 := e8
        have e9 : av.tmps.getD 38 undef = .pointer (some ⟨w.heap.size, 2, none⟩) := hR 9 (by decide)
        have e10 : av.tmps.getD 39 undef = .slice B ds.length d := hR 10 (by decide)
        have e11 : av.tmps.getD 40 undef = .int .i64 (ix : Int) := hR 11 (by decide)
        have e12 : av.tmps.getD 41 undef = .int .i64 0 := hR 12 (by decide)
        have e13 : av.tmps.getD 42 undef = .int .i64 kid := hR 13 (by decide)
        obtain ⟨gg14, e14, hg14⟩ := hR 14 (by decide)
        replace e14 : av.tmps.getD 43 undef = .slice (some ⟨gg14, 0, none⟩) 1 1 := e14
        obtain ⟨A15, c15, e15, hr15, hf15⟩ := hR 15 (by decide)
        replace e15 : av.tmps.getD 44 undef = .slice A15 ys.length c15 := e15
        obtain ⟨Ax16, cx16, Bx16, dx16, e16, h1x16, h2x16, h3x16, h4x16⟩ := hR 16 (by decide)
        replace e16 : av.tmps.getD 45 undef = .agg #[.bool true, .slice Ax16 zs.length cx16, .slice Bx16 ys.length dx16] := e16
        rw [hF.fold (by kernel_rfl)]
        simp only [List.foldl_cons, List.foldl_nil, e0, e1, e2, e3, e4, e5, e6, e7, e8, e9, e10, e11, e12, e13, e14, e15, e16]
        simp only [Act.put, List.setIfInBounds_toArray, List.set_cons_zero, List.set_cons_succ]
        change wpOps _ _ _ [17] _ _
        simp only [wpOps_cons]
        clear e0 e1 e2 e3 e4 e5 e6 e7 e8 e9 e10 e11 e12 e13 e14 e15 e16 hR hF
        have Q3 := Lib.hid (row_on Q2.out hb')
        have K3 := Lib.hid (K2.out.trans (hb'.mono K2.out.size))
        have X1 := Lib.hid h1x16
        have X2 := Lib.hid h2x16
        have X3 := Lib.hid h3x16
        have X4 := Lib.hid h4x16
        clear hb' h1x16 h2x16 h3x16 h4x16
        have p0 := row_c Q3.out (i := 0) rfl
        have p1 := row_c Q3.out (i := 1) rfl
        have p2 := row_c Q3.out (i := 2) rfl
        have y0 := frozen_of_row _ _ 0 _ _ Q3.out
        have y1 := frozen_of_row _ _ 1 _ _ Q3.out
        have y2 := frozen_of_row _ _ 2 _ _ Q3.out
        try rw [wpOps_cons]
        simp only [wpOp, List.getElem?_toArray, List.getElem?_cons_succ, List.getElem?_cons_zero, Region.wanted, if_true]
        refine Or.inl ?_
        simp only [Oper.wp, execOp]
        go_simp
        try simp only [wpOps]
        go_wp2
        refine bodyPost_ret (v := .agg #[.bool true, .slice Ax16 zs.length cx16, .slice Bx16 ys.length dx16]) (by simp [results, Try.results23, go_sem, p0, p1, p2]) rfl ⟨ix, false, Ax16, cx16, Bx16, dx16, by rw [HZ.out, HY.out], ?_, ?_, HI.out.1, (fun hh => by have h := HI.out.2.1; first | exact h hh | exact h trivial), HI.out.2.2, ?_, ?_, ?_⟩
        · rw [HZ.out]; exact ((X1.out.set X3.out (by omega) _ _).set X3.out (by omega) _ _).set X3.out (by omega) _ _
        · rw [HY.out]; exact ((X2.out.set X4.out (by omega) _ _).set X4.out (by omega) _ _).set X4.out (by omega) _ _
        · exact ((K3.out.setCell (by simp) _).setCell (by simp) _).setCell (by simp) _
        · exact fun b_ o_ e_ => by have := X3.out b_ o_ e_; omega
        · exact fun b_ o_ e_ => by have := X4.out b_ o_ e_; omega
  · cases lf
    · have m0 : mn = 1 := by rw [← HMN.out]; rfl
      have m1 : bh = ix + 1 := by rw [← HBH.out]; rfl
      have f0 := row_c R2.out (i := 0) rfl
      go_upto_region 9 with (fail)
      clear f0 f1 ii
      refine wp_operands (W := w2) rfl 17 [29, 30, 31, 32, 33, 34, 35, 36, 37, 38, 39, 40, 41, 42, 43, 44, 45] (fun i u x => match i with | 0 => u = .pointer (some ⟨w.heap.size, 0, none⟩) | 1 => u = .bool false | 2 => u = .pointer (some ⟨w.heap.size, 1, none⟩) | 3 => u = .slice A ks.length c | 4 => u = .int .i64 (ix : Int) | 5 => u = .int .i64 1 | 6 => u = .string ⟨key.toArray⟩ | 7 => ∃ g, u = .slice (some ⟨g, 0, none⟩) 1 1 ∧ x.heap[g]? = some (.cells #[.string ⟨key.toArray⟩] 9 (0, 0)) | 8 => ∃ A0 c0, u = .slice A0 zs.length c0 ∧ Rl sv x A0 c0 zs ∧ Fr (w.heap.size + 2) A0 | 9 => u = .pointer (some ⟨w.heap.size, 2, none⟩) | 10 => u = .slice B ds.length d | 11 => u = .int .i64 ((ix : Int) + 1) | 12 => u = .int .i64 1 | 13 => u = .int .i64 kid | 14 => ∃ g, u = .slice (some ⟨g, 0, none⟩) 1 1 ∧ x.heap[g]? = some (.cells #[.int .i64 kid] 3 (0, 0)) | 15 => ∃ A0 c0, u = .slice A0 ys.length c0 ∧ Rl nv x A0 c0 ys ∧ Fr (w.heap.size + 2) A0 | 16 => ∃ A0 c0 B0 d0, u = .agg #[.bool false, .slice A0 zs.length c0, .slice B0 ys.length d0] ∧ Rl sv x A0 c0 zs ∧ Rl nv x B0 d0 ys ∧ Fr (w.heap.size + 2) A0 ∧ Fr (w.heap.size + 2) B0 | _ => True) (fun _ => false)
        (by decide) rfl (by kernel_rfl) (by kernel_rfl) (by decide) (by kernel_rfl) ?_ (fun _ _ _ h => by cases h) ?_ ?_
      · intro i u x x' hi hR hb'
        have hi' : i = 0 ∨ i = 1 ∨ i = 2 ∨ i = 3 ∨ i = 4 ∨ i = 5 ∨ i = 6 ∨ i = 7 ∨ i = 8 ∨ i = 9 ∨ i = 10 ∨ i = 11 ∨ i = 12 ∨ i = 13 ∨ i = 14 ∨ i = 15 ∨ i = 16 := by omega
        rcases hi' with rfl | rfl | rfl | rfl | rfl | rfl | rfl | rfl | rfl | rfl | rfl | rfl | rfl | rfl | rfl | rfl | rfl
        · exact hR
        · exact hR
        · exact hR
        · exact hR
        · exact hR
        · exact hR
        · exact hR
        · obtain ⟨g, e, hg⟩ := hR; exact ⟨g, e, (hb'.block g (heap_lt hg)).trans hg⟩
        · obtain ⟨A0, c0, e, hr, hf⟩ := hR; exact ⟨A0, c0, e, hr.below hb', hf⟩
        · exact hR
        · exact hR
        · exact hR
        · exact hR
        · exact hR
        · obtain ⟨g, e, hg⟩ := hR; exact ⟨g, e, (hb'.block g (heap_lt hg)).trans hg⟩
        · obtain ⟨A0, c0, e, hr, hf⟩ := hR; exact ⟨A0, c0, e, hr.below hb', hf⟩
        · obtain ⟨A0, c0, B0, d0, e, h1, h2, h3, h4⟩ := hR; exact ⟨A0, c0, B0, d0, e, h1.below hb', h2.below hb', h3, h4⟩
      · intro i av x K hi hF hb' hw hK
        have hi' : i = 0 ∨ i = 1 ∨ i = 2 ∨ i = 3 ∨ i = 4 ∨ i = 5 ∨ i = 6 ∨ i = 7 ∨ i = 8 ∨ i = 9 ∨ i = 10 ∨ i = 11 ∨ i = 12 ∨ i = 13 ∨ i = 14 ∨ i = 15 ∨ i = 16 := by omega
        rcases hi' with rfl | rfl | rfl | rfl | rfl | rfl | rfl | rfl | rfl | rfl | rfl | rfl | rfl | rfl | rfl | rfl | rfl
        · simp only [wpOp, List.getElem?_toArray, List.getElem?_cons_zero, Region.wanted, if_true]
          refine Or.inl ?_
          have e0 : av.tmps.getD 3 undef = .pointer (some ⟨w.heap.size, 0, none⟩) := hF.2.2 3 (by decide)
          have e0e : av.eval (.tmp 3) = .pointer (some ⟨w.heap.size, 0, none⟩) := e0
          have e0g : av.tmps[3]?.getD undef = .pointer (some ⟨w.heap.size, 0, none⟩) := by have := e0; simp only [Array.getD_eq_getD_getElem?] at this; exact this
          clear hw hF
          simp only [Oper.wp, execOp]
          try simp only [e0e]
          go_simp
          exact hK _ x (by first | rfl | (simp only [Nat.add_zero]; done) | (congr 1; omega)) (Below.refl _ _) (fun h => by cases h)
        · simp only [wpOp, List.getElem?_toArray, List.getElem?_cons_succ, List.getElem?_cons_zero, Region.wanted, if_true]
          refine Or.inl ?_
          have e0 : av.tmps.getD 29 undef = .pointer (some ⟨w.heap.size, 0, none⟩) := (hw 0 (by kernel_rfl))
          have e0e : av.eval (.tmp 29) = .pointer (some ⟨w.heap.size, 0, none⟩) := e0
          have e0g : av.tmps[29]?.getD undef = .pointer (some ⟨w.heap.size, 0, none⟩) := by have := e0; simp only [Array.getD_eq_getD_getElem?] at this; exact this
          obtain ⟨f0, f1, f2⟩ := FA.out x hb'
          clear hw hF
          simp only [Oper.wp, execOp]
          try simp only [e0e]
          go_simp
          exact hK _ x (by first | rfl | (simp only [Nat.add_zero]; done) | (congr 1; omega)) (Below.refl _ _) (fun h => by cases h)
        · simp only [wpOp, List.getElem?_toArray, List.getElem?_cons_succ, List.getElem?_cons_zero, Region.wanted, if_true]
          refine Or.inl ?_
          have e0 : av.tmps.getD 3 undef = .pointer (some ⟨w.heap.size, 0, none⟩) := hF.2.2 3 (by decide)
          have e0e : av.eval (.tmp 3) = .pointer (some ⟨w.heap.size, 0, none⟩) := e0
          have e0g : av.tmps[3]?.getD undef = .pointer (some ⟨w.heap.size, 0, none⟩) := by have := e0; simp only [Array.getD_eq_getD_getElem?] at this; exact this
          clear hw hF
          simp only [Oper.wp, execOp]
          try simp only [e0e]
          go_simp
          exact hK _ x (by first | rfl | (simp only [Nat.add_zero]; done) | (congr 1; omega)) (Below.refl _ _) (fun h => by cases h)
        · simp only [wpOp, List.getElem?_toArray, List.getElem?_cons_succ, List.getElem?_cons_zero, Region.wanted, if_true]
          refine Or.inl ?_
          have e0 : av.tmps.getD 31 undef = .pointer (some ⟨w.heap.size, 1, none⟩) := (hw 2 (by kernel_rfl))
          have e0e : av.eval (.tmp 31) = .pointer (some ⟨w.heap.size, 1, none⟩) := e0
          have e0g : av.tmps[31]?.getD undef = .pointer (some ⟨w.heap.size, 1, none⟩) := by have := e0; simp only [Array.getD_eq_getD_getElem?] at this; exact this
          obtain ⟨f0, f1, f2⟩ := FA.out x hb'
          clear hw hF
          simp only [Oper.wp, execOp]
          try simp only [e0e]
          go_simp
          exact hK _ x (by first | rfl | (simp only [Nat.add_zero]; done) | (congr 1; omega)) (Below.refl _ _) (fun h => by cases h)
        · simp only [wpOp, List.getElem?_toArray, List.getElem?_cons_succ, List.getElem?_cons_zero, Region.wanted, if_true]
          refine Or.inl ?_
          have e0 : av.tmps.getD 7 undef = .int .i64 (ix : Int) := hF.2.2 7 (by decide)
          have e0e : av.eval (.tmp 7) = .int .i64 (ix : Int) := e0
          have e0g : av.tmps[7]?.getD undef = .int .i64 (ix : Int) := by have := e0; simp only [Array.getD_eq_getD_getElem?] at this; exact this
          clear hw hF
          simp only [Oper.wp, execOp]
          try simp only [e0e]
          go_simp
          exact hK _ x (by first | rfl | (simp only [Nat.add_zero]; done) | (congr 1; omega)) (Below.refl _ _) (fun h => by cases h)
        · simp only [wpOp, List.getElem?_toArray, List.getElem?_cons_succ, List.getElem?_cons_zero, Region.wanted, if_true]
          refine Or.inl ?_
          have e0 : av.tmps.getD 9 undef = .int .i64 1 := hF.2.2 9 (by decide)
          have e0e : av.eval (.tmp 9) = .int .i64 1 := e0
          have e0g : av.tmps[9]?.getD undef = .int .i64 1 := by have := e0; simp only [Array.getD_eq_getD_getElem?] at this; exact this
          clear hw hF
          simp only [Oper.wp, execOp]
          try simp only [e0e]
          go_simp
          exact hK _ x (by first | rfl | (simp only [Nat.add_zero]; done) | (congr 1; omega)) (Below.refl _ _) (fun h => by cases h)
        · simp only [wpOp, List.getElem?_toArray, List.getElem?_cons_succ, List.getElem?_cons_zero, Region.wanted, if_true]
          refine Or.inl ?_
          have e0 : av.tmps.getD 1 undef = .string ⟨key.toArray⟩ := hF.2.2 1 (by decide)
          have e0e : av.eval (.tmp 1) = .string ⟨key.toArray⟩ := e0
          have e0g : av.tmps[1]?.getD undef = .string ⟨key.toArray⟩ := by have := e0; simp only [Array.getD_eq_getD_getElem?] at this; exact this
          clear hw hF
          simp only [Oper.wp, execOp]
          try simp only [e0e]
          go_simp
          exact hK _ x (by first | rfl | (simp only [Nat.add_zero]; done) | (congr 1; omega)) (Below.refl _ _) (fun h => by cases h)
        · simp only [wpOp, List.getElem?_toArray, List.getElem?_cons_succ, List.getElem?_cons_zero, Region.wanted, if_true]
          refine Or.inl ?_
          have e0 : av.tmps.getD 35 undef = .string ⟨key.toArray⟩ := (hw 6 (by kernel_rfl))
          have e0e : av.eval (.tmp 35) = .string ⟨key.toArray⟩ := e0
          have e0g : av.tmps[35]?.getD undef = .string ⟨key.toArray⟩ := by have := e0; simp only [Array.getD_eq_getD_getElem?] at this; exact this
          clear hw hF
          simp only [Oper.wp, execOp]
          try simp only [e0e]
          go_simp
          exact hK _ _ ⟨_, rfl, heap_alloc_new _ _⟩ ((Below.refl _ _).alloc (Nat.le_refl _) _) (fun h => by cases h)
        · simp only [wpOp, List.getElem?_toArray, List.getElem?_cons_succ, List.getElem?_cons_zero, Region.wanted, if_true]
          refine Or.inl ?_
          have e0 : av.tmps.getD 32 undef = .slice A ks.length c := (hw 3 (by kernel_rfl))
          have e0e : av.eval (.tmp 32) = .slice A ks.length c := e0
          have e0g : av.tmps[32]?.getD undef = .slice A ks.length c := by have := e0; simp only [Array.getD_eq_getD_getElem?] at this; exact this
          have e1 : av.tmps.getD 33 undef = .int .i64 (ix : Int) := (hw 4 (by kernel_rfl))
          have e1e : av.eval (.tmp 33) = .int .i64 (ix : Int) := e1
          have e1g : av.tmps[33]?.getD undef = .int .i64 (ix : Int) := by have := e1; simp only [Array.getD_eq_getD_getElem?] at this; exact this
          have e2 : av.tmps.getD 34 undef = .int .i64 1 := (hw 5 (by kernel_rfl))
          have e2e : av.eval (.tmp 34) = .int .i64 1 := e2
          have e2g : av.tmps[34]?.getD undef = .int .i64 1 := by have := e2; simp only [Array.getD_eq_getD_getElem?] at this; exact this
          obtain ⟨gg3, e3, hg3⟩ := (hw 7 (by kernel_rfl))
          have e3e : av.eval (.tmp 36) = .slice (some ⟨gg3, 0, none⟩) 1 1 := e3
          have e3g : av.tmps[36]?.getD undef = .slice (some ⟨gg3, 0, none⟩) 1 1 := by have := e3; simp only [Array.getD_eq_getD_getElem?] at this; exact this
          clear hw hF
          simp only [Oper.wp, execOp]
          try simp only [e0e, e1e, e2e, e3e]
          go_simp
          have LSx := LS.out x gg3 hb' hg3
          rw [m0] at LSx
          refine LSx.mono ?_
          rintro e x' ⟨A0, c0, rfl, hr, hx, hf⟩
          exact hK _ x' ⟨A0, c0, rfl, hr, fun b_ o_ e_ => by have := hf b_ o_ e_; have := SW2.out; have := hb'.size; omega⟩ hx (fun h => by cases h)
        · simp only [wpOp, List.getElem?_toArray, List.getElem?_cons_succ, List.getElem?_cons_zero, Region.wanted, if_true]
          refine Or.inl ?_
          have e0 : av.tmps.getD 3 undef = .pointer (some ⟨w.heap.size, 0, none⟩) := hF.2.2 3 (by decide)
          have e0e : av.eval (.tmp 3) = .pointer (some ⟨w.heap.size, 0, none⟩) := e0
          have e0g : av.tmps[3]?.getD undef = .pointer (some ⟨w.heap.size, 0, none⟩) := by have := e0; simp only [Array.getD_eq_getD_getElem?] at this; exact this
          clear hw hF
          simp only [Oper.wp, execOp]
          try simp only [e0e]
          go_simp
          exact hK _ x (by first | rfl | (simp only [Nat.add_zero]; done) | (congr 1; omega)) (Below.refl _ _) (fun h => by cases h)
        · simp only [wpOp, List.getElem?_toArray, List.getElem?_cons_succ, List.getElem?_cons_zero, Region.wanted, if_true]
          refine Or.inl ?_
          have e0 : av.tmps.getD 38 undef = .pointer (some ⟨w.heap.size, 2, none⟩) := (hw 9 (by kernel_rfl))
          have e0e : av.eval (.tmp 38) = .pointer (some ⟨w.heap.size, 2, none⟩) := e0
          have e0g : av.tmps[38]?.getD undef = .pointer (some ⟨w.heap.size, 2, none⟩) := by have := e0; simp only [Array.getD_eq_getD_getElem?] at this; exact this
          obtain ⟨f0, f1, f2⟩ := FA.out x hb'
          clear hw hF
          simp only [Oper.wp, execOp]
          try simp only [e0e]
          go_simp
          exact hK _ x (by first | rfl | (simp only [Nat.add_zero]; done) | (congr 1; omega)) (Below.refl _ _) (fun h => by cases h)
        · simp only [wpOp, List.getElem?_toArray, List.getElem?_cons_succ, List.getElem?_cons_zero, Region.wanted, if_true]
          refine Or.inl ?_
          have e0 : av.tmps.getD 10 undef = .int .i64 ((ix : Int) + 1) := hF.2.2 10 (by decide)
          have e0e : av.eval (.tmp 10) = .int .i64 ((ix : Int) + 1) := e0
          have e0g : av.tmps[10]?.getD undef = .int .i64 ((ix : Int) + 1) := by have := e0; simp only [Array.getD_eq_getD_getElem?] at this; exact this
          clear hw hF
          simp only [Oper.wp, execOp]
          try simp only [e0e]
          go_simp
          exact hK _ x (by first | rfl | (simp only [Nat.add_zero]; done) | (congr 1; omega)) (Below.refl _ _) (fun h => by cases h)
        · simp only [wpOp, List.getElem?_toArray, List.getElem?_cons_succ, List.getElem?_cons_zero, Region.wanted, if_true]
          refine Or.inl ?_
          have e0 : av.tmps.getD 9 undef = .int .i64 1 := hF.2.2 9 (by decide)
          have e0e : av.eval (.tmp 9) = .int .i64 1 := e0
          have e0g : av.tmps[9]?.getD undef = .int .i64 1 := by have := e0; simp only [Array.getD_eq_getD_getElem?] at this; exact this
          clear hw hF
          simp only [Oper.wp, execOp]
          try simp only [e0e]
          go_simp
          exact hK _ x (by first | rfl | (simp only [Nat.add_zero]; done) | (congr 1; omega)) (Below.refl _ _) (fun h => by cases h)
        · simp only [wpOp, List.getElem?_toArray, List.getElem?_cons_succ, List.getElem?_cons_zero, Region.wanted, if_true]
          refine Or.inl ?_
          have e0 : av.tmps.getD 2 undef = .int .i64 kid := hF.2.2 2 (by decide)
          have e0e : av.eval (.tmp 2) = .int .i64 kid := e0
          have e0g : av.tmps[2]?.getD undef = .int .i64 kid := by have := e0; simp only [Array.getD_eq_getD_getElem?] at this; exact this
          clear hw hF
          simp only [Oper.wp, execOp]
          try simp only [e0e]
          go_simp
          exact hK _ x (by first | rfl | (simp only [Nat.add_zero]; done) | (congr 1; omega)) (Below.refl _ _) (fun h => by cases h)
        · simp only [wpOp, List.getElem?_toArray, List.getElem?_cons_succ, List.getElem?_cons_zero, Region.wanted, if_true]
          refine Or.inl ?_
          have e0 : av.tmps.getD 42 undef = .int .i64 kid := (hw 13 (by kernel_rfl))
          have e0e : av.eval (.tmp 42) = .int .i64 kid := e0
          have e0g : av.tmps[42]?.getD undef = .int .i64 kid := by have := e0; simp only [Array.getD_eq_getD_getElem?] at this; exact this
          clear hw hF
          simp only [Oper.wp, execOp]
          try simp only [e0e]
          go_simp
          exact hK _ _ ⟨_, rfl, heap_alloc_new _ _⟩ ((Below.refl _ _).alloc (Nat.le_refl _) _) (fun h => by cases h)
        · simp only [wpOp, List.getElem?_toArray, List.getElem?_cons_succ, List.getElem?_cons_zero, Region.wanted, if_true]
          refine Or.inl ?_
          have e0 : av.tmps.getD 39 undef = .slice B ds.length d := (hw 10 (by kernel_rfl))
          have e0e : av.eval (.tmp 39) = .slice B ds.length d := e0
          have e0g : av.tmps[39]?.getD undef = .slice B ds.length d := by have := e0; simp only [Array.getD_eq_getD_getElem?] at this; exact this
          have e1 : av.tmps.getD 40 undef = .int .i64 ((ix : Int) + 1) := (hw 11 (by kernel_rfl))
          have e1e : av.eval (.tmp 40) = .int .i64 ((ix : Int) + 1) := e1
          have e1g : av.tmps[40]?.getD undef = .int .i64 ((ix : Int) + 1) := by have := e1; simp only [Array.getD_eq_getD_getElem?] at this; exact this
          have e2 : av.tmps.getD 41 undef = .int .i64 1 := (hw 12 (by kernel_rfl))
          have e2e : av.eval (.tmp 41) = .int .i64 1 := e2
          have e2g : av.tmps[41]?.getD undef = .int .i64 1 := by have := e2; simp only [Array.getD_eq_getD_getElem?] at this; exact this
          obtain ⟨gg3, e3, hg3⟩ := (hw 14 (by kernel_rfl))
          have e3e : av.eval (.tmp 43) = .slice (some ⟨gg3, 0, none⟩) 1 1 := e3
          have e3g : av.tmps[43]?.getD undef = .slice (some ⟨gg3, 0, none⟩) 1 1 := by have := e3; simp only [Array.getD_eq_getD_getElem?] at this; exact this
          clear hw hF
          simp only [Oper.wp, execOp]
          try simp only [e0e, e1e, e2e, e3e]
          go_simp
          have LIx := LI.out x gg3 hb' hg3
          rw [m0, m1] at LIx
          refine LIx.mono ?_
          rintro e x' ⟨A0, c0, rfl, hr, hx, hf⟩
          exact hK _ x' ⟨A0, c0, rfl, hr, fun b_ o_ e_ => by have := hf b_ o_ e_; have := SW2.out; have := hb'.size; omega⟩ hx (fun h => by cases h)
        · simp only [wpOp, List.getElem?_toArray, List.getElem?_cons_succ, List.getElem?_cons_zero, Region.wanted, if_true]
          refine Or.inl ?_
          have e0 : av.tmps.getD 30 undef = .bool false := (hw 1 (by kernel_rfl))
          have e0e : av.eval (.tmp 30) = .bool false := e0
          have e0g : av.tmps[30]?.getD undef = .bool false := by have := e0; simp only [Array.getD_eq_getD_getElem?] at this; exact this
          obtain ⟨A1, c1, e1, hr1, hf1⟩ := (hw 8 (by kernel_rfl))
          have e1e : av.eval (.tmp 37) = .slice A1 zs.length c1 := e1
          have e1g : av.tmps[37]?.getD undef = .slice A1 zs.length c1 := by have := e1; simp only [Array.getD_eq_getD_getElem?] at this; exact this
          obtain ⟨A2, c2, e2, hr2, hf2⟩ := (hw 15 (by kernel_rfl))
          have e2e : av.eval (.tmp 44) = .slice A2 ys.length c2 := e2
          have e2g : av.tmps[44]?.getD undef = .slice A2 ys.length c2 := by have := e2; simp only [Array.getD_eq_getD_getElem?] at this; exact this
          clear hw hF
          simp only [Oper.wp, execOp]
          try simp only [e0e, e1e, e2e]
          go_simp
          exact hK _ x ⟨A1, c1, A2, c2, rfl, hr1, hr2, hf1, hf2⟩ (Below.refl _ _) (fun h => by cases h)
      · intro av x hF hb' hR _
        have e0 : av.tmps.getD 29 undef = .pointer (some ⟨w.heap.size, 0, none⟩) := hR 0 (by decide)
        have e1 : av.tmps.getD 30 undef = .bool false := hR 1 (by decide)
        have e2 : av.tmps.getD 31 undef = .pointer (some ⟨w.heap.size, 1, none⟩) := hR 2 (by decide)
        have e3 : av.tmps.getD 32 undef = .slice A ks.length c := hR 3 (by decide)
        have e4 : av.tmps.getD 33 undef = .int .i64 (ix : Int) := hR 4 (by decide)
        have e5 : av.tmps.getD 34 undef = .int .i64 1 := hR 5 (by decide)
        have e6 : av.tmps.getD 35 undef = .string ⟨key.toArray⟩ := hR 6 (by decide)
        obtain ⟨gg7, e7, hg7⟩ := hR 7 (by decide)
        replace e7 : av.tmps.getD 36 undef = .slice (some ⟨gg7, 0, none⟩) 1 1 := e7
        obtain ⟨A8, c8, e8, hr8, hf8⟩ := hR 8 (by decide)
        replace e8 : av.tmps.getD 37 undef = .slice A8 zs.length c8 := e8
        have e9 : av.tmps.getD 38 undef = .pointer (some ⟨w.heap.size, 2, none⟩) := hR 9 (by decide)
        have e10 : av.tmps.getD 39 undef = .slice B ds.length d := hR 10 (by decide)
        have e11 : av.tmps.getD 40 undef = .int .i64 ((ix : Int) + 1) := hR 11 (by decide)
        have e12 : av.tmps.getD 41 undef = .int .i64 1 := hR 12 (by decide)
        have e13 : av.tmps.getD 42 undef = .int .i64 kid := hR 13 (by decide)
        obtain ⟨gg14, e14, hg14⟩ := hR 14 (by decide)
        replace e14 : av.tmps.getD 43 undef = .slice (some ⟨gg14, 0, none⟩) 1 1 := e14
        obtain ⟨A15, c15, e15, hr15, hf15⟩ := hR 15 (by decide)
        replace e15 : av.tmps.getD 44 undef = .slice A15 ys.length c15 := e15
        obtain ⟨Ax16, cx16, Bx16, dx16, e16, h1x16, h2x16, h3x16, h4x16⟩ := hR 16 (by decide)
        replace e16 : av.tmps.getD 45 undef = .agg #[.bool false, .slice Ax16 zs.length cx16, .slice Bx16 ys.length dx16] := e16
        rw [hF.fold (by kernel_rfl)]
        simp only [List.foldl_cons, List.foldl_nil, e0, e1, e2, e3, e4, e5, e6, e7, e8, e9, e10, e11, e12, e13, e14, e15, e16]
        simp only [Act.put, List.setIfInBounds_toArray, List.set_cons_zero, List.set_cons_succ]
        change wpOps _ _ _ [17] _ _
        simp only [wpOps_cons]
        clear e0 e1 e2 e3 e4 e5 e6 e7 e8 e9 e10 e11 e12 e13 e14 e15 e16 hR hF
        have Q3 := Lib.hid (row_on Q2.out hb')
        have K3 := Lib.hid (K2.out.trans (hb'.mono K2.out.size))
        have X1 := Lib.hid h1x16
        have X2 := Lib.hid h2x16
        have X3 := Lib.hid h3x16
        have X4 := Lib.hid h4x16
        clear hb' h1x16 h2x16 h3x16 h4x16
        have p0 := row_c Q3.out (i := 0) rfl
        have p1 := row_c Q3.out (i := 1) rfl
        have p2 := row_c Q3.out (i := 2) rfl
        have y0 := frozen_of_row _ _ 0 _ _ Q3.out
        have y1 := frozen_of_row _ _ 1 _ _ Q3.out
        have y2 := frozen_of_row _ _ 2 _ _ Q3.out
        try rw [wpOps_cons]
        simp only [wpOp, List.getElem?_toArray, List.getElem?_cons_succ, List.getElem?_cons_zero, Region.wanted, if_true]
        refine Or.inl ?_
        simp only [Oper.wp, execOp]
        go_simp
        try simp only [wpOps]
        go_wp2
        refine bodyPost_ret (v := .agg #[.bool false, .slice Ax16 zs.length cx16, .slice Bx16 ys.length dx16]) (by simp [results, Try.results23, go_sem, p0, p1, p2]) rfl ⟨ix, true, Ax16, cx16, Bx16, dx16, by rw [HZ.out, HY.out], ?_, ?_, HI.out.1, (fun hh => by have h := HI.out.2.1; first | exact h hh | exact h trivial), HI.out.2.2, ?_, ?_, ?_⟩
        · rw [HZ.out]; exact ((X1.out.set X3.out (by omega) _ _).set X3.out (by omega) _ _).set X3.out (by omega) _ _
        · rw [HY.out]; exact ((X2.out.set X4.out (by omega) _ _).set X4.out (by omega) _ _).set X4.out (by omega) _ _
        · exact ((K3.out.setCell (by simp) _).setCell (by simp) _).setCell (by simp) _
        · exact fun b_ o_ e_ => by have := X3.out b_ o_ e_; omega
        · exact fun b_ o_ e_ => by have := X4.out b_ o_ e_; omega
    · have m0 : mn = 1 := by rw [← HMN.out]; rfl
      have m1 : bh = ix := by rw [← HBH.out]; rfl
      have f0 := row_c R2.out (i := 0) rfl
      go_upto_region 9 with (fail)
      clear f0 f1 ii
      refine wp_operands (W := w2) rfl 17 [29, 30, 31, 32, 33, 34, 35, 36, 37, 38, 39, 40, 41, 42, 43, 44, 45] (fun i u x => match i with | 0 => u = .pointer (some ⟨w.heap.size, 0, none⟩) | 1 => u = .bool true | 2 => u = .pointer (some ⟨w.heap.size, 1, none⟩) | 3 => u = .slice A ks.length c | 4 => u = .int .i64 (ix : Int) | 5 => u = .int .i64 1 | 6 => u = .string ⟨key.toArray⟩ | 7 => ∃ g, u = .slice (some ⟨g, 0, none⟩) 1 1 ∧ x.heap[g]? = some (.cells #[.string ⟨key.toArray⟩] 9 (0, 0)) | 8 => ∃ A0 c0, u = .slice A0 zs.length c0 ∧ Rl sv x A0 c0 zs ∧ Fr (w.heap.size + 2) A0 | 9 => u = .pointer (some ⟨w.heap.size, 2, none⟩) | 10 => u = .slice B ds.length d | 11 => u = .int .i64 (ix : Int) | 12 => u = .int .i64 1 | 13 => u = .int .i64 kid | 14 => ∃ g, u = .slice (some ⟨g, 0, none⟩) 1 1 ∧ x.heap[g]? = some (.cells #[.int .i64 kid] 3 (0, 0)) | 15 => ∃ A0 c0, u = .slice A0 ys.length c0 ∧ Rl nv x A0 c0 ys ∧ Fr (w.heap.size + 2) A0 | 16 => ∃ A0 c0 B0 d0, u = .agg #[.bool true, .slice A0 zs.length c0, .slice B0 ys.length d0] ∧ Rl sv x A0 c0 zs ∧ Rl nv x B0 d0 ys ∧ Fr (w.heap.size + 2) A0 ∧ Fr (w.heap.size + 2) B0 | _ => True) (fun _ => false)
        (by decide) rfl (by kernel_rfl) (by kernel_rfl) (by decide) (by kernel_rfl) ?_ (fun _ _ _ h => by cases h) ?_ ?_
      · intro i u x x' hi hR hb'
        have hi' : i = 0 ∨ i = 1 ∨ i = 2 ∨ i = 3 ∨ i = 4 ∨ i = 5 ∨ i = 6 ∨ i = 7 ∨ i = 8 ∨ i = 9 ∨ i = 10 ∨ i = 11 ∨ i = 12 ∨ i = 13 ∨ i = 14 ∨ i = 15 ∨ i = 16 := by omega
        rcases hi' with rfl | rfl | rfl | rfl | rfl | rfl | rfl | rfl | rfl | rfl | rfl | rfl | rfl | rfl | rfl | rfl | rfl
        · exact hR
        · exact hR
        · exact hR
        · exact hR
        · exact hR
        · exact hR
        · exact hR
        · obtain ⟨g, e, hg⟩ := hR; exact ⟨g, e, (hb'.block g (heap_lt hg)).trans hg⟩
        · obtain ⟨A0, c0, e, hr, hf⟩ := hR; exact ⟨A0, c0, e, hr.below hb', hf⟩
        · exact hR
        · exact hR
        · exact hR
        · exact hR
        · exact hR
        · obtain ⟨g, e, hg⟩ := hR; exact ⟨g, e, (hb'.block g (heap_lt hg)).trans hg⟩
        · obtain ⟨A0, c0, e, hr, hf⟩ := hR; exact ⟨A0, c0, e, hr.below hb', hf⟩
        · obtain ⟨A0, c0, B0, d0, e, h1, h2, h3, h4⟩ := hR; exact ⟨A0, c0, B0, d0, e, h1.below hb', h2.below hb', h3, h4⟩
      · intro i av x K hi hF hb' hw hK
        have hi' : i = 0 ∨ i = 1 ∨ i = 2 ∨ i = 3 ∨ i = 4 ∨ i = 5 ∨ i = 6 ∨ i = 7 ∨ i = 8 ∨ i = 9 ∨ i = 10 ∨ i = 11 ∨ i = 12 ∨ i = 13 ∨ i = 14 ∨ i = 15 ∨ i = 16 := by omega
        rcases hi' with rfl | rfl | rfl | rfl | rfl | rfl | rfl | rfl | rfl | rfl | rfl | rfl | rfl | rfl | rfl | rfl | rfl
        · simp only [wpOp, List.getElem?_toArray, List.getElem?_cons_zero, Region.wanted, if_true]
          refine Or.inl ?_
          have e0 : av.tmps.getD 3 undef = .pointer (some ⟨w.heap.size, 0, none⟩) := hF.2.2 3 (by decide)
          have e0e : av.eval (.tmp 3) = .pointer (some ⟨w.heap.size, 0, none⟩) := e0
          have e0g : av.tmps[3]?.getD undef = .pointer (some ⟨w.heap.size, 0, none⟩) := by have := e0; simp only [Array.getD_eq_getD_getElem?] at this; exact this
          clear hw hF
          simp only [Oper.wp, execOp]
          try simp only [e0e]
          go_simp
          exact hK _ x (by first | rfl | (simp only [Nat.add_zero]; done) | (congr 1; omega)) (Below.refl _ _) (fun h => by cases h)
        · simp only [wpOp, List.getElem?_toArray, List.getElem?_cons_succ, List.getElem?_cons_zero, Region.wanted, if_true]
          refine Or.inl ?_
          have e0 : av.tmps.getD 29 undef = .pointer (some ⟨w.heap.size, 0, none⟩) := (hw 0 (by kernel_rfl))
          have e0e : av.eval (.tmp 29) = .pointer (some ⟨w.heap.size, 0, none⟩) := e0
          have e0g : av.tmps[29]?.getD undef = .pointer (some ⟨w.heap.size, 0, none⟩) := by have := e0; simp only [Array.getD_eq_getD_getElem?] at this; exact this
          obtain ⟨f0, f1, f2⟩ := FA.out x hb'
          clear hw hF
          simp only [Oper.wp, execOp]
          try simp only [e0e]
          go_simp
          exact hK _ x (by first | rfl | (simp only [Nat.add_zero]; done) | (congr 1; omega)) (Below.refl _ _) (fun h => by cases h)
        · simp only [wpOp, List.getElem?_toArray, List.getElem?_cons_succ, List.getElem?_cons_zero, Region.wanted, if_true]
          refine Or.inl ?_
          have e0 : av.tmps.getD 3 undef = .pointer (some ⟨w.heap.size, 0, none⟩) := hF.2.2 3 (by decide)
          have e0e : av.eval (.tmp 3) = .pointer (some ⟨w.heap.size, 0, none⟩) := e0
          have e0g : av.tmps[3]?.getD undef = .pointer (some ⟨w.heap.size, 0, none⟩) := by have := e0; simp only [Array.getD_eq_getD_getElem?] at this; exact this
          clear hw hF
          simp only [Oper.wp, execOp]
          try simp only [e0e]
          go_simp
          exact hK _ x (by first | rfl | (simp only [Nat.add_zero]; done) | (congr 1; omega)) (Below.refl _ _) (fun h => by cases h)
        · simp only [wpOp, List.getElem?_toArray, List.getElem?_cons_succ, List.getElem?_cons_zero, Region.wanted, if_true]
          refine Or.inl ?_
          have e0 : av.tmps.getD 31 undef = .pointer (some ⟨w.heap.size, 1, none⟩) := (hw 2 (by kernel_rfl))
          have e0e : av.eval (.tmp 31) = .pointer (some ⟨w.heap.size, 1, none⟩) := e0
          have e0g : av.tmps[31]?.getD undef = .pointer (some ⟨w.heap.size, 1, none⟩) := by have := e0; simp only [Array.getD_eq_getD_getElem?] at this; exact this
          obtain ⟨f0, f1, f2⟩ := FA.out x hb'
          clear hw hF
          simp only [Oper.wp, execOp]
          try simp only [e0e]
          go_simp
          exact hK _ x (by first | rfl | (simp only [Nat.add_zero]; done) | (congr 1; omega)) (Below.refl _ _) (fun h => by cases h)
        · simp only [wpOp, List.getElem?_toArray, List.getElem?_cons_succ, List.getElem?_cons_zero, Region.wanted, if_true]
          refine Or.inl ?_
          have e0 : av.tmps.getD 7 undef = .int .i64 (ix : Int) := hF.2.2 7 (by decide)
          have e0e : av.eval (.tmp 7) = .int .i64 (ix : Int) := e0
          have e0g : av.tmps[7]?.getD undef = .int .i64 (ix : Int) := by have := e0; simp only [Array.getD_eq_getD_getElem?] at this; exact this
          clear hw hF
          simp only [Oper.wp, execOp]
          try simp only [e0e]
          go_simp
          exact hK _ x (by first | rfl | (simp only [Nat.add_zero]; done) | (congr 1; omega)) (Below.refl _ _) (fun h => by cases h)
        · simp only [wpOp, List.getElem?_toArray, List.getElem?_cons_succ, List.getElem?_cons_zero, Region.wanted, if_true]
          refine Or.inl ?_
          have e0 : av.tmps.getD 9 undef = .int .i64 1 := hF.2.2 9 (by decide)
          have e0e : av.eval (.tmp 9) = .int .i64 1 := e0
          have e0g : av.tmps[9]?.getD undef = .int .i64 1 := by have := e0; simp only [Array.getD_eq_getD_getElem?] at this; exact this
          clear hw hF
          simp only [Oper.wp, execOp]
          try simp only [e0e]
          go_simp
          exact hK _ x (by first | rfl | (simp only [Nat.add_zero]; done) | (congr 1; omega)) (Below.refl _ _) (fun h => by cases h)
        · simp only [wpOp, List.getElem?_toArray, List.getElem?_cons_succ, List.getElem?_cons_zero, Region.wanted, if_true]
          refine Or.inl ?_
          have e0 : av.tmps.getD 1 undef = .string ⟨key.toArray⟩ := hF.2.2 1 (by decide)
          have e0e : av.eval (.tmp 1) = .string ⟨key.toArray⟩ := e0
          have e0g : av.tmps[1]?.getD undef = .string ⟨key.toArray⟩ := by have := e0; simp only [Array.getD_eq_getD_getElem?] at this; exact this
          clear hw hF
          simp only [Oper.wp, execOp]
          try simp only [e0e]
          go_simp
          exact hK _ x (by first | rfl | (simp only [Nat.add_zero]; done) | (congr 1; omega)) (Below.refl _ _) (fun h => by cases h)
        · simp only [wpOp, List.getElem?_toArray, List.getElem?_cons_succ, List.getElem?_cons_zero, Region.wanted, if_true]
          refine Or.inl ?_
          have e0 : av.tmps.getD 35 undef = .string ⟨key.toArray⟩ := (hw 6 (by kernel_rfl))
          have e0e : av.eval (.tmp 35) = .string ⟨key.toArray⟩ := e0
          have e0g : av.tmps[35]?.getD undef = .string ⟨key.toArray⟩ := by have := e0; simp only [Array.getD_eq_getD_getElem?] at this; exact this
          clear hw hF
          simp only [Oper.wp, execOp]
          try simp only [e0e]
          go_simp
          exact hK _ _ ⟨_, rfl, heap_alloc_new _ _⟩ ((Below.refl _ _).alloc (Nat.le_refl _) _) (fun h => by cases h)
        · simp only [wpOp, List.getElem?_toArray, List.getElem?_cons_succ, List.getElem?_cons_zero, Region.wanted, if_true]
          refine Or.inl ?_
          have e0 : av.tmps.getD 32 undef = .slice A ks.length c := (hw 3 (by kernel_rfl))
          have e0e : av.eval (.tmp 32) = .slice A ks.length c := e0
          have e0g : av.tmps[32]?.getD undef = .slice A ks.length c := by have := e0; simp only [Array.getD_eq_getD_getElem?] at this; exact this
          have e1 : av.tmps.getD 33 undef = .int .i64 (ix : Int) := (hw 4 (by kernel_rfl))
          have e1e : av.eval (.tmp 33) = .int .i64 (ix : Int) := e1
          have e1g : av.tmps[33]?.getD undef = .int .i64 (ix : Int) := by have := e1; simp only [Array.getD_eq_getD_getElem?] at this; exact this
          have e2 : av.tmps.getD 34 undef = .int .i64 1 := (hw 5 (by kernel_rfl))
          have e2e : av.eval (.tmp 34) = .int .i64 1 := e2
          have e2g : av.tmps[34]?.getD undef = .int .i64 1 := by have := e2; simp only [Array.getD_eq_getD_getElem?] at this; exact this
          obtain ⟨gg3, e3, hg3⟩ := (hw 7 (by kernel_rfl))
          have e3e : av.eval (.tmp 36) = .slice (some ⟨gg3, 0, none⟩) 1 1 := e3
          have e3g : av.tmps[36]?.getD undef = .slice (some ⟨gg3, 0, none⟩) 1 1 := by have := e3; simp only [Array.getD_eq_getD_getElem?] at this; exact this
          clear hw hF
          simp only [Oper.wp, execOp]
          try simp only [e0e, e1e, e2e, e3e]
          go_simp
          have LSx := LS.out x gg3 hb' hg3
          rw [m0] at LSx
          refine LSx.mono ?_
          rintro e x' ⟨A0, c0, rfl, hr, hx, hf⟩
          exact hK _ x' ⟨A0, c0, rfl, hr, fun b_ o_ e_ => by have := hf b_ o_ e_; have := SW2.out; have := hb'.size; omega⟩ hx (fun h => by cases h)
        · simp only [wpOp, List.getElem?_toArray, List.getElem?_cons_succ, List.getElem?_cons_zero, Region.wanted, if_true]
          refine Or.inl ?_
          have e0 : av.tmps.getD 3 undef = .pointer (some ⟨w.heap.size, 0, none⟩) := hF.2.2 3 (by decide)
          have e0e : av.eval (.tmp 3) = .pointer (some ⟨w.heap.size, 0, none⟩) := e0
          have e0g : av.tmps[3]?.getD undef = .pointer (some ⟨w.heap.size, 0, none⟩) := by have := e0; simp only [Array.getD_eq_getD_getElem?] at this; exact this
          clear hw hF
          simp only [Oper.wp, execOp]
          try simp only [e0e]
          go_simp
          exact hK _ x (by first | rfl | (simp only [Nat.add_zero]; done) | (congr 1; omega)) (Below.refl _ _) (fun h => by cases h)
        · simp only [wpOp, List.getElem?_toArray, List.getElem?_cons_succ, List.getElem?_cons_zero, Region.wanted, if_true]
          refine Or.inl ?_
          have e0 : av.tmps.getD 38 undef = .pointer (some ⟨w.heap.size, 2, none⟩) := (hw 9 (by kernel_rfl))
          have e0e : av.eval (.tmp 38) = .pointer (some ⟨w.heap.size, 2, none⟩) := e0
          have e0g : av.tmps[38]?.getD undef = .pointer (some ⟨w.heap.size, 2, none⟩) := by have := e0; simp only [Array.getD_eq_getD_getElem?] at this; exact this
          obtain ⟨f0, f1, f2⟩ := FA.out x hb'
          clear hw hF
          simp only [Oper.wp, execOp]
          try simp only [e0e]
          go_simp
          exact hK _ x (by first | rfl | (simp only [Nat.add_zero]; done) | (congr 1; omega)) (Below.refl _ _) (fun h => by cases h)
        · simp only [wpOp, List.getElem?_toArray, List.getElem?_cons_succ, List.getElem?_cons_zero, Region.wanted, if_true]
          refine Or.inl ?_
          have e0 : av.tmps.getD 10 undef = .int .i64 (ix : Int) := hF.2.2 10 (by decide)
          have e0e : av.eval (.tmp 10) = .int .i64 (ix : Int) := e0
          have e0g : av.tmps[10]?.getD undef = .int .i64 (ix : Int) := by have := e0; simp only [Array.getD_eq_getD_getElem?] at this; exact this
          clear hw hF
          simp only [Oper.wp, execOp]
          try simp only [e0e]
          go_simp
          exact hK _ x (by first | rfl | (simp only [Nat.add_zero]; done) | (congr 1; omega)) (Below.refl _ _) (fun h => by cases h)
        · simp only [wpOp, List.getElem?_toArray, List.getElem?_cons_succ, List.getElem?_cons_zero, Region.wanted, if_true]
          refine Or.inl ?_
          have e0 : av.tmps.getD 9 undef = .int .i64 1 := hF.2.2 9 (by decide)
          have e0e : av.eval (.tmp 9) = .int .i64 1 := e0
          have e0g : av.tmps[9]?.getD undef = .int .i64 1 := by have := e0; simp only [Array.getD_eq_getD_getElem?] at this; exact this
          clear hw hF
          simp only [Oper.wp, execOp]
          try simp only [e0e]
          go_simp
          exact hK _ x (by first | rfl | (simp only [Nat.add_zero]; done) | (congr 1; omega)) (Below.refl _ _) (fun h => by cases h)
        · simp only [wpOp, List.getElem?_toArray, List.getElem?_cons_succ, List.getElem?_cons_zero, Region.wanted, if_true]
          refine Or.inl ?_
          have e0 : av.tmps.getD 2 undef = .int .i64 kid := hF.2.2 2 (by decide)
          have e0e : av.eval (.tmp 2) = .int .i64 kid := e0
          have e0g : av.tmps[2]?.getD undef = .int .i64 kid := by have := e0; simp only [Array.getD_eq_getD_getElem?] at this; exact this
          clear hw hF
          simp only [Oper.wp, execOp]
          try simp only [e0e]
          go_simp
          exact hK _ x (by first | rfl | (simp only [Nat.add_zero]; done) | (congr 1; omega)) (Below.refl _ _) (fun h => by cases h)
        · simp only [wpOp, List.getElem?_toArray, List.getElem?_cons_succ, List.getElem?_cons_zero, Region.wanted, if_true]
          refine Or.inl ?_
          have e0 : av.tmps.getD 42 undef = .int .i64 kid := (hw 13 (by kernel_rfl))
          have e0e : av.eval (.tmp 42) = .int .i64 kid := e0
          have e0g : av.tmps[42]?.getD undef = .int .i64 kid := by have := e0; simp only [Array.getD_eq_getD_getElem?] at this; exact this
          clear hw hF
          simp only [Oper.wp, execOp]
          try simp only [e0e]
          go_simp
          exact hK _ _ ⟨_, rfl, heap_alloc_new _ _⟩ ((Below.refl _ _).alloc (Nat.le_refl _) _) (fun h => by cases h)
        · simp only [wpOp, List.getElem?_toArray, List.getElem?_cons_succ, List.getElem?_cons_zero, Region.wanted, if_true]
          refine Or.inl ?_
          have e0 : av.tmps.getD 39 undef = .slice B ds.length d := (hw 10 (by kernel_rfl))
          have e0e : av.eval (.tmp 39) = .slice B ds.length d := e0
          have e0g : av.tmps[39]?.getD undef = .slice B ds.length d := by have := e0; simp only [Array.getD_eq_getD_getElem?] at this; exact this
          have e1 : av.tmps.getD 40 undef = .int .i64 (ix : Int) := (hw 11 (by kernel_rfl))
          have e1e : av.eval (.tmp 40) = .int .i64 (ix : Int) := e1
          have e1g : av.tmps[40]?.getD undef = .int .i64 (ix : Int) := by have := e1; simp only [Array.getD_eq_getD_getElem?] at this; exact this
          have e2 : av.tmps.getD 41 undef = .int .i64 1 := (hw 12 (by kernel_rfl))
          have e2e : av.eval (.tmp 41) = .int .i64 1 := e2
          have e2g : av.tmps[41]?.getD undef = .int .i64 1 := by have := e2; simp only [Array.getD_eq_getD_getElem?] at this; exact this
          obtain ⟨gg3, e3, hg3⟩ := (hw 14 (by kernel_rfl))
          have e3e : av.eval (.tmp 43) = .slice (some ⟨gg3, 0, none⟩) 1 1 := e3
          have e3g : av.tmps[43]?.getD undef = .slice (some ⟨gg3, 0, none⟩) 1 1 := by have := e3; simp only [Array.getD_eq_getD_getElem?] at this; exact this
          clear hw hF
          simp only [Oper.wp, execOp]
          try simp only [e0e, e1e, e2e, e3e]
          go_simp
          have LIx := LI.out x gg3 hb' hg3
          rw [m0, m1] at LIx
          refine LIx.mono ?_
          rintro e x' ⟨A0, c0, rfl, hr, hx, hf⟩
          exact hK _ x' ⟨A0, c0, rfl, hr, fun b_ o_ e_ => by have := hf b_ o_ e_; have := SW2.out; have := hb'.size; omega⟩ hx (fun h => by cases h)
        · simp only [wpOp, List.getElem?_toArray, List.getElem?_cons_succ, List.getElem?_cons_zero, Region.wanted, if_true]
          refine Or.inl ?_
          have e0 : av.tmps.getD 30 undef = .bool true := (hw 1 (by kernel_rfl))
          have e0e : av.eval (.tmp 30) = .bool true := e0
          have e0g : av.tmps[30]?.getD undef = .bool true := by have := e0; simp only [Array.getD_eq_getD_getElem?] at this; exact this
          obtain ⟨A1, c1, e1, hr1, hf1⟩ := (hw 8 (by kernel_rfl))
          have e1e : av.eval (.tmp 37) = .slice A1 zs.length c1 := e1
          have e1g : av.tmps[37]?.getD undef = .slice A1 zs.length c1 := by have := e1; simp only [Array.getD_eq_getD_getElem?] at this; exact this
          obtain ⟨A2, c2, e2, hr2, hf2⟩ := (hw 15 (by kernel_rfl))
          have e2e : av.eval (.tmp 44) = .slice A2 ys.length c2 := e2
          have e2g : av.tmps[44]?.getD undef = .slice A2 ys.length c2 := by have := e2; simp only [Array.getD_eq_getD_getElem?] at this; exact this
          clear hw hF
          simp only [Oper.wp, execOp]
          try simp only [e0e, e1e, e2e]
          go_simp
          exact hK _ x ⟨A1, c1, A2, c2, rfl, hr1, hr2, hf1, hf2⟩ (Below.refl _ _) (fun h => by cases h)
      · intro av x hF hb' hR _
        have e0 : av.tmps.getD 29 undef = .pointer (some ⟨w.heap.size, 0, none⟩) := hR 0 (by decide)
        have e1 : av.tmps.getD 30 undef = .bool true := hR 1 (by decide)
        have e2 : av.tmps.getD 31 undef = .pointer (some ⟨w.heap.size, 1, none⟩) := hR 2 (by decide)
        have e3 : av.tmps.getD 32 undef = .slice A ks.length c := hR 3 (by decide)
        have e4 : av.tmps.getD 33 undef = .int .i64 (ix : Int) := hR 4 (by decide)
        have e5 : av.tmps.getD 34 undef = .int .i64 1 := hR 5 (by decide)
        have e6 : av.tmps.getD 35 undef = .string ⟨key.toArray⟩ := hR 6 (by decide)
        obtain ⟨gg7, e7, hg7⟩ := hR 7 (by decide)
        replace e7 : av.tmps.getD 36 undef = .slice (some ⟨gg7, 0, none⟩) 1 1 := e7
        obtain ⟨A8, c8, e8, hr8, hf8⟩ := hR 8 (by decide)
        replace e8 : av.tmps.getD 37 undef = .slice A8 zs.length c8 := e8
        have e9 : av.tmps.getD 38 undef = .pointer (some ⟨w.heap.size, 2, none⟩) := hR 9 (by decide)
        have e10 : av.tmps.getD 39 undef = .slice B ds.length d := hR 10 (by decide)
        have e11 : av.tmps.getD 40 undef = .int .i64 (ix : Int) := hR 11 (by decide)
        have e12 : av.tmps.getD 41 undef = .int .i64 1 := hR 12 (by decide)
        have e13 : av.tmps.getD 42 undef = .int .i64 kid := hR 13 (by decide)
        obtain ⟨gg14, e14, hg14⟩ := hR 14 (by decide)
        replace e14 : av.tmps.getD 43 undef = .slice (some ⟨gg14, 0, none⟩) 1 1 := e14
        obtain ⟨A15, c15, e15, hr15, hf15⟩ := hR 15 (by decide)
        replace e15 : av.tmps.getD 44 undef = .slice A15 ys.length c15 := e15
        obtain ⟨Ax16, cx16, Bx16, dx16, e16, h1x16, h2x16, h3x16, h4x16⟩ := hR 16 (by decide)
        replace e16 : av.tmps.getD 45 undef = .agg #[.bool true, .slice Ax16 zs.length cx16, .slice Bx16 ys.length dx16] := e16
        rw [hF.fold (by kernel_rfl)]
        simp only [List.foldl_cons, List.foldl_nil, e0, e1, e2, e3, e4, e5, e6, e7, e8, e9, e10, e11, e12, e13, e14, e15, e16]
        simp only [Act.put, List.setIfInBounds_toArray, List.set_cons_zero, List.set_cons_succ]
        change wpOps _ _ _ [17] _ _
        simp only [wpOps_cons]
        clear e0 e1 e2 e3 e4 e5 e6 e7 e8 e9 e10 e11 e12 e13 e14 e15 e16 hR hF
        have Q3 := Lib.hid (row_on Q2.out hb')
        have K3 := Lib.hid (K2.out.trans (hb'.mono K2.out.size))
        have X1 := Lib.hid h1x16
        have X2 := Lib.hid h2x16
        have X3 := Lib.hid h3x16
        have X4 := Lib.hid h4x16
        clear hb' h1x16 h2x16 h3x16 h4x16
        have p0 := row_c Q3.out (i := 0) rfl
        have p1 := row_c Q3.out (i := 1) rfl
        have p2 := row_c Q3.out (i := 2) rfl
        have y0 := frozen_of_row _ _ 0 _ _ Q3.out
        have y1 := frozen_of_row _ _ 1 _ _ Q3.out
        have y2 := frozen_of_row _ _ 2 _ _ Q3.out
        try rw [wpOps_cons]
        simp only [wpOp, List.getElem?_toArray, List.getElem?_cons_succ, List.getElem?_cons_zero, Region.wanted, if_true]
        refine Or.inl ?_
        simp only [Oper.wp, execOp]
        go_simp
        try simp only [wpOps]
        go_wp2
        refine bodyPost_ret (v := .agg #[.bool true, .slice Ax16 zs.length cx16, .slice Bx16 ys.length dx16]) (by simp [results, Try.results23, go_sem, p0, p1, p2]) rfl ⟨ix, true, Ax16, cx16, Bx16, dx16, by rw [HZ.out, HY.out], ?_, ?_, HI.out.1, (fun hh => by have h := HI.out.2.1; first | exact h hh | exact h trivial), HI.out.2.2, ?_, ?_, ?_⟩
        · rw [HZ.out]; exact ((X1.out.set X3.out (by omega) _ _).set X3.out (by omega) _ _).set X3.out (by omega) _ _
        · rw [HY.out]; exact ((X2.out.set X4.out (by omega) _ _).set X4.out (by omega) _ _).set X4.out (by omega) _ _
        · exact ((K3.out.setCell (by simp) _).setCell (by simp) _).setCell (by simp) _
        · exact fun b_ o_ e_ => by have := X3.out b_ o_ e_; omega
        · exact fun b_ o_ e_ => by have := X4.out b_ o_ e_; omega
end Go.Proofs.Ytkbdcbcjbgbglaa
