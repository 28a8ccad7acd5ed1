/-
  node.Split.
-/
import Derived.Test.YtkbdcbcjbgbglaaNp
namespace Go.Proofs.Ytkbdcbcjbgbglaa
open Go.RowKit
set_option linter.unusedVariables false
set_option linter.unusedSimpArgs false
def hf (ks : List (List UInt8)) : Nat := ks.length / 2
theorem put_self (a : Act) (s : Tmp) : a.put (some s) (a.tmps.getD s undef) = a := by
  refine act_ext rfl (put_size _ _ _) (fun j => ?_)
  by_cases h : s = j
  · subst h
    rcases Nat.lt_or_ge s a.tmps.size with h1 | h1
    · exact put_same _ _ _ h1
    · simp [Act.put, h1]
  · exact put_other _ _ _ _ h
theorem set_same3 {w : World} {g : Nat} {a b c : Value} {T : TypeId} (h : w.heap[g]? = some (.cells #[a, b, c] T (0, 0))) : Below w.heap.size w (((w.setCell ⟨g, 0, none⟩ a).setCell ⟨g, 1, none⟩ b).setCell ⟨g, 2, none⟩ c) := by
  refine ⟨rfl, rfl, rfl, by simp, fun k hk => ?_⟩
  by_cases hkg : k = g
  · subst hkg
    have := row_set (i := 2) (row_set (i := 1) (row_set (i := 0) h a) b) c
    rw [this, h]
    rfl
  · rw [heap_setCell_other _ _ _ _ hkg, heap_setCell_other _ _ _ _ hkg, heap_setCell_other _ _ _ _ hkg]
def cutN (lf : Bool) (ks : List (List UInt8)) : Nat := if lf then hf ks else hf ks + 1
set_option maxHeartbeats 8000000 in
set_option maxRecDepth 100000 in
theorem split_any (lf : Bool) (A : Option Addr) (c : Nat) (ks : List (List UInt8)) (B : Option Addr) (d : Nat) (ds : List Int) (mid : List UInt8) (w : World) (h : Rl sv w A c ks) (h2 : Rl nv w B d ds) (hl : ks.length ≤ 4000000) (hs : shapedB lf ks ds = true) (h4 : 4 ≤ ks.length) (hm : ks[hf ks]? = some mid) :
    Calls Try.prog 29 #[.agg #[.bool lf, .slice A ks.length c, .slice B ds.length d]] w fun e w' => ∃ A' c' B' d' A2 c2 B2 d2, e = .returned (.tuple #[.agg #[.bool lf, .slice A' (ks.take (hf ks)).length c', .slice B' (ds.take (cutN lf ks)).length d'], .string ⟨mid.toArray⟩, .agg #[.bool lf, .slice A2 (ks.drop (cutN lf ks)).length c2, .slice B2 (ds.drop (cutN lf ks)).length d2], .bool true]) ∧ Rl sv w' A' c' (ks.take (hf ks)) ∧ Rl nv w' B' d' (ds.take (cutN lf ks)) ∧ Rl sv w' A2 c2 (ks.drop (cutN lf ks)) ∧ Rl nv w' B2 d2 (ds.drop (cutN lf ks)) ∧ Below w.heap.size w w' := by
  have hsd : ds.length = if lf then ks.length else ks.length + 1 := by unfold shapedB at hs; cases lf <;> simpa using hs
  have SH := Lib.hid (fun V => shaped_any lf A c ks B d ds V hl)
  rw [hs] at SH
  have H := Lib.hid h
  have H2 := Lib.hid h2
  have HM := Lib.hid hm
  obtain ⟨hh, hhh⟩ : ∃ x, hf ks = x := ⟨_, rfl⟩
  obtain ⟨ct, hct⟩ : ∃ x, cutN lf ks = x := ⟨_, rfl⟩
  have hv : hh = ks.length / 2 := by rw [← hhh]; rfl
  have hc : ct = if lf then hh else hh + 1 := by rw [← hct, ← hhh]; rfl
  rw [hhh] at HM
  have lc : ct ≤ ks.length ∧ ct ≤ ds.length := by rw [hc, hsd]; cases lf <;> simp <;> omega
  have ct2 : 2 ≤ ct := by rw [hc]; split <;> omega
  obtain ⟨Ka, ka, hka, rka⟩ := cut_to et_s (g := sv) A c ks hh (by omega) h.1
  obtain ⟨Da, da, hda, rda⟩ := cut_to et_i (g := nv) B d ds ct lc.2 h2.1
  obtain ⟨Kb, kb, hkb, rkb⟩ := cut_from et_s (g := sv) A c ks ct lc.1 h.1
  obtain ⟨Db, db, hdb, rdb⟩ := cut_from et_i (g := nv) B d ds ct lc.2 h2.1
  rw [hhh, hct]
  obtain ⟨ka_, hka_⟩ : ∃ z, ks.take hh = z := ⟨_, rfl⟩
  obtain ⟨da_, hda_⟩ : ∃ z, ds.take ct = z := ⟨_, rfl⟩
  obtain ⟨kb_, hkb_⟩ : ∃ z, ks.drop ct = z := ⟨_, rfl⟩
  obtain ⟨db_, hdb_⟩ : ∃ z, ds.drop ct = z := ⟨_, rfl⟩
  have L1 := Lib.hid (show ka_.length = hh by rw [← hka_, List.length_take]; omega)
  have L2 := Lib.hid (show da_.length = ct by rw [← hda_, List.length_take]; omega)
  have L3 := Lib.hid (show kb_.length = ks.length - ct by rw [← hkb_, List.length_drop])
  have L4 := Lib.hid (show db_.length = ds.length - ct by rw [← hdb_, List.length_drop])
  rw [hka_] at rka
  rw [hda_] at rda
  rw [hkb_] at rkb
  rw [hdb_] at rdb
  rw [hka_, hda_, hkb_, hdb_]
  have C1 := Lib.hid (fun V (hV : Below w.heap.size w V) => clone_s Ka ka ka_ V (rka V (h.below hV)) (by rw [L1.out]; omega))
  have C2 := Lib.hid (fun V (hV : Below w.heap.size w V) => clone_i Da da da_ V (rda V (h2.below hV)) (by rw [L2.out]; omega))
  have C3 := Lib.hid (fun V (hV : Below w.heap.size w V) => clone_s Kb kb kb_ V (rkb V (h.below hV)) (by rw [L3.out]; omega))
  have C4 := Lib.hid (fun V (hV : Below w.heap.size w V) => clone_i Db db db_ V (rdb V (h2.below hV)) (by rw [L4.out, hsd]; split <;> omega))
  rw [L1.out] at C1
  rw [L2.out] at C2
  rw [L3.out] at C3
  rw [L4.out] at C4
  rw [L1.out, L2.out, L3.out, L4.out]
  have e1 : decide (ks.length < 4) = false := decide_eq_false (by omega)
  have e2 : decide ((ks.length : Int) < 4) = false := decide_eq_false (by omega)
  have e3 : (ks.length : Int).tdiv 2 = (hh : Int) := by rw [Int.tdiv_eq_ediv_of_nonneg (by omega)]; omega
  have e4 : (ks.length : Int) / 2 = (hh : Int) := by omega
  have e5 : IntKind.i64.wrap ((hh : Int) + 1) = (hh : Int) + 1 := IntWalk.i64_in _ (by omega)
  have HCT := Lib.hid hc
  have HHL := Lib.hid (show hh < ks.length by omega)
  obtain ⟨W, hW⟩ : ∃ W : World, W = ((w.alloc (.cells #[.bool lf, .slice A ks.length c, .slice B ds.length d] 25)).alloc (.cells #[.bool false, .slice none 0 0, .slice none 0 0] 25)).alloc (.cells #[.bool false, .slice none 0 0, .slice none 0 0] 25) := ⟨_, rfl⟩
  have RA := Lib.hid (show W.heap[w.heap.size]? = some (.cells #[.bool lf, .slice A ks.length c, .slice B ds.length d] 25 (0, 0)) by rw [hW]; exact row_on (row_on (heap_alloc_new w _) (bda _ _)) (bda _ _))
  have RB := Lib.hid (show W.heap[w.heap.size + 1]? = some (.cells #[.bool false, .slice none 0 0, .slice none 0 0] 25 (0, 0)) by rw [hW]; have := row_on (heap_alloc_new (w.alloc (.cells #[.bool lf, .slice A ks.length c, .slice B ds.length d] 25)) (.cells #[.bool false, .slice none 0 0, .slice none 0 0] 25)) (bda _ (.cells #[.bool false, .slice none 0 0, .slice none 0 0] 25)); simpa using this)
  have RC := Lib.hid (show W.heap[w.heap.size + 2]? = some (.cells #[.bool false, .slice none 0 0, .slice none 0 0] 25 (0, 0)) by rw [hW]; have := heap_alloc_new ((w.alloc (.cells #[.bool lf, .slice A ks.length c, .slice B ds.length d] 25)).alloc (.cells #[.bool false, .slice none 0 0, .slice none 0 0] 25)) (.cells #[.bool false, .slice none 0 0, .slice none 0 0] 25); simpa using this)
  have BW := Lib.hid (show Below w.heap.size w W by rw [hW]; exact bon (bon (bda _ _) (bda _ _)) (bda _ _))
  have HW := Lib.hid hW
  clear hW
  clear ct2 h h2 hs hm hhh hct hv hc lc rka rda rkb rdb hka_ hda_ hkb_ hdb_ hsd
  cases lf
  · have hc : ct = hh + 1 := by simpa using HCT.out
    have hci : (ct : Int) = ((hh : Int) + 1) := by omega
    rw [hci] at hda hkb hdb
    clear hc hci HCT
    obtain ⟨bm, om, hA, _, _⟩ := H.out.cell HM.out
    subst hA
    have MM := Lib.hid (show (∀ V, Below w.heap.size w V → bm < V.heap.size) ∧ ∀ V, Below w.heap.size w V → V.cell? ⟨bm, om + hh, none⟩ = some (.string ⟨mid.toArray⟩) from ⟨fun V hV => by
        obtain ⟨b1, o1, e, hlt, _⟩ := (H.out.below hV).cell HM.out
        injection e with e; injection e with e1 e2; subst e1; exact hlt, fun V hV => by
        obtain ⟨b1, o1, e, _, hc⟩ := (H.out.below hV).cell HM.out
        injection e with e; injection e with e1 e2; subst e1 e2; exact hc⟩)
    have MM2 := Lib.hid (show bm ≠ w.heap.size + 1 by obtain ⟨b1, o1, e, hlt, _⟩ := H.out.cell HM.out; injection e with e; injection e with e1 e2; subst e1; omega)
    go_enter Try.func29, Try.ntmps29
    go_wp2_with fail
    rw [← HW.out]
    refine (SH.out _).mono ?_
    rintro e w2 ⟨rfl, hb⟩
    have RA2 := Lib.hid (row_on RA.out hb)
    have RB2 := Lib.hid (row_on RB.out hb)
    have RC2 := Lib.hid (row_on RC.out hb)
    have KK2 := Lib.hid (BW.out.trans (hb.mono BW.out.size))
    have SZ2 := Lib.hid (show w.heap.size + 3 ≤ w2.heap.size from heap_lt RC2.out)
    clear hb SH HW RA RB RC BW
    have f0 := row_c RA2.out (i := 0) rfl
    have f1 := row_c RA2.out (i := 1) rfl
    have FA2 := Lib.hid (fun x (K : Below w2.heap.size w2 x) => And.intro (row_c (row_on RA2.out K) (i := 0) rfl) (And.intro (row_c (row_on RA2.out K) (i := 1) rfl) (row_c (row_on RA2.out K) (i := 2) rfl)))
    go_upto_region 7 with (fail)
    clear f0 f1 e1 e2 e3 e4
    refine wp_operands (W := w2) rfl 13 [29, 30, 31, 32, 33, 34, 35, 36, 37, 38, 39, 40, 41] (fun i u x => match i with | 0 => u = .pointer (some ⟨w.heap.size, 0, none⟩) | 1 => u = .bool false | 2 => u = .pointer (some ⟨w.heap.size, 1, none⟩) | 3 => u = .slice (some ⟨bm, om, none⟩) ks.length c | 4 => u = .int .i64 (hh : Int) | 5 => u = .slice Ka (hh) ka | 6 => ∃ A0 q0, u = .slice A0 (hh) q0 ∧ Rl sv x A0 q0 ka_ ∧ Fr (w.heap.size + 3) A0 | 7 => u = .pointer (some ⟨w.heap.size, 2, none⟩) | 8 => u = .slice B ds.length d | 9 => u = .int .i64 ((hh : Int) + 1) | 10 => u = .slice Da (ct) da | 11 => ∃ A0 q0, u = .slice A0 (ct) q0 ∧ Rl nv x A0 q0 da_ ∧ Fr (w.heap.size + 3) A0 | 12 => ∃ A0 q0 B0 p0, u = .agg #[.bool false, .slice A0 (hh) q0, .slice B0 (ct) p0] ∧ Rl sv x A0 q0 ka_ ∧ Rl nv x B0 p0 da_ ∧ Fr (w.heap.size + 3) A0 ∧ Fr (w.heap.size + 3) B0 | _ => True) (fun _ => false)
      (by decide) rfl (by kernel_rfl) (by kernel_rfl) (by decide) (by kernel_rfl) ?_ (fun _ _ _ h => by cases h) ?_ ?_
    · intro i u x x' hi hR hb'
      have hi' : i = 0 ∨ i = 1 ∨ i = 2 ∨ i = 3 ∨ i = 4 ∨ i = 5 ∨ i = 6 ∨ i = 7 ∨ i = 8 ∨ i = 9 ∨ i = 10 ∨ i = 11 ∨ i = 12 := by omega
      rcases hi' with rfl | rfl | rfl | rfl | rfl | rfl | rfl | rfl | rfl | rfl | rfl | rfl | rfl
      · exact hR
      · exact hR
      · exact hR
      · exact hR
      · exact hR
      · exact hR
      · obtain ⟨A0, q0, e, hr, hf⟩ := hR; exact ⟨A0, q0, e, hr.below hb', hf⟩
      · exact hR
      · exact hR
      · exact hR
      · exact hR
      · obtain ⟨A0, q0, e, hr, hf⟩ := hR; exact ⟨A0, q0, e, hr.below hb', hf⟩
      · obtain ⟨A0, q0, B0, p0, e, h1, h2, h3, h4⟩ := hR; exact ⟨A0, q0, B0, p0, e, h1.below hb', h2.below hb', h3, h4⟩
    · intro i av x K hi hF hb' hw hK
      have hi' : i = 0 ∨ i = 1 ∨ i = 2 ∨ i = 3 ∨ i = 4 ∨ i = 5 ∨ i = 6 ∨ i = 7 ∨ i = 8 ∨ i = 9 ∨ i = 10 ∨ i = 11 ∨ i = 12 := by omega
      rcases hi' with rfl | rfl | rfl | rfl | rfl | rfl | rfl | rfl | rfl | rfl | rfl | rfl | rfl
      · simp only [wpOp, List.getElem?_toArray, List.getElem?_cons_zero, Region.wanted, if_true]
        refine Or.inl ?_
        have e0 : av.tmps.getD 1 undef = .pointer (some ⟨w.heap.size, 0, none⟩) := hF.2.2 1 (by decide)
        have e0e : av.eval (.tmp 1) = .pointer (some ⟨w.heap.size, 0, none⟩) := e0
        have e0g : av.tmps[1]?.getD undef = .pointer (some ⟨w.heap.size, 0, none⟩) := by have := e0; simp only [Array.getD_eq_getD_getElem?] at this; exact this
        clear hw hF
        simp only [Oper.wp, execOp]
        try simp only [e0e]
        go_simp
        exact hK _ x (by first | rfl | (simp only [Nat.add_zero]; done) | (congr 1; omega)) (Below.refl _ _) (fun h => by cases h)
      · simp only [wpOp, List.getElem?_toArray, List.getElem?_cons_succ, List.getElem?_cons_zero, Region.wanted, if_true]
        refine Or.inl ?_
        have e0 : av.tmps.getD 29 undef = .pointer (some ⟨w.heap.size, 0, none⟩) := (hw 0 (by kernel_rfl))
        have e0e : av.eval (.tmp 29) = .pointer (some ⟨w.heap.size, 0, none⟩) := e0
        have e0g : av.tmps[29]?.getD undef = .pointer (some ⟨w.heap.size, 0, none⟩) := by have := e0; simp only [Array.getD_eq_getD_getElem?] at this; exact this
        obtain ⟨f0, f1, f2⟩ := FA2.out x hb'
        clear hw hF
        simp only [Oper.wp, execOp]
        try simp only [e0e]
        go_simp
        exact hK _ x (by first | rfl | (simp only [Nat.add_zero]; done) | (congr 1; omega)) (Below.refl _ _) (fun h => by cases h)
      · simp only [wpOp, List.getElem?_toArray, List.getElem?_cons_succ, List.getElem?_cons_zero, Region.wanted, if_true]
        refine Or.inl ?_
        have e0 : av.tmps.getD 1 undef = .pointer (some ⟨w.heap.size, 0, none⟩) := hF.2.2 1 (by decide)
        have e0e : av.eval (.tmp 1) = .pointer (some ⟨w.heap.size, 0, none⟩) := e0
        have e0g : av.tmps[1]?.getD undef = .pointer (some ⟨w.heap.size, 0, none⟩) := by have := e0; simp only [Array.getD_eq_getD_getElem?] at this; exact this
        clear hw hF
        simp only [Oper.wp, execOp]
        try simp only [e0e]
        go_simp
        exact hK _ x (by first | rfl | (simp only [Nat.add_zero]; done) | (congr 1; omega)) (Below.refl _ _) (fun h => by cases h)
      · simp only [wpOp, List.getElem?_toArray, List.getElem?_cons_succ, List.getElem?_cons_zero, Region.wanted, if_true]
        refine Or.inl ?_
        have e0 : av.tmps.getD 31 undef = .pointer (some ⟨w.heap.size, 1, none⟩) := (hw 2 (by kernel_rfl))
        have e0e : av.eval (.tmp 31) = .pointer (some ⟨w.heap.size, 1, none⟩) := e0
        have e0g : av.tmps[31]?.getD undef = .pointer (some ⟨w.heap.size, 1, none⟩) := by have := e0; simp only [Array.getD_eq_getD_getElem?] at this; exact this
        obtain ⟨f0, f1, f2⟩ := FA2.out x hb'
        clear hw hF
        simp only [Oper.wp, execOp]
        try simp only [e0e]
        go_simp
        exact hK _ x (by first | rfl | (simp only [Nat.add_zero]; done) | (congr 1; omega)) (Below.refl _ _) (fun h => by cases h)
      · simp only [wpOp, List.getElem?_toArray, List.getElem?_cons_succ, List.getElem?_cons_zero, Region.wanted, if_true]
        refine Or.inl ?_
        have e0 : av.tmps.getD 6 undef = .int .i64 (hh : Int) := hF.2.2 6 (by decide)
        have e0e : av.eval (.tmp 6) = .int .i64 (hh : Int) := e0
        have e0g : av.tmps[6]?.getD undef = .int .i64 (hh : Int) := by have := e0; simp only [Array.getD_eq_getD_getElem?] at this; exact this
        clear hw hF
        simp only [Oper.wp, execOp]
        try simp only [e0e]
        go_simp
        exact hK _ x (by first | rfl | (simp only [Nat.add_zero]; done) | (congr 1; omega)) (Below.refl _ _) (fun h => by cases h)
      · simp only [wpOp, List.getElem?_toArray, List.getElem?_cons_succ, List.getElem?_cons_zero, Region.wanted, if_true]
        refine Or.inl ?_
        have e0 : av.tmps.getD 32 undef = .slice (some ⟨bm, om, none⟩) ks.length c := (hw 3 (by kernel_rfl))
        have e0e : av.eval (.tmp 32) = .slice (some ⟨bm, om, none⟩) ks.length c := e0
        have e0g : av.tmps[32]?.getD undef = .slice (some ⟨bm, om, none⟩) ks.length c := by have := e0; simp only [Array.getD_eq_getD_getElem?] at this; exact this
        have e1 : av.tmps.getD 33 undef = .int .i64 (hh : Int) := (hw 4 (by kernel_rfl))
        have e1e : av.eval (.tmp 33) = .int .i64 (hh : Int) := e1
        have e1g : av.tmps[33]?.getD undef = .int .i64 (hh : Int) := by have := e1; simp only [Array.getD_eq_getD_getElem?] at this; exact this
        clear hw hF
        simp only [Oper.wp, execOp]
        try simp only [e0e, e1e]
        go_simp
        exact hK _ x (by first | rfl | (simp only [Nat.add_zero]; done) | (congr 1; omega)) (Below.refl _ _) (fun h => by cases h)
      · simp only [wpOp, List.getElem?_toArray, List.getElem?_cons_succ, List.getElem?_cons_zero, Region.wanted, if_true]
        refine Or.inl ?_
        have e0 : av.tmps.getD 34 undef = .slice Ka (hh) ka := (hw 5 (by kernel_rfl))
        have e0e : av.eval (.tmp 34) = .slice Ka (hh) ka := e0
        have e0g : av.tmps[34]?.getD undef = .slice Ka (hh) ka := by have := e0; simp only [Array.getD_eq_getD_getElem?] at this; exact this
        clear hw hF
        simp only [Oper.wp, execOp]
        try simp only [e0e]
        go_simp
        refine (C1.out x (KK2.out.trans (hb'.mono KK2.out.size))).mono ?_
        rintro e x' ⟨A0, q0, rfl, hr, hx, hf⟩
        exact hK _ x' ⟨A0, q0, rfl, hr, fun b_ o_ e_ => by have := hf b_ o_ e_; have := SZ2.out; have := hb'.size; omega⟩ hx (fun h => by cases h)
      · simp only [wpOp, List.getElem?_toArray, List.getElem?_cons_succ, List.getElem?_cons_zero, Region.wanted, if_true]
        refine Or.inl ?_
        have e0 : av.tmps.getD 1 undef = .pointer (some ⟨w.heap.size, 0, none⟩) := hF.2.2 1 (by decide)
        have e0e : av.eval (.tmp 1) = .pointer (some ⟨w.heap.size, 0, none⟩) := e0
        have e0g : av.tmps[1]?.getD undef = .pointer (some ⟨w.heap.size, 0, none⟩) := by have := e0; simp only [Array.getD_eq_getD_getElem?] at this; exact this
        clear hw hF
        simp only [Oper.wp, execOp]
        try simp only [e0e]
        go_simp
        exact hK _ x (by first | rfl | (simp only [Nat.add_zero]; done) | (congr 1; omega)) (Below.refl _ _) (fun h => by cases h)
      · simp only [wpOp, List.getElem?_toArray, List.getElem?_cons_succ, List.getElem?_cons_zero, Region.wanted, if_true]
        refine Or.inl ?_
        have e0 : av.tmps.getD 36 undef = .pointer (some ⟨w.heap.size, 2, none⟩) := (hw 7 (by kernel_rfl))
        have e0e : av.eval (.tmp 36) = .pointer (some ⟨w.heap.size, 2, none⟩) := e0
        have e0g : av.tmps[36]?.getD undef = .pointer (some ⟨w.heap.size, 2, none⟩) := by have := e0; simp only [Array.getD_eq_getD_getElem?] at this; exact this
        obtain ⟨f0, f1, f2⟩ := FA2.out x hb'
        clear hw hF
        simp only [Oper.wp, execOp]
        try simp only [e0e]
        go_simp
        exact hK _ x (by first | rfl | (simp only [Nat.add_zero]; done) | (congr 1; omega)) (Below.refl _ _) (fun h => by cases h)
      · simp only [wpOp, List.getElem?_toArray, List.getElem?_cons_succ, List.getElem?_cons_zero, Region.wanted, if_true]
        refine Or.inl ?_
        have e0 : av.tmps.getD 7 undef = .int .i64 ((hh : Int) + 1) := hF.2.2 7 (by decide)
        have e0e : av.eval (.tmp 7) = .int .i64 ((hh : Int) + 1) := e0
        have e0g : av.tmps[7]?.getD undef = .int .i64 ((hh : Int) + 1) := by have := e0; simp only [Array.getD_eq_getD_getElem?] at this; exact this
        clear hw hF
        simp only [Oper.wp, execOp]
        try simp only [e0e]
        go_simp
        exact hK _ x (by first | rfl | (simp only [Nat.add_zero]; done) | (congr 1; omega)) (Below.refl _ _) (fun h => by cases h)
      · simp only [wpOp, List.getElem?_toArray, List.getElem?_cons_succ, List.getElem?_cons_zero, Region.wanted, if_true]
        refine Or.inl ?_
        have e0 : av.tmps.getD 37 undef = .slice B ds.length d := (hw 8 (by kernel_rfl))
        have e0e : av.eval (.tmp 37) = .slice B ds.length d := e0
        have e0g : av.tmps[37]?.getD undef = .slice B ds.length d := by have := e0; simp only [Array.getD_eq_getD_getElem?] at this; exact this
        have e1 : av.tmps.getD 38 undef = .int .i64 ((hh : Int) + 1) := (hw 9 (by kernel_rfl))
        have e1e : av.eval (.tmp 38) = .int .i64 ((hh : Int) + 1) := e1
        have e1g : av.tmps[38]?.getD undef = .int .i64 ((hh : Int) + 1) := by have := e1; simp only [Array.getD_eq_getD_getElem?] at this; exact this
        clear hw hF
        simp only [Oper.wp, execOp]
        try simp only [e0e, e1e]
        go_simp
        exact hK _ x (by first | rfl | (simp only [Nat.add_zero]; done) | (congr 1; omega)) (Below.refl _ _) (fun h => by cases h)
      · simp only [wpOp, List.getElem?_toArray, List.getElem?_cons_succ, List.getElem?_cons_zero, Region.wanted, if_true]
        refine Or.inl ?_
        have e0 : av.tmps.getD 39 undef = .slice Da (ct) da := (hw 10 (by kernel_rfl))
        have e0e : av.eval (.tmp 39) = .slice Da (ct) da := e0
        have e0g : av.tmps[39]?.getD undef = .slice Da (ct) da := by have := e0; simp only [Array.getD_eq_getD_getElem?] at this; exact this
        clear hw hF
        simp only [Oper.wp, execOp]
        try simp only [e0e]
        go_simp
        refine (C2.out x (KK2.out.trans (hb'.mono KK2.out.size))).mono ?_
        rintro e x' ⟨A0, q0, rfl, hr, hx, hf⟩
        exact hK _ x' ⟨A0, q0, rfl, hr, fun b_ o_ e_ => by have := hf b_ o_ e_; have := SZ2.out; have := hb'.size; omega⟩ hx (fun h => by cases h)
      · simp only [wpOp, List.getElem?_toArray, List.getElem?_cons_succ, List.getElem?_cons_zero, Region.wanted, if_true]
        refine Or.inl ?_
        have e0 : av.tmps.getD 30 undef = .bool false := (hw 1 (by kernel_rfl))
        have e0e : av.eval (.tmp 30) = .bool false := e0
        have e0g : av.tmps[30]?.getD undef = .bool false := by have := e0; simp only [Array.getD_eq_getD_getElem?] at this; exact this
        obtain ⟨A01, q01, e1, hr1, hf1⟩ := (hw 6 (by kernel_rfl))
        have e1e : av.eval (.tmp 35) = .slice A01 (hh) q01 := e1
        have e1g : av.tmps[35]?.getD undef = .slice A01 (hh) q01 := by have := e1; simp only [Array.getD_eq_getD_getElem?] at this; exact this
        obtain ⟨A02, q02, e2, hr2, hf2⟩ := (hw 11 (by kernel_rfl))
        have e2e : av.eval (.tmp 40) = .slice A02 (ct) q02 := e2
        have e2g : av.tmps[40]?.getD undef = .slice A02 (ct) q02 := by have := e2; simp only [Array.getD_eq_getD_getElem?] at this; exact this
        clear hw hF
        simp only [Oper.wp, execOp]
        try simp only [e0e, e1e, e2e]
        go_simp
        exact hK _ x ⟨A01, q01, A02, q02, rfl, hr1, hr2, hf1, hf2⟩ (Below.refl _ _) (fun h => by cases h)
    · intro av x hF hb' hR _
      have e0 : av.tmps.getD 29 undef = .pointer (some ⟨w.heap.size, 0, none⟩) := hR 0 (by decide)
      have e1 : av.tmps.getD 30 undef = .bool false := hR 1 (by decide)
      have e2 : av.tmps.getD 31 undef = .pointer (some ⟨w.heap.size, 1, none⟩) := hR 2 (by decide)
      have e3 : av.tmps.getD 32 undef = .slice (some ⟨bm, om, none⟩) ks.length c := hR 3 (by decide)
      have e4 : av.tmps.getD 33 undef = .int .i64 (hh : Int) := hR 4 (by decide)
      have e5 : av.tmps.getD 34 undef = .slice Ka (hh) ka := hR 5 (by decide)
      obtain ⟨A06, q06, e6, hr6, hf6⟩ := hR 6 (by decide)
      replace e6 : av.tmps.getD 35 undef = .slice A06 (hh) q06 := e6
      have e7 : av.tmps.getD 36 undef = .pointer (some ⟨w.heap.size, 2, none⟩) := hR 7 (by decide)
      have e8 : av.tmps.getD 37 undef = .slice B ds.length d := hR 8 (by decide)
      have e9 : av.tmps.getD 38 undef = .int .i64 ((hh : Int) + 1) := hR 9 (by decide)
      have e10 : av.tmps.getD 39 undef = .slice Da (ct) da := hR 10 (by decide)
      obtain ⟨A011, q011, e11, hr11, hf11⟩ := hR 11 (by decide)
      replace e11 : av.tmps.getD 40 undef = .slice A011 (ct) q011 := e11
      obtain ⟨Ax12, qx12, Bx12, px12, e12, h1x12, h2x12, h3x12, h4x12⟩ := hR 12 (by decide)
      replace e12 : av.tmps.getD 41 undef = .agg #[.bool false, .slice Ax12 (hh) qx12, .slice Bx12 (ct) px12] := e12
      rw [hF.fold (by kernel_rfl)]
      simp only [List.foldl_cons, List.foldl_nil, e0, e1, e2, e3, e4, e5, e6, e7, e8, e9, e10, e11, e12]
      simp only [Act.put, List.setIfInBounds_toArray, List.set_cons_zero, List.set_cons_succ]
      change wpOps _ _ _ [13] _ _
      simp only [wpOps_cons]
      clear e0 e1 e2 e3 e4 e5 e6 e7 e8 e9 e10 e11 e12 hR hF
      have NB := Lib.hid (row_on RB2.out hb')
      have RA2n := Lib.hid (row_on RA2.out hb')
      have RC2n := Lib.hid (row_on RC2.out hb')
      have KB := Lib.hid (KK2.out.trans (hb'.mono KK2.out.size))
      have SB := Lib.hid (Nat.le_trans SZ2.out hb'.size)
      have X1 := Lib.hid (And.intro h1x12 h2x12)
      have X3 := Lib.hid (And.intro h3x12 h4x12)
      clear hb' h1x12 h2x12 h3x12 h4x12 hr6 hf6 hr11 hf11
      have p0 := row_c NB.out (i := 0) rfl
      have p1 := row_c NB.out (i := 1) rfl
      have p2 := row_c NB.out (i := 2) rfl
      have y0 := frozen_of_row _ _ 0 _ _ NB.out
      have y1 := frozen_of_row _ _ 1 _ _ NB.out
      have y2 := frozen_of_row _ _ 2 _ _ NB.out
      try rw [wpOps_cons]
      simp only [wpOp, List.getElem?_toArray, List.getElem?_cons_succ, List.getElem?_cons_zero, Region.wanted, if_true]
      refine Or.inl ?_
      simp only [Oper.wp, execOp]
      go_simp
      try simp only [wpOps]
      obtain ⟨t, hU⟩ : ∃ U : World, U = ((x.setCell ⟨w.heap.size + 1, 0, none⟩ (.bool false)).setCell ⟨w.heap.size + 1, 1, none⟩ (.slice Ax12 (hh) qx12)).setCell ⟨w.heap.size + 1, 2, none⟩ (.slice Bx12 (ct) px12) := ⟨_, rfl⟩
      have RBt := Lib.hid (show t.heap[w.heap.size + 1]? = some (.cells #[.bool false, .slice Ax12 (hh) qx12, .slice Bx12 (ct) px12] 25 (0, 0)) by rw [hU]; have := row_set (i := 2) (row_set (i := 1) (row_set (i := 0) NB.out (.bool false)) (.slice Ax12 (hh) qx12)) (.slice Bx12 (ct) px12); simpa using this)
      have RAt := Lib.hid (show t.heap[_]? = some _ by rw [hU]; exact row_far (row_far (row_far RA2n.out (by omega) _) (by omega) _) (by omega) _)
      have RCt := Lib.hid (show t.heap[_]? = some _ by rw [hU]; exact row_far (row_far (row_far RC2n.out (by omega) _) (by omega) _) (by omega) _)
      have Vt := Lib.hid (show Rl sv t Ax12 qx12 ka_ ∧ Rl nv t Bx12 px12 da_ by rw [hU]; exact ⟨((X1.out.1.set X3.out.1 (by omega) _ _).set X3.out.1 (by omega) _ _).set X3.out.1 (by omega) _ _, ((X1.out.2.set X3.out.2 (by omega) _ _).set X3.out.2 (by omega) _ _).set X3.out.2 (by omega) _ _⟩)
      have Ft := X3
      have KKt := Lib.hid (show Below w.heap.size w t by rw [hU]; exact ((KB.out.setCell (by first | (simp; done) | (simp; omega)) _).setCell (by first | (simp; done) | (simp; omega)) _).setCell (by first | (simp; done) | (simp; omega)) _)
      have SZt := Lib.hid (show w.heap.size + 3 ≤ t.heap.size by rw [hU]; simpa using SB.out)
      obtain ⟨At, hAt⟩ : ∃ z, z = Ax12 := ⟨_, rfl⟩
      obtain ⟨qt, hqt⟩ : ∃ z, z = qx12 := ⟨_, rfl⟩
      obtain ⟨Bt, hBt⟩ : ∃ z, z = Bx12 := ⟨_, rfl⟩
      obtain ⟨pt, hpt⟩ : ∃ z, z = px12 := ⟨_, rfl⟩
      rw [← hAt, ← hqt, ← hBt, ← hpt] at RBt Vt hU ⊢
      rw [← hAt, ← hBt] at Ft
      rw [← hU]
      clear hU hAt hqt hBt hpt p0 p1 p2 y0 y1 y2 NB KB SB X1
      have FAt := Lib.hid (fun x (K : Below t.heap.size t x) => And.intro (row_c (row_on RAt.out K) (i := 0) rfl) (And.intro (row_c (row_on RAt.out K) (i := 1) rfl) (row_c (row_on RAt.out K) (i := 2) rfl)))
      go_upto_region 8 with (fail)
      refine wp_operands (W := t) rfl 13 [42, 43, 44, 45, 46, 47, 48, 49, 50, 51, 52, 53, 54] (fun i u x => match i with | 0 => u = .pointer (some ⟨w.heap.size, 0, none⟩) | 1 => u = .bool false | 2 => u = .pointer (some ⟨w.heap.size, 1, none⟩) | 3 => u = .slice (some ⟨bm, om, none⟩) ks.length c | 4 => u = .int .i64 ((hh : Int) + 1) | 5 => u = .slice Kb (ks.length - ct) kb | 6 => ∃ A0 q0, u = .slice A0 (ks.length - ct) q0 ∧ Rl sv x A0 q0 kb_ ∧ Fr (w.heap.size + 3) A0 | 7 => u = .pointer (some ⟨w.heap.size, 2, none⟩) | 8 => u = .slice B ds.length d | 9 => u = .int .i64 ((hh : Int) + 1) | 10 => u = .slice Db (ds.length - ct) db | 11 => ∃ A0 q0, u = .slice A0 (ds.length - ct) q0 ∧ Rl nv x A0 q0 db_ ∧ Fr (w.heap.size + 3) A0 | 12 => ∃ A0 q0 B0 p0, u = .agg #[.bool false, .slice A0 (ks.length - ct) q0, .slice B0 (ds.length - ct) p0] ∧ Rl sv x A0 q0 kb_ ∧ Rl nv x B0 p0 db_ ∧ Fr (w.heap.size + 3) A0 ∧ Fr (w.heap.size + 3) B0 | _ => True) (fun _ => false)
        (by decide) rfl (by kernel_rfl) (by kernel_rfl) (by decide) (by kernel_rfl) ?_ (fun _ _ _ h => by cases h) ?_ ?_
      · intro i u x x' hi hR hb'
        have hi' : i = 0 ∨ i = 1 ∨ i = 2 ∨ i = 3 ∨ i = 4 ∨ i = 5 ∨ i = 6 ∨ i = 7 ∨ i = 8 ∨ i = 9 ∨ i = 10 ∨ i = 11 ∨ i = 12 := by omega
        rcases hi' with rfl | rfl | rfl | rfl | rfl | rfl | rfl | rfl | rfl | rfl | rfl | rfl | rfl
        · exact hR
        · exact hR
        · exact hR
        · exact hR
        · exact hR
        · exact hR
        · obtain ⟨A0, q0, e, hr, hf⟩ := hR; exact ⟨A0, q0, e, hr.below hb', hf⟩
        · exact hR
        · exact hR
        · exact hR
        · exact hR
        · obtain ⟨A0, q0, e, hr, hf⟩ := hR; exact ⟨A0, q0, e, hr.below hb', hf⟩
        · obtain ⟨A0, q0, B0, p0, e, h1, h2, h3, h4⟩ := hR; exact ⟨A0, q0, B0, p0, e, h1.below hb', h2.below hb', h3, h4⟩
      · intro i av x K hi hF hb' hw hK
        have hi' : i = 0 ∨ i = 1 ∨ i = 2 ∨ i = 3 ∨ i = 4 ∨ i = 5 ∨ i = 6 ∨ i = 7 ∨ i = 8 ∨ i = 9 ∨ i = 10 ∨ i = 11 ∨ i = 12 := by omega
        rcases hi' with rfl | rfl | rfl | rfl | rfl | rfl | rfl | rfl | rfl | rfl | rfl | rfl | rfl
        · simp only [wpOp, List.getElem?_toArray, List.getElem?_cons_zero, Region.wanted, if_true]
          refine Or.inl ?_
          have e0 : av.tmps.getD 1 undef = .pointer (some ⟨w.heap.size, 0, none⟩) := hF.2.2 1 (by decide)
          have e0e : av.eval (.tmp 1) = .pointer (some ⟨w.heap.size, 0, none⟩) := e0
          have e0g : av.tmps[1]?.getD undef = .pointer (some ⟨w.heap.size, 0, none⟩) := by have := e0; simp only [Array.getD_eq_getD_getElem?] at this; exact this
          clear hw hF
          simp only [Oper.wp, execOp]
          try simp only [e0e]
          go_simp
          exact hK _ x (by first | rfl | (simp only [Nat.add_zero]; done) | (congr 1; omega)) (Below.refl _ _) (fun h => by cases h)
        · simp only [wpOp, List.getElem?_toArray, List.getElem?_cons_succ, List.getElem?_cons_zero, Region.wanted, if_true]
          refine Or.inl ?_
          have e0 : av.tmps.getD 42 undef = .pointer (some ⟨w.heap.size, 0, none⟩) := (hw 0 (by kernel_rfl))
          have e0e : av.eval (.tmp 42) = .pointer (some ⟨w.heap.size, 0, none⟩) := e0
          have e0g : av.tmps[42]?.getD undef = .pointer (some ⟨w.heap.size, 0, none⟩) := by have := e0; simp only [Array.getD_eq_getD_getElem?] at this; exact this
          obtain ⟨f0, f1, f2⟩ := FAt.out x hb'
          clear hw hF
          simp only [Oper.wp, execOp]
          try simp only [e0e]
          go_simp
          exact hK _ x (by first | rfl | (simp only [Nat.add_zero]; done) | (congr 1; omega)) (Below.refl _ _) (fun h => by cases h)
        · simp only [wpOp, List.getElem?_toArray, List.getElem?_cons_succ, List.getElem?_cons_zero, Region.wanted, if_true]
          refine Or.inl ?_
          have e0 : av.tmps.getD 1 undef = .pointer (some ⟨w.heap.size, 0, none⟩) := hF.2.2 1 (by decide)
          have e0e : av.eval (.tmp 1) = .pointer (some ⟨w.heap.size, 0, none⟩) := e0
          have e0g : av.tmps[1]?.getD undef = .pointer (some ⟨w.heap.size, 0, none⟩) := by have := e0; simp only [Array.getD_eq_getD_getElem?] at this; exact this
          clear hw hF
          simp only [Oper.wp, execOp]
          try simp only [e0e]
          go_simp
          exact hK _ x (by first | rfl | (simp only [Nat.add_zero]; done) | (congr 1; omega)) (Below.refl _ _) (fun h => by cases h)
        · simp only [wpOp, List.getElem?_toArray, List.getElem?_cons_succ, List.getElem?_cons_zero, Region.wanted, if_true]
          refine Or.inl ?_
          have e0 : av.tmps.getD 44 undef = .pointer (some ⟨w.heap.size, 1, none⟩) := (hw 2 (by kernel_rfl))
          have e0e : av.eval (.tmp 44) = .pointer (some ⟨w.heap.size, 1, none⟩) := e0
          have e0g : av.tmps[44]?.getD undef = .pointer (some ⟨w.heap.size, 1, none⟩) := by have := e0; simp only [Array.getD_eq_getD_getElem?] at this; exact this
          obtain ⟨f0, f1, f2⟩ := FAt.out x hb'
          clear hw hF
          simp only [Oper.wp, execOp]
          try simp only [e0e]
          go_simp
          exact hK _ x (by first | rfl | (simp only [Nat.add_zero]; done) | (congr 1; omega)) (Below.refl _ _) (fun h => by cases h)
        · simp only [wpOp, List.getElem?_toArray, List.getElem?_cons_succ, List.getElem?_cons_zero, Region.wanted, if_true]
          refine Or.inl ?_
          have e0 : av.tmps.getD 7 undef = .int .i64 ((hh : Int) + 1) := hF.2.2 7 (by decide)
          have e0e : av.eval (.tmp 7) = .int .i64 ((hh : Int) + 1) := e0
          have e0g : av.tmps[7]?.getD undef = .int .i64 ((hh : Int) + 1) := by have := e0; simp only [Array.getD_eq_getD_getElem?] at this; exact this
          clear hw hF
          simp only [Oper.wp, execOp]
          try simp only [e0e]
          go_simp
          exact hK _ x (by first | rfl | (simp only [Nat.add_zero]; done) | (congr 1; omega)) (Below.refl _ _) (fun h => by cases h)
        · simp only [wpOp, List.getElem?_toArray, List.getElem?_cons_succ, List.getElem?_cons_zero, Region.wanted, if_true]
          refine Or.inl ?_
          have e0 : av.tmps.getD 45 undef = .slice (some ⟨bm, om, none⟩) ks.length c := (hw 3 (by kernel_rfl))
          have e0e : av.eval (.tmp 45) = .slice (some ⟨bm, om, none⟩) ks.length c := e0
          have e0g : av.tmps[45]?.getD undef = .slice (some ⟨bm, om, none⟩) ks.length c := by have := e0; simp only [Array.getD_eq_getD_getElem?] at this; exact this
          have e1 : av.tmps.getD 46 undef = .int .i64 ((hh : Int) + 1) := (hw 4 (by kernel_rfl))
          have e1e : av.eval (.tmp 46) = .int .i64 ((hh : Int) + 1) := e1
          have e1g : av.tmps[46]?.getD undef = .int .i64 ((hh : Int) + 1) := by have := e1; simp only [Array.getD_eq_getD_getElem?] at this; exact this
          clear hw hF
          simp only [Oper.wp, execOp]
          try simp only [e0e, e1e]
          go_simp
          exact hK _ x (by first | rfl | (simp only [Nat.add_zero]; done) | (congr 1; omega)) (Below.refl _ _) (fun h => by cases h)
        · simp only [wpOp, List.getElem?_toArray, List.getElem?_cons_succ, List.getElem?_cons_zero, Region.wanted, if_true]
          refine Or.inl ?_
          have e0 : av.tmps.getD 47 undef = .slice Kb (ks.length - ct) kb := (hw 5 (by kernel_rfl))
          have e0e : av.eval (.tmp 47) = .slice Kb (ks.length - ct) kb := e0
          have e0g : av.tmps[47]?.getD undef = .slice Kb (ks.length - ct) kb := by have := e0; simp only [Array.getD_eq_getD_getElem?] at this; exact this
          clear hw hF
          simp only [Oper.wp, execOp]
          try simp only [e0e]
          go_simp
          refine (C3.out x (KKt.out.trans (hb'.mono KKt.out.size))).mono ?_
          rintro e x' ⟨A0, q0, rfl, hr, hx, hf⟩
          exact hK _ x' ⟨A0, q0, rfl, hr, fun b_ o_ e_ => by have := hf b_ o_ e_; have := SZt.out; have := hb'.size; omega⟩ hx (fun h => by cases h)
        · simp only [wpOp, List.getElem?_toArray, List.getElem?_cons_succ, List.getElem?_cons_zero, Region.wanted, if_true]
          refine Or.inl ?_
          have e0 : av.tmps.getD 1 undef = .pointer (some ⟨w.heap.size, 0, none⟩) := hF.2.2 1 (by decide)
          have e0e : av.eval (.tmp 1) = .pointer (some ⟨w.heap.size, 0, none⟩) := e0
          have e0g : av.tmps[1]?.getD undef = .pointer (some ⟨w.heap.size, 0, none⟩) := by have := e0; simp only [Array.getD_eq_getD_getElem?] at this; exact this
          clear hw hF
          simp only [Oper.wp, execOp]
          try simp only [e0e]
          go_simp
          exact hK _ x (by first | rfl | (simp only [Nat.add_zero]; done) | (congr 1; omega)) (Below.refl _ _) (fun h => by cases h)
        · simp only [wpOp, List.getElem?_toArray, List.getElem?_cons_succ, List.getElem?_cons_zero, Region.wanted, if_true]
          refine Or.inl ?_
          have e0 : av.tmps.getD 49 undef = .pointer (some ⟨w.heap.size, 2, none⟩) := (hw 7 (by kernel_rfl))
          have e0e : av.eval (.tmp 49) = .pointer (some ⟨w.heap.size, 2, none⟩) := e0
          have e0g : av.tmps[49]?.getD undef = .pointer (some ⟨w.heap.size, 2, none⟩) := by have := e0; simp only [Array.getD_eq_getD_getElem?] at this; exact this
          obtain ⟨f0, f1, f2⟩ := FAt.out x hb'
          clear hw hF
          simp only [Oper.wp, execOp]
          try simp only [e0e]
          go_simp
          exact hK _ x (by first | rfl | (simp only [Nat.add_zero]; done) | (congr 1; omega)) (Below.refl _ _) (fun h => by cases h)
        · simp only [wpOp, List.getElem?_toArray, List.getElem?_cons_succ, List.getElem?_cons_zero, Region.wanted, if_true]
          refine Or.inl ?_
          have e0 : av.tmps.getD 7 undef = .int .i64 ((hh : Int) + 1) := hF.2.2 7 (by decide)
          have e0e : av.eval (.tmp 7) = .int .i64 ((hh : Int) + 1) := e0
          have e0g : av.tmps[7]?.getD undef = .int .i64 ((hh : Int) + 1) := by have := e0; simp only [Array.getD_eq_getD_getElem?] at this; exact this
          clear hw hF
          simp only [Oper.wp, execOp]
          try simp only [e0e]
          go_simp
          exact hK _ x (by first | rfl | (simp only [Nat.add_zero]; done) | (congr 1; omega)) (Below.refl _ _) (fun h => by cases h)
        · simp only [wpOp, List.getElem?_toArray, List.getElem?_cons_succ, List.getElem?_cons_zero, Region.wanted, if_true]
          refine Or.inl ?_
          have e0 : av.tmps.getD 50 undef = .slice B ds.length d := (hw 8 (by kernel_rfl))
          have e0e : av.eval (.tmp 50) = .slice B ds.length d := e0
          have e0g : av.tmps[50]?.getD undef = .slice B ds.length d := by have := e0; simp only [Array.getD_eq_getD_getElem?] at this; exact this
          have e1 : av.tmps.getD 51 undef = .int .i64 ((hh : Int) + 1) := (hw 9 (by kernel_rfl))
          have e1e : av.eval (.tmp 51) = .int .i64 ((hh : Int) + 1) := e1
          have e1g : av.tmps[51]?.getD undef = .int .i64 ((hh : Int) + 1) := by have := e1; simp only [Array.getD_eq_getD_getElem?] at this; exact this
          clear hw hF
          simp only [Oper.wp, execOp]
          try simp only [e0e, e1e]
          go_simp
          exact hK _ x (by first | rfl | (simp only [Nat.add_zero]; done) | (congr 1; omega)) (Below.refl _ _) (fun h => by cases h)
        · simp only [wpOp, List.getElem?_toArray, List.getElem?_cons_succ, List.getElem?_cons_zero, Region.wanted, if_true]
          refine Or.inl ?_
          have e0 : av.tmps.getD 52 undef = .slice Db (ds.length - ct) db := (hw 10 (by kernel_rfl))
          have e0e : av.eval (.tmp 52) = .slice Db (ds.length - ct) db := e0
          have e0g : av.tmps[52]?.getD undef = .slice Db (ds.length - ct) db := by have := e0; simp only [Array.getD_eq_getD_getElem?] at this; exact this
          clear hw hF
          simp only [Oper.wp, execOp]
          try simp only [e0e]
          go_simp
          refine (C4.out x (KKt.out.trans (hb'.mono KKt.out.size))).mono ?_
          rintro e x' ⟨A0, q0, rfl, hr, hx, hf⟩
          exact hK _ x' ⟨A0, q0, rfl, hr, fun b_ o_ e_ => by have := hf b_ o_ e_; have := SZt.out; have := hb'.size; omega⟩ hx (fun h => by cases h)
        · simp only [wpOp, List.getElem?_toArray, List.getElem?_cons_succ, List.getElem?_cons_zero, Region.wanted, if_true]
          refine Or.inl ?_
          have e0 : av.tmps.getD 43 undef = .bool false := (hw 1 (by kernel_rfl))
          have e0e : av.eval (.tmp 43) = .bool false := e0
          have e0g : av.tmps[43]?.getD undef = .bool false := by have := e0; simp only [Array.getD_eq_getD_getElem?] at this; exact this
          obtain ⟨A01, q01, e1, hr1, hf1⟩ := (hw 6 (by kernel_rfl))
          have e1e : av.eval (.tmp 48) = .slice A01 (ks.length - ct) q01 := e1
          have e1g : av.tmps[48]?.getD undef = .slice A01 (ks.length - ct) q01 := by have := e1; simp only [Array.getD_eq_getD_getElem?] at this; exact this
          obtain ⟨A02, q02, e2, hr2, hf2⟩ := (hw 11 (by kernel_rfl))
          have e2e : av.eval (.tmp 53) = .slice A02 (ds.length - ct) q02 := e2
          have e2g : av.tmps[53]?.getD undef = .slice A02 (ds.length - ct) q02 := by have := e2; simp only [Array.getD_eq_getD_getElem?] at this; exact this
          clear hw hF
          simp only [Oper.wp, execOp]
          try simp only [e0e, e1e, e2e]
          go_simp
          exact hK _ x ⟨A01, q01, A02, q02, rfl, hr1, hr2, hf1, hf2⟩ (Below.refl _ _) (fun h => by cases h)
      · intro av x hF hb' hR _
        have e0 : av.tmps.getD 42 undef = .pointer (some ⟨w.heap.size, 0, none⟩) := hR 0 (by decide)
        have e1 : av.tmps.getD 43 undef = .bool false := hR 1 (by decide)
        have e2 : av.tmps.getD 44 undef = .pointer (some ⟨w.heap.size, 1, none⟩) := hR 2 (by decide)
        have e3 : av.tmps.getD 45 undef = .slice (some ⟨bm, om, none⟩) ks.length c := hR 3 (by decide)
        have e4 : av.tmps.getD 46 undef = .int .i64 ((hh : Int) + 1) := hR 4 (by decide)
        have e5 : av.tmps.getD 47 undef = .slice Kb (ks.length - ct) kb := hR 5 (by decide)
        obtain ⟨A06, q06, e6, hr6, hf6⟩ := hR 6 (by decide)
        replace e6 : av.tmps.getD 48 undef = .slice A06 (ks.length - ct) q06 := e6
        have e7 : av.tmps.getD 49 undef = .pointer (some ⟨w.heap.size, 2, none⟩) := hR 7 (by decide)
        have e8 : av.tmps.getD 50 undef = .slice B ds.length d := hR 8 (by decide)
        have e9 : av.tmps.getD 51 undef = .int .i64 ((hh : Int) + 1) := hR 9 (by decide)
        have e10 : av.tmps.getD 52 undef = .slice Db (ds.length - ct) db := hR 10 (by decide)
        obtain ⟨A011, q011, e11, hr11, hf11⟩ := hR 11 (by decide)
        replace e11 : av.tmps.getD 53 undef = .slice A011 (ds.length - ct) q011 := e11
        obtain ⟨Ax12, qx12, Bx12, px12, e12, h1x12, h2x12, h3x12, h4x12⟩ := hR 12 (by decide)
        replace e12 : av.tmps.getD 54 undef = .agg #[.bool false, .slice Ax12 (ks.length - ct) qx12, .slice Bx12 (ds.length - ct) px12] := e12
        rw [hF.fold (by kernel_rfl)]
        simp only [List.foldl_cons, List.foldl_nil, e0, e1, e2, e3, e4, e5, e6, e7, e8, e9, e10, e11, e12]
        simp only [Act.put, List.setIfInBounds_toArray, List.set_cons_zero, List.set_cons_succ]
        change wpOps _ _ _ [13] _ _
        simp only [wpOps_cons]
        clear e0 e1 e2 e3 e4 e5 e6 e7 e8 e9 e10 e11 e12 hR hF
        have NB := Lib.hid (row_on RCt.out hb')
        have RAtn := Lib.hid (row_on RAt.out hb')
        have RBtn := Lib.hid (row_on RBt.out hb')
        have Vtn := Lib.hid (And.intro (Vt.out.1.below hb') (Vt.out.2.below hb'))
        have KB := Lib.hid (KKt.out.trans (hb'.mono KKt.out.size))
        have SB := Lib.hid (Nat.le_trans SZt.out hb'.size)
        have X1 := Lib.hid (And.intro h1x12 h2x12)
        have X3 := Lib.hid (And.intro h3x12 h4x12)
        clear hb' h1x12 h2x12 h3x12 h4x12 hr6 hf6 hr11 hf11
        have p0 := row_c NB.out (i := 0) rfl
        have p1 := row_c NB.out (i := 1) rfl
        have p2 := row_c NB.out (i := 2) rfl
        have y0 := frozen_of_row _ _ 0 _ _ NB.out
        have y1 := frozen_of_row _ _ 1 _ _ NB.out
        have y2 := frozen_of_row _ _ 2 _ _ NB.out
        try rw [wpOps_cons]
        simp only [wpOp, List.getElem?_toArray, List.getElem?_cons_succ, List.getElem?_cons_zero, Region.wanted, if_true]
        refine Or.inl ?_
        simp only [Oper.wp, execOp]
        go_simp
        try simp only [wpOps]
        obtain ⟨u, hU⟩ : ∃ U : World, U = ((x.setCell ⟨w.heap.size + 2, 0, none⟩ (.bool false)).setCell ⟨w.heap.size + 2, 1, none⟩ (.slice Ax12 (ks.length - ct) qx12)).setCell ⟨w.heap.size + 2, 2, none⟩ (.slice Bx12 (ds.length - ct) px12) := ⟨_, rfl⟩
        have RCu := Lib.hid (show u.heap[w.heap.size + 2]? = some (.cells #[.bool false, .slice Ax12 (ks.length - ct) qx12, .slice Bx12 (ds.length - ct) px12] 25 (0, 0)) by rw [hU]; have := row_set (i := 2) (row_set (i := 1) (row_set (i := 0) NB.out (.bool false)) (.slice Ax12 (ks.length - ct) qx12)) (.slice Bx12 (ds.length - ct) px12); simpa using this)
        have RAu := Lib.hid (show u.heap[_]? = some _ by rw [hU]; exact row_far (row_far (row_far RAtn.out (by omega) _) (by omega) _) (by omega) _)
        have RBu := Lib.hid (show u.heap[_]? = some _ by rw [hU]; exact row_far (row_far (row_far RBtn.out (by omega) _) (by omega) _) (by omega) _)
        have Vu := Lib.hid (show Rl sv u Ax12 qx12 kb_ ∧ Rl nv u Bx12 px12 db_ by rw [hU]; exact ⟨((X1.out.1.set X3.out.1 (by omega) _ _).set X3.out.1 (by omega) _ _).set X3.out.1 (by omega) _ _, ((X1.out.2.set X3.out.2 (by omega) _ _).set X3.out.2 (by omega) _ _).set X3.out.2 (by omega) _ _⟩)
        have Vtu := Lib.hid (show Rl sv u _ _ _ ∧ Rl nv u _ _ _ by rw [hU]; exact ⟨((Vtn.out.1.set Ft.out.1 (by omega) _ _).set Ft.out.1 (by omega) _ _).set Ft.out.1 (by omega) _ _, ((Vtn.out.2.set Ft.out.2 (by omega) _ _).set Ft.out.2 (by omega) _ _).set Ft.out.2 (by omega) _ _⟩)
        have Fu := X3
        have KKu := Lib.hid (show Below w.heap.size w u by rw [hU]; exact ((KB.out.setCell (by first | (simp; done) | (simp; omega)) _).setCell (by first | (simp; done) | (simp; omega)) _).setCell (by first | (simp; done) | (simp; omega)) _)
        have SZu := Lib.hid (show w.heap.size + 3 ≤ u.heap.size by rw [hU]; simpa using SB.out)
        obtain ⟨Au, hAu⟩ : ∃ z, z = Ax12 := ⟨_, rfl⟩
        obtain ⟨qu, hqu⟩ : ∃ z, z = qx12 := ⟨_, rfl⟩
        obtain ⟨Bu, hBu⟩ : ∃ z, z = Bx12 := ⟨_, rfl⟩
        obtain ⟨pu, hpu⟩ : ∃ z, z = px12 := ⟨_, rfl⟩
        rw [← hAu, ← hqu, ← hBu, ← hpu] at RCu Vu hU ⊢
        rw [← hAu, ← hBu] at Fu
        rw [← hU]
        clear hU hAu hqu hBu hpu p0 p1 p2 y0 y1 y2 NB KB SB X1
        have F1 := Lib.hid (fun x (K : Below u.heap.size u x) => And.intro (row_c (row_on RBu.out K) (i := 0) rfl) (And.intro (row_c (row_on RBu.out K) (i := 1) rfl) (row_c (row_on RBu.out K) (i := 2) rfl)))
        have F2 := Lib.hid (fun x (K : Below u.heap.size u x) => And.intro (row_c (row_on RCu.out K) (i := 0) rfl) (And.intro (row_c (row_on RCu.out K) (i := 1) rfl) (row_c (row_on RCu.out K) (i := 2) rfl)))
        have F3 := Lib.hid (fun x (K : Below u.heap.size u x) => row_c (row_on RAu.out K) (i := 1) rfl)
        have FMx := Lib.hid (fun x (K : Below u.heap.size u x) => (K.cell (p := ⟨bm, om + hh, none⟩) (MM.out.1 u KKu.out)).trans (MM.out.2 u KKu.out))
        have hhl : (hh : Int) < (ks.length : Int) := by have := HHL.out; omega
        have hh0 : (0 : Int) ≤ (hh : Int) := by omega
        go_upto_region 9 with (fail)
        refine wp_operands (W := u) rfl 9 [55, 56, 57, 58, 59, 60, 61, 20, 3] (fun i u x => match i with | 0 => u = .agg #[.bool false, .slice At hh qt, .slice Bt ct pt] | 1 => u = .pointer (some ⟨w.heap.size, 1, none⟩) | 2 => u = .slice (some ⟨bm, om, none⟩) ks.length c | 3 => u = .int .i64 (hh : Int) | 4 => u = .pointer (some ⟨bm, om + hh, none⟩) | 5 => u = .string ⟨mid.toArray⟩ | 6 => u = .agg #[.bool false, .slice Au (ks.length - ct) qu, .slice Bu (ds.length - ct) pu] | 7 => True | 8 => u = .string ⟨mid.toArray⟩ | _ => True) (fun _ => false)
          (by decide) rfl (by kernel_rfl) (by kernel_rfl) (by decide) (by kernel_rfl) ?_ (fun _ _ _ h => by cases h) ?_ ?_
        · intro i u x x' hi hR hb'
          have hi' : i = 0 ∨ i = 1 ∨ i = 2 ∨ i = 3 ∨ i = 4 ∨ i = 5 ∨ i = 6 ∨ i = 7 ∨ i = 8 := by omega
          rcases hi' with rfl | rfl | rfl | rfl | rfl | rfl | rfl | rfl | rfl
          · exact hR
          · exact hR
          · exact hR
          · exact hR
          · exact hR
          · exact hR
          · exact hR
          · exact trivial
          · exact hR
        · intro i av x K hi hF hb' hw hK
          have hi' : i = 0 ∨ i = 1 ∨ i = 2 ∨ i = 3 ∨ i = 4 ∨ i = 5 ∨ i = 6 ∨ i = 7 ∨ i = 8 := by omega
          rcases hi' with rfl | rfl | rfl | rfl | rfl | rfl | rfl | rfl | rfl
          · simp only [wpOp, List.getElem?_toArray, List.getElem?_cons_zero, Region.wanted, if_true]
            refine Or.inl ?_
            have e0 : av.tmps.getD 2 undef = .pointer (some ⟨w.heap.size + 1, 0, none⟩) := hF.2.2 2 (by decide)
            have e0e : av.eval (.tmp 2) = .pointer (some ⟨w.heap.size + 1, 0, none⟩) := e0
            have e0g : av.tmps[2]?.getD undef = .pointer (some ⟨w.heap.size + 1, 0, none⟩) := by have := e0; simp only [Array.getD_eq_getD_getElem?] at this; exact this
            obtain ⟨f0, f1, f2⟩ := F1.out x hb'
            clear hw hF
            simp only [Oper.wp, execOp]
            try simp only [e0e]
            go_simp
            exact hK _ x (by first | rfl | (simp only [Nat.add_zero]; done) | (congr 1; omega)) (Below.refl _ _) (fun h => by cases h)
          · simp only [wpOp, List.getElem?_toArray, List.getElem?_cons_succ, List.getElem?_cons_zero, Region.wanted, if_true]
            refine Or.inl ?_
            have e0 : av.tmps.getD 1 undef = .pointer (some ⟨w.heap.size, 0, none⟩) := hF.2.2 1 (by decide)
            have e0e : av.eval (.tmp 1) = .pointer (some ⟨w.heap.size, 0, none⟩) := e0
            have e0g : av.tmps[1]?.getD undef = .pointer (some ⟨w.heap.size, 0, none⟩) := by have := e0; simp only [Array.getD_eq_getD_getElem?] at this; exact this
            clear hw hF
            simp only [Oper.wp, execOp]
            try simp only [e0e]
            go_simp
            exact hK _ x (by first | rfl | (simp only [Nat.add_zero]; done) | (congr 1; omega)) (Below.refl _ _) (fun h => by cases h)
          · simp only [wpOp, List.getElem?_toArray, List.getElem?_cons_succ, List.getElem?_cons_zero, Region.wanted, if_true]
            refine Or.inl ?_
            have e0 : av.tmps.getD 56 undef = .pointer (some ⟨w.heap.size, 1, none⟩) := (hw 1 (by kernel_rfl))
            have e0e : av.eval (.tmp 56) = .pointer (some ⟨w.heap.size, 1, none⟩) := e0
            have e0g : av.tmps[56]?.getD undef = .pointer (some ⟨w.heap.size, 1, none⟩) := by have := e0; simp only [Array.getD_eq_getD_getElem?] at this; exact this
            have f1 := F3.out x hb'
            clear hw hF
            simp only [Oper.wp, execOp]
            try simp only [e0e]
            go_simp
            exact hK _ x (by first | rfl | (simp only [Nat.add_zero]; done) | (congr 1; omega)) (Below.refl _ _) (fun h => by cases h)
          · simp only [wpOp, List.getElem?_toArray, List.getElem?_cons_succ, List.getElem?_cons_zero, Region.wanted, if_true]
            refine Or.inl ?_
            have e0 : av.tmps.getD 6 undef = .int .i64 (hh : Int) := hF.2.2 6 (by decide)
            have e0e : av.eval (.tmp 6) = .int .i64 (hh : Int) := e0
            have e0g : av.tmps[6]?.getD undef = .int .i64 (hh : Int) := by have := e0; simp only [Array.getD_eq_getD_getElem?] at this; exact this
            clear hw hF
            simp only [Oper.wp, execOp]
            try simp only [e0e]
            go_simp
            exact hK _ x (by first | rfl | (simp only [Nat.add_zero]; done) | (congr 1; omega)) (Below.refl _ _) (fun h => by cases h)
          · simp only [wpOp, List.getElem?_toArray, List.getElem?_cons_succ, List.getElem?_cons_zero, Region.wanted, if_true]
            refine Or.inl ?_
            have e0 : av.tmps.getD 57 undef = .slice (some ⟨bm, om, none⟩) ks.length c := (hw 2 (by kernel_rfl))
            have e0e : av.eval (.tmp 57) = .slice (some ⟨bm, om, none⟩) ks.length c := e0
            have e0g : av.tmps[57]?.getD undef = .slice (some ⟨bm, om, none⟩) ks.length c := by have := e0; simp only [Array.getD_eq_getD_getElem?] at this; exact this
            have e1 : av.tmps.getD 58 undef = .int .i64 (hh : Int) := (hw 3 (by kernel_rfl))
            have e1e : av.eval (.tmp 58) = .int .i64 (hh : Int) := e1
            have e1g : av.tmps[58]?.getD undef = .int .i64 (hh : Int) := by have := e1; simp only [Array.getD_eq_getD_getElem?] at this; exact this
            clear hw hF
            simp only [Oper.wp, execOp]
            try simp only [e0e, e1e]
            go_simp
            exact hK _ x (by first | rfl | (simp only [Nat.add_zero]; done) | (congr 1; omega)) (Below.refl _ _) (fun h => by cases h)
          · simp only [wpOp, List.getElem?_toArray, List.getElem?_cons_succ, List.getElem?_cons_zero, Region.wanted, if_true]
            refine Or.inl ?_
            have e0 : av.tmps.getD 59 undef = .pointer (some ⟨bm, om + hh, none⟩) := (hw 4 (by kernel_rfl))
            have e0e : av.eval (.tmp 59) = .pointer (some ⟨bm, om + hh, none⟩) := e0
            have e0g : av.tmps[59]?.getD undef = .pointer (some ⟨bm, om + hh, none⟩) := by have := e0; simp only [Array.getD_eq_getD_getElem?] at this; exact this
            have fm := FMx.out x hb'
            clear hw hF
            simp only [Oper.wp, execOp]
            try simp only [e0e]
            go_simp
            exact hK _ x (by first | rfl | (simp only [Nat.add_zero]; done) | (congr 1; omega)) (Below.refl _ _) (fun h => by cases h)
          · simp only [wpOp, List.getElem?_toArray, List.getElem?_cons_succ, List.getElem?_cons_zero, Region.wanted, if_true]
            refine Or.inl ?_
            have e0 : av.tmps.getD 4 undef = .pointer (some ⟨w.heap.size + 2, 0, none⟩) := hF.2.2 4 (by decide)
            have e0e : av.eval (.tmp 4) = .pointer (some ⟨w.heap.size + 2, 0, none⟩) := e0
            have e0g : av.tmps[4]?.getD undef = .pointer (some ⟨w.heap.size + 2, 0, none⟩) := by have := e0; simp only [Array.getD_eq_getD_getElem?] at this; exact this
            obtain ⟨f0, f1, f2⟩ := F2.out x hb'
            clear hw hF
            simp only [Oper.wp, execOp]
            try simp only [e0e]
            go_simp
            exact hK _ x (by first | rfl | (simp only [Nat.add_zero]; done) | (congr 1; omega)) (Below.refl _ _) (fun h => by cases h)
          · simp only [wpOp, List.getElem?_toArray, List.getElem?_cons_succ, List.getElem?_cons_zero, Region.wanted, if_true]
            refine Or.inl ?_
            have e0 : av.tmps.getD 2 undef = .pointer (some ⟨w.heap.size + 1, 0, none⟩) := hF.2.2 2 (by decide)
            have e0e : av.eval (.tmp 2) = .pointer (some ⟨w.heap.size + 1, 0, none⟩) := e0
            have e0g : av.tmps[2]?.getD undef = .pointer (some ⟨w.heap.size + 1, 0, none⟩) := by have := e0; simp only [Array.getD_eq_getD_getElem?] at this; exact this
            have e1 : av.tmps.getD 55 undef = .agg #[.bool false, .slice At hh qt, .slice Bt ct pt] := (hw 0 (by kernel_rfl))
            have e1e : av.eval (.tmp 55) = .agg #[.bool false, .slice At hh qt, .slice Bt ct pt] := e1
            have e1g : av.tmps[55]?.getD undef = .agg #[.bool false, .slice At hh qt, .slice Bt ct pt] := by have := e1; simp only [Array.getD_eq_getD_getElem?] at this; exact this
            have hrr := row_on RBu.out hb'
            have p0 := row_c hrr (i := 0) rfl
            have p1 := row_c hrr (i := 1) rfl
            have p2 := row_c hrr (i := 2) rfl
            have y0 := frozen_of_row _ _ 0 _ _ hrr
            have y1 := frozen_of_row _ _ 1 _ _ hrr
            have y2 := frozen_of_row _ _ 2 _ _ hrr
            have PS := put_self av 20
            clear hw hF
            simp only [Oper.wp, execOp]
            try simp only [e0e, e1e]
            go_simp
            have := hK (av.tmps.getD 20 undef) (((x.setCell ⟨w.heap.size + 1, 0, none⟩ (.bool false)).setCell ⟨w.heap.size + 1, 1, none⟩ (.slice At hh qt)).setCell ⟨w.heap.size + 1, 2, none⟩ (.slice Bt ct pt)) trivial (set_same3 hrr) (fun h => by cases h)
            replace this : K (av.put (some 20) (av.tmps.getD 20 undef)) _ := this
            rw [PS] at this
            exact this
          · simp only [wpOp, List.getElem?_toArray, List.getElem?_cons_succ, List.getElem?_cons_zero, Region.wanted, if_true]
            refine Or.inl ?_
            have e0 : av.tmps.getD 60 undef = .string ⟨mid.toArray⟩ := (hw 5 (by kernel_rfl))
            have e0e : av.eval (.tmp 60) = .string ⟨mid.toArray⟩ := e0
            have e0g : av.tmps[60]?.getD undef = .string ⟨mid.toArray⟩ := by have := e0; simp only [Array.getD_eq_getD_getElem?] at this; exact this
            clear hw hF
            simp only [Oper.wp, execOp]
            try simp only [e0e]
            go_simp
            exact hK _ x (by first | rfl | (simp only [Nat.add_zero]; done) | (congr 1; omega)) (Below.refl _ _) (fun h => by cases h)
        · intro av x hF hb' hR _
          have e0 : av.tmps.getD 55 undef = .agg #[.bool false, .slice At hh qt, .slice Bt ct pt] := hR 0 (by decide)
          have e1 : av.tmps.getD 56 undef = .pointer (some ⟨w.heap.size, 1, none⟩) := hR 1 (by decide)
          have e2 : av.tmps.getD 57 undef = .slice (some ⟨bm, om, none⟩) ks.length c := hR 2 (by decide)
          have e3 : av.tmps.getD 58 undef = .int .i64 (hh : Int) := hR 3 (by decide)
          have e4 : av.tmps.getD 59 undef = .pointer (some ⟨bm, om + hh, none⟩) := hR 4 (by decide)
          have e5 : av.tmps.getD 60 undef = .string ⟨mid.toArray⟩ := hR 5 (by decide)
          have e6 : av.tmps.getD 61 undef = .agg #[.bool false, .slice Au (ks.length - ct) qu, .slice Bu (ds.length - ct) pu] := hR 6 (by decide)
          have e8 : av.tmps.getD 3 undef = .string ⟨mid.toArray⟩ := hR 8 (by decide)
          rw [hF.fold (by kernel_rfl)]
          simp only [List.foldl_cons, List.foldl_nil, e0, e1, e2, e3, e4, e5, e6, e8]
          simp only [Act.put, List.setIfInBounds_toArray, List.set_cons_zero, List.set_cons_succ]
          change wpOps _ _ _ [9, 10] _ _
          simp only [wpOps_cons]
          clear e0 e1 e2 e3 e4 e5 e6 e8 hR hF
          have NB := Lib.hid (row_on RBu.out hb')
          have NC := Lib.hid (row_on RCu.out hb')
          have KB := Lib.hid (KKu.out.trans (hb'.mono KKu.out.size))
          have X1 := Lib.hid (And.intro (Vtu.out.1.below hb') (Vtu.out.2.below hb'))
          have X2 := Lib.hid (And.intro (Vu.out.1.below hb') (Vu.out.2.below hb'))
          clear hb'
          have p0 := row_c NB.out (i := 0) rfl
          have p1 := row_c NB.out (i := 1) rfl
          have p2 := row_c NB.out (i := 2) rfl
          have pz0 := frozen_of_row _ _ 0 _ _ NB.out
          have pz1 := frozen_of_row _ _ 1 _ _ NB.out
          have pz2 := frozen_of_row _ _ 2 _ _ NB.out
          have q0 := row_c NC.out (i := 0) rfl
          have q1 := row_c NC.out (i := 1) rfl
          have q2 := row_c NC.out (i := 2) rfl
          have qz0 := frozen_of_row _ _ 0 _ _ NC.out
          have qz1 := frozen_of_row _ _ 1 _ _ NC.out
          have qz2 := frozen_of_row _ _ 2 _ _ NC.out
          try rw [wpOps_cons]
          simp only [wpOp, List.getElem?_toArray, List.getElem?_cons_succ, List.getElem?_cons_zero, Region.wanted, if_true]
          refine Or.inl ?_
          simp only [Oper.wp, execOp]
          go_simp
          try rw [wpOps_cons]
          simp only [wpOp, List.getElem?_toArray, List.getElem?_cons_succ, List.getElem?_cons_zero, Region.wanted, if_true]
          refine Or.inl ?_
          simp only [Oper.wp, execOp]
          go_simp
          try simp only [wpOps]
          go_wp2
          refine bodyPost_ret (v := .tuple #[.agg #[.bool false, .slice At hh qt, .slice Bt ct pt], .string ⟨mid.toArray⟩, .agg #[.bool false, .slice Au (ks.length - ct) qu, .slice Bu (ds.length - ct) pu], .bool true]) (by simp [results, Try.results29, go_sem, p0, p1, p2, q0, q1, q2]) rfl ⟨At, qt, Bt, pt, Au, qu, Bu, pu, rfl, ?_, ?_, ?_, ?_, ?_⟩
          · exact ((X1.out.1.set Ft.out.1 (by omega) _ _).set Ft.out.1 (by omega) _ _).set Ft.out.1 (by omega) _ _
          · exact ((X1.out.2.set Ft.out.2 (by omega) _ _).set Ft.out.2 (by omega) _ _).set Ft.out.2 (by omega) _ _
          · exact ((X2.out.1.set Fu.out.1 (by omega) _ _).set Fu.out.1 (by omega) _ _).set Fu.out.1 (by omega) _ _
          · exact ((X2.out.2.set Fu.out.2 (by omega) _ _).set Fu.out.2 (by omega) _ _).set Fu.out.2 (by omega) _ _
          · exact ((KB.out.setCell (by first | (simp; done) | (simp; omega)) _).setCell (by first | (simp; done) | (simp; omega)) _).setCell (by first | (simp; done) | (simp; omega)) _
  · have hc : ct = hh := by simpa using HCT.out
    have hci : (ct : Int) = (hh : Int) := by omega
    rw [hci] at hda hkb hdb
    clear hc hci HCT
    obtain ⟨bm, om, hA, _, _⟩ := H.out.cell HM.out
    subst hA
    have MM := Lib.hid (show (∀ V, Below w.heap.size w V → bm < V.heap.size) ∧ ∀ V, Below w.heap.size w V → V.cell? ⟨bm, om + hh, none⟩ = some (.string ⟨mid.toArray⟩) from ⟨fun V hV => by
        obtain ⟨b1, o1, e, hlt, _⟩ := (H.out.below hV).cell HM.out
        injection e with e; injection e with e1 e2; subst e1; exact hlt, fun V hV => by
        obtain ⟨b1, o1, e, _, hc⟩ := (H.out.below hV).cell HM.out
        injection e with e; injection e with e1 e2; subst e1 e2; exact hc⟩)
    have MM2 := Lib.hid (show bm ≠ w.heap.size + 1 by obtain ⟨b1, o1, e, hlt, _⟩ := H.out.cell HM.out; injection e with e; injection e with e1 e2; subst e1; omega)
    go_enter Try.func29, Try.ntmps29
    go_wp2_with fail
    rw [← HW.out]
    refine (SH.out _).mono ?_
    rintro e w2 ⟨rfl, hb⟩
    have RA2 := Lib.hid (row_on RA.out hb)
    have RB2 := Lib.hid (row_on RB.out hb)
    have RC2 := Lib.hid (row_on RC.out hb)
    have KK2 := Lib.hid (BW.out.trans (hb.mono BW.out.size))
    have SZ2 := Lib.hid (show w.heap.size + 3 ≤ w2.heap.size from heap_lt RC2.out)
    clear hb SH HW RA RB RC BW
    have f0 := row_c RA2.out (i := 0) rfl
    have f1 := row_c RA2.out (i := 1) rfl
    have FA2 := Lib.hid (fun x (K : Below w2.heap.size w2 x) => And.intro (row_c (row_on RA2.out K) (i := 0) rfl) (And.intro (row_c (row_on RA2.out K) (i := 1) rfl) (row_c (row_on RA2.out K) (i := 2) rfl)))
    go_upto_region 7 with (fail)
    clear f0 f1 e1 e2 e3 e4
    refine wp_operands (W := w2) rfl 13 [29, 30, 31, 32, 33, 34, 35, 36, 37, 38, 39, 40, 41] (fun i u x => match i with | 0 => u = .pointer (some ⟨w.heap.size, 0, none⟩) | 1 => u = .bool true | 2 => u = .pointer (some ⟨w.heap.size, 1, none⟩) | 3 => u = .slice (some ⟨bm, om, none⟩) ks.length c | 4 => u = .int .i64 (hh : Int) | 5 => u = .slice Ka (hh) ka | 6 => ∃ A0 q0, u = .slice A0 (hh) q0 ∧ Rl sv x A0 q0 ka_ ∧ Fr (w.heap.size + 3) A0 | 7 => u = .pointer (some ⟨w.heap.size, 2, none⟩) | 8 => u = .slice B ds.length d | 9 => u = .int .i64 (hh : Int) | 10 => u = .slice Da (ct) da | 11 => ∃ A0 q0, u = .slice A0 (ct) q0 ∧ Rl nv x A0 q0 da_ ∧ Fr (w.heap.size + 3) A0 | 12 => ∃ A0 q0 B0 p0, u = .agg #[.bool true, .slice A0 (hh) q0, .slice B0 (ct) p0] ∧ Rl sv x A0 q0 ka_ ∧ Rl nv x B0 p0 da_ ∧ Fr (w.heap.size + 3) A0 ∧ Fr (w.heap.size + 3) B0 | _ => True) (fun _ => false)
      (by decide) rfl (by kernel_rfl) (by kernel_rfl) (by decide) (by kernel_rfl) ?_ (fun _ _ _ h => by cases h) ?_ ?_
    · intro i u x x' hi hR hb'
      have hi' : i = 0 ∨ i = 1 ∨ i = 2 ∨ i = 3 ∨ i = 4 ∨ i = 5 ∨ i = 6 ∨ i = 7 ∨ i = 8 ∨ i = 9 ∨ i = 10 ∨ i = 11 ∨ i = 12 := by omega
      rcases hi' with rfl | rfl | rfl | rfl | rfl | rfl | rfl | rfl | rfl | rfl | rfl | rfl | rfl
      · exact hR
      · exact hR
      · exact hR
      · exact hR
      · exact hR
      · exact hR
      · obtain ⟨A0, q0, e, hr, hf⟩ := hR; exact ⟨A0, q0, e, hr.below hb', hf⟩
      · exact hR
      · exact hR
      · exact hR
      · exact hR
      · obtain ⟨A0, q0, e, hr, hf⟩ := hR; exact ⟨A0, q0, e, hr.below hb', hf⟩
      · obtain ⟨A0, q0, B0, p0, e, h1, h2, h3, h4⟩ := hR; exact ⟨A0, q0, B0, p0, e, h1.below hb', h2.below hb', h3, h4⟩
    · intro i av x K hi hF hb' hw hK
      have hi' : i = 0 ∨ i = 1 ∨ i = 2 ∨ i = 3 ∨ i = 4 ∨ i = 5 ∨ i = 6 ∨ i = 7 ∨ i = 8 ∨ i = 9 ∨ i = 10 ∨ i = 11 ∨ i = 12 := by omega
      rcases hi' with rfl | rfl | rfl | rfl | rfl | rfl | rfl | rfl | rfl | rfl | rfl | rfl | rfl
      · simp only [wpOp, List.getElem?_toArray, List.getElem?_cons_zero, Region.wanted, if_true]
        refine Or.inl ?_
        have e0 : av.tmps.getD 1 undef = .pointer (some ⟨w.heap.size, 0, none⟩) := hF.2.2 1 (by decide)
        have e0e : av.eval (.tmp 1) = .pointer (some ⟨w.heap.size, 0, none⟩) := e0
        have e0g : av.tmps[1]?.getD undef = .pointer (some ⟨w.heap.size, 0, none⟩) := by have := e0; simp only [Array.getD_eq_getD_getElem?] at this; exact this
        clear hw hF
        simp only [Oper.wp, execOp]
        try simp only [e0e]
        go_simp
        exact hK _ x (by first | rfl | (simp only [Nat.add_zero]; done) | (congr 1; omega)) (Below.refl _ _) (fun h => by cases h)
      · simp only [wpOp, List.getElem?_toArray, List.getElem?_cons_succ, List.getElem?_cons_zero, Region.wanted, if_true]
        refine Or.inl ?_
        have e0 : av.tmps.getD 29 undef = .pointer (some ⟨w.heap.size, 0, none⟩) := (hw 0 (by kernel_rfl))
        have e0e : av.eval (.tmp 29) = .pointer (some ⟨w.heap.size, 0, none⟩) := e0
        have e0g : av.tmps[29]?.getD undef = .pointer (some ⟨w.heap.size, 0, none⟩) := by have := e0; simp only [Array.getD_eq_getD_getElem?] at this; exact this
        obtain ⟨f0, f1, f2⟩ := FA2.out x hb'
        clear hw hF
        simp only [Oper.wp, execOp]
        try simp only [e0e]
        go_simp
        exact hK _ x (by first | rfl | (simp only [Nat.add_zero]; done) | (congr 1; omega)) (Below.refl _ _) (fun h => by cases h)
      · simp only [wpOp, List.getElem?_toArray, List.getElem?_cons_succ, List.getElem?_cons_zero, Region.wanted, if_true]
        refine Or.inl ?_
        have e0 : av.tmps.getD 1 undef = .pointer (some ⟨w.heap.size, 0, none⟩) := hF.2.2 1 (by decide)
        have e0e : av.eval (.tmp 1) = .pointer (some ⟨w.heap.size, 0, none⟩) := e0
        have e0g : av.tmps[1]?.getD undef = .pointer (some ⟨w.heap.size, 0, none⟩) := by have := e0; simp only [Array.getD_eq_getD_getElem?] at this; exact this
        clear hw hF
        simp only [Oper.wp, execOp]
        try simp only [e0e]
        go_simp
        exact hK _ x (by first | rfl | (simp only [Nat.add_zero]; done) | (congr 1; omega)) (Below.refl _ _) (fun h => by cases h)
      · simp only [wpOp, List.getElem?_toArray, List.getElem?_cons_succ, List.getElem?_cons_zero, Region.wanted, if_true]
        refine Or.inl ?_
        have e0 : av.tmps.getD 31 undef = .pointer (some ⟨w.heap.size, 1, none⟩) := (hw 2 (by kernel_rfl))
        have e0e : av.eval (.tmp 31) = .pointer (some ⟨w.heap.size, 1, none⟩) := e0
        have e0g : av.tmps[31]?.getD undef = .pointer (some ⟨w.heap.size, 1, none⟩) := by have := e0; simp only [Array.getD_eq_getD_getElem?] at this; exact this
        obtain ⟨f0, f1, f2⟩ := FA2.out x hb'
        clear hw hF
        simp only [Oper.wp, execOp]
        try simp only [e0e]
        go_simp
        exact hK _ x (by first | rfl | (simp only [Nat.add_zero]; done) | (congr 1; omega)) (Below.refl _ _) (fun h => by cases h)
      · simp only [wpOp, List.getElem?_toArray, List.getElem?_cons_succ, List.getElem?_cons_zero, Region.wanted, if_true]
        refine Or.inl ?_
        have e0 : av.tmps.getD 6 undef = .int .i64 (hh : Int) := hF.2.2 6 (by decide)
        have e0e : av.eval (.tmp 6) = .int .i64 (hh : Int) := e0
        have e0g : av.tmps[6]?.getD undef = .int .i64 (hh : Int) := by have := e0; simp only [Array.getD_eq_getD_getElem?] at this; exact this
        clear hw hF
        simp only [Oper.wp, execOp]
        try simp only [e0e]
        go_simp
        exact hK _ x (by first | rfl | (simp only [Nat.add_zero]; done) | (congr 1; omega)) (Below.refl _ _) (fun h => by cases h)
      · simp only [wpOp, List.getElem?_toArray, List.getElem?_cons_succ, List.getElem?_cons_zero, Region.wanted, if_true]
        refine Or.inl ?_
        have e0 : av.tmps.getD 32 undef = .slice (some ⟨bm, om, none⟩) ks.length c := (hw 3 (by kernel_rfl))
        have e0e : av.eval (.tmp 32) = .slice (some ⟨bm, om, none⟩) ks.length c := e0
        have e0g : av.tmps[32]?.getD undef = .slice (some ⟨bm, om, none⟩) ks.length c := by have := e0; simp only [Array.getD_eq_getD_getElem?] at this; exact this
        have e1 : av.tmps.getD 33 undef = .int .i64 (hh : Int) := (hw 4 (by kernel_rfl))
        have e1e : av.eval (.tmp 33) = .int .i64 (hh : Int) := e1
        have e1g : av.tmps[33]?.getD undef = .int .i64 (hh : Int) := by have := e1; simp only [Array.getD_eq_getD_getElem?] at this; exact this
        clear hw hF
        simp only [Oper.wp, execOp]
        try simp only [e0e, e1e]
        go_simp
        exact hK _ x (by first | rfl | (simp only [Nat.add_zero]; done) | (congr 1; omega)) (Below.refl _ _) (fun h => by cases h)
      · simp only [wpOp, List.getElem?_toArray, List.getElem?_cons_succ, List.getElem?_cons_zero, Region.wanted, if_true]
        refine Or.inl ?_
        have e0 : av.tmps.getD 34 undef = .slice Ka (hh) ka := (hw 5 (by kernel_rfl))
        have e0e : av.eval (.tmp 34) = .slice Ka (hh) ka := e0
        have e0g : av.tmps[34]?.getD undef = .slice Ka (hh) ka := by have := e0; simp only [Array.getD_eq_getD_getElem?] at this; exact this
        clear hw hF
        simp only [Oper.wp, execOp]
        try simp only [e0e]
        go_simp
        refine (C1.out x (KK2.out.trans (hb'.mono KK2.out.size))).mono ?_
        rintro e x' ⟨A0, q0, rfl, hr, hx, hf⟩
        exact hK _ x' ⟨A0, q0, rfl, hr, fun b_ o_ e_ => by have := hf b_ o_ e_; have := SZ2.out; have := hb'.size; omega⟩ hx (fun h => by cases h)
      · simp only [wpOp, List.getElem?_toArray, List.getElem?_cons_succ, List.getElem?_cons_zero, Region.wanted, if_true]
        refine Or.inl ?_
        have e0 : av.tmps.getD 1 undef = .pointer (some ⟨w.heap.size, 0, none⟩) := hF.2.2 1 (by decide)
        have e0e : av.eval (.tmp 1) = .pointer (some ⟨w.heap.size, 0, none⟩) := e0
        have e0g : av.tmps[1]?.getD undef = .pointer (some ⟨w.heap.size, 0, none⟩) := by have := e0; simp only [Array.getD_eq_getD_getElem?] at this; exact this
        clear hw hF
        simp only [Oper.wp, execOp]
        try simp only [e0e]
        go_simp
        exact hK _ x (by first | rfl | (simp only [Nat.add_zero]; done) | (congr 1; omega)) (Below.refl _ _) (fun h => by cases h)
      · simp only [wpOp, List.getElem?_toArray, List.getElem?_cons_succ, List.getElem?_cons_zero, Region.wanted, if_true]
        refine Or.inl ?_
        have e0 : av.tmps.getD 36 undef = .pointer (some ⟨w.heap.size, 2, none⟩) := (hw 7 (by kernel_rfl))
        have e0e : av.eval (.tmp 36) = .pointer (some ⟨w.heap.size, 2, none⟩) := e0
        have e0g : av.tmps[36]?.getD undef = .pointer (some ⟨w.heap.size, 2, none⟩) := by have := e0; simp only [Array.getD_eq_getD_getElem?] at this; exact this
        obtain ⟨f0, f1, f2⟩ := FA2.out x hb'
        clear hw hF
        simp only [Oper.wp, execOp]
        try simp only [e0e]
        go_simp
        exact hK _ x (by first | rfl | (simp only [Nat.add_zero]; done) | (congr 1; omega)) (Below.refl _ _) (fun h => by cases h)
      · simp only [wpOp, List.getElem?_toArray, List.getElem?_cons_succ, List.getElem?_cons_zero, Region.wanted, if_true]
        refine Or.inl ?_
        have e0 : av.tmps.getD 7 undef = .int .i64 (hh : Int) := hF.2.2 7 (by decide)
        have e0e : av.eval (.tmp 7) = .int .i64 (hh : Int) := e0
        have e0g : av.tmps[7]?.getD undef = .int .i64 (hh : Int) := by have := e0; simp only [Array.getD_eq_getD_getElem?] at this; exact this
        clear hw hF
        simp only [Oper.wp, execOp]
        try simp only [e0e]
        go_simp
        exact hK _ x (by first | rfl | (simp only [Nat.add_zero]; done) | (congr 1; omega)) (Below.refl _ _) (fun h => by cases h)
      · simp only [wpOp, List.getElem?_toArray, List.getElem?_cons_succ, List.getElem?_cons_zero, Region.wanted, if_true]
        refine Or.inl ?_
        have e0 : av.tmps.getD 37 undef = .slice B ds.length d := (hw 8 (by kernel_rfl))
        have e0e : av.eval (.tmp 37) = .slice B ds.length d := e0
        have e0g : av.tmps[37]?.getD undef = .slice B ds.length d := by have := e0; simp only [Array.getD_eq_getD_getElem?] at this; exact this
        have e1 : av.tmps.getD 38 undef = .int .i64 (hh : Int) := (hw 9 (by kernel_rfl))
        have e1e : av.eval (.tmp 38) = .int .i64 (hh : Int) := e1
        have e1g : av.tmps[38]?.getD undef = .int .i64 (hh : Int) := by have := e1; simp only [Array.getD_eq_getD_getElem?] at this; exact this
        clear hw hF
        simp only [Oper.wp, execOp]
        try simp only [e0e, e1e]
        go_simp
        exact hK _ x (by first | rfl | (simp only [Nat.add_zero]; done) | (congr 1; omega)) (Below.refl _ _) (fun h => by cases h)
      · simp only [wpOp, List.getElem?_toArray, List.getElem?_cons_succ, List.getElem?_cons_zero, Region.wanted, if_true]
        refine Or.inl ?_
        have e0 : av.tmps.getD 39 undef = .slice Da (ct) da := (hw 10 (by kernel_rfl))
        have e0e : av.eval (.tmp 39) = .slice Da (ct) da := e0
        have e0g : av.tmps[39]?.getD undef = .slice Da (ct) da := by have := e0; simp only [Array.getD_eq_getD_getElem?] at this; exact this
        clear hw hF
        simp only [Oper.wp, execOp]
        try simp only [e0e]
        go_simp
        refine (C2.out x (KK2.out.trans (hb'.mono KK2.out.size))).mono ?_
        rintro e x' ⟨A0, q0, rfl, hr, hx, hf⟩
        exact hK _ x' ⟨A0, q0, rfl, hr, fun b_ o_ e_ => by have := hf b_ o_ e_; have := SZ2.out; have := hb'.size; omega⟩ hx (fun h => by cases h)
      · simp only [wpOp, List.getElem?_toArray, List.getElem?_cons_succ, List.getElem?_cons_zero, Region.wanted, if_true]
        refine Or.inl ?_
        have e0 : av.tmps.getD 30 undef = .bool true := (hw 1 (by kernel_rfl))
        have e0e : av.eval (.tmp 30) = .bool true := e0
        have e0g : av.tmps[30]?.getD undef = .bool true := by have := e0; simp only [Array.getD_eq_getD_getElem?] at this; exact this
        obtain ⟨A01, q01, e1, hr1, hf1⟩ := (hw 6 (by kernel_rfl))
        have e1e : av.eval (.tmp 35) = .slice A01 (hh) q01 := e1
        have e1g : av.tmps[35]?.getD undef = .slice A01 (hh) q01 := by have := e1; simp only [Array.getD_eq_getD_getElem?] at this; exact this
        obtain ⟨A02, q02, e2, hr2, hf2⟩ := (hw 11 (by kernel_rfl))
        have e2e : av.eval (.tmp 40) = .slice A02 (ct) q02 := e2
        have e2g : av.tmps[40]?.getD undef = .slice A02 (ct) q02 := by have := e2; simp only [Array.getD_eq_getD_getElem?] at this; exact this
        clear hw hF
        simp only [Oper.wp, execOp]
        try simp only [e0e, e1e, e2e]
        go_simp
        exact hK _ x ⟨A01, q01, A02, q02, rfl, hr1, hr2, hf1, hf2⟩ (Below.refl _ _) (fun h => by cases h)
    · intro av x hF hb' hR _
      have e0 : av.tmps.getD 29 undef = .pointer (some ⟨w.heap.size, 0, none⟩) := hR 0 (by decide)
      have e1 : av.tmps.getD 30 undef = .bool true := hR 1 (by decide)
      have e2 : av.tmps.getD 31 undef = .pointer (some ⟨w.heap.size, 1, none⟩) := hR 2 (by decide)
      have e3 : av.tmps.getD 32 undef = .slice (some ⟨bm, om, none⟩) ks.length c := hR 3 (by decide)
      have e4 : av.tmps.getD 33 undef = .int .i64 (hh : Int) := hR 4 (by decide)
      have e5 : av.tmps.getD 34 undef = .slice Ka (hh) ka := hR 5 (by decide)
      obtain ⟨A06, q06, e6, hr6, hf6⟩ := hR 6 (by decide)
      replace e6 : av.tmps.getD 35 undef = .slice A06 (hh) q06 := e6
      have e7 : av.tmps.getD 36 undef = .pointer (some ⟨w.heap.size, 2, none⟩) := hR 7 (by decide)
      have e8 : av.tmps.getD 37 undef = .slice B ds.length d := hR 8 (by decide)
      have e9 : av.tmps.getD 38 undef = .int .i64 (hh : Int) := hR 9 (by decide)
      have e10 : av.tmps.getD 39 undef = .slice Da (ct) da := hR 10 (by decide)
      obtain ⟨A011, q011, e11, hr11, hf11⟩ := hR 11 (by decide)
      replace e11 : av.tmps.getD 40 undef = .slice A011 (ct) q011 := e11
      obtain ⟨Ax12, qx12, Bx12, px12, e12, h1x12, h2x12, h3x12, h4x12⟩ := hR 12 (by decide)
      replace e12 : av.tmps.getD 41 undef = .agg #[.bool true, .slice Ax12 (hh) qx12, .slice Bx12 (ct) px12] := e12
      rw [hF.fold (by kernel_rfl)]
      simp only [List.foldl_cons, List.foldl_nil, e0, e1, e2, e3, e4, e5, e6, e7, e8, e9, e10, e11, e12]
      simp only [Act.put, List.setIfInBounds_toArray, List.set_cons_zero, List.set_cons_succ]
      change wpOps _ _ _ [13] _ _
      simp only [wpOps_cons]
      clear e0 e1 e2 e3 e4 e5 e6 e7 e8 e9 e10 e11 e12 hR hF
      have NB := Lib.hid (row_on RB2.out hb')
      have RA2n := Lib.hid (row_on RA2.out hb')
      have RC2n := Lib.hid (row_on RC2.out hb')
      have KB := Lib.hid (KK2.out.trans (hb'.mono KK2.out.size))
      have SB := Lib.hid (Nat.le_trans SZ2.out hb'.size)
      have X1 := Lib.hid (And.intro h1x12 h2x12)
      have X3 := Lib.hid (And.intro h3x12 h4x12)
      clear hb' h1x12 h2x12 h3x12 h4x12 hr6 hf6 hr11 hf11
      have p0 := row_c NB.out (i := 0) rfl
      have p1 := row_c NB.out (i := 1) rfl
      have p2 := row_c NB.out (i := 2) rfl
      have y0 := frozen_of_row _ _ 0 _ _ NB.out
      have y1 := frozen_of_row _ _ 1 _ _ NB.out
      have y2 := frozen_of_row _ _ 2 _ _ NB.out
      try rw [wpOps_cons]
      simp only [wpOp, List.getElem?_toArray, List.getElem?_cons_succ, List.getElem?_cons_zero, Region.wanted, if_true]
      refine Or.inl ?_
      simp only [Oper.wp, execOp]
      go_simp
      try simp only [wpOps]
      obtain ⟨t, hU⟩ : ∃ U : World, U = ((x.setCell ⟨w.heap.size + 1, 0, none⟩ (.bool true)).setCell ⟨w.heap.size + 1, 1, none⟩ (.slice Ax12 (hh) qx12)).setCell ⟨w.heap.size + 1, 2, none⟩ (.slice Bx12 (ct) px12) := ⟨_, rfl⟩
      have RBt := Lib.hid (show t.heap[w.heap.size + 1]? = some (.cells #[.bool true, .slice Ax12 (hh) qx12, .slice Bx12 (ct) px12] 25 (0, 0)) by rw [hU]; have := row_set (i := 2) (row_set (i := 1) (row_set (i := 0) NB.out (.bool true)) (.slice Ax12 (hh) qx12)) (.slice Bx12 (ct) px12); simpa using this)
      have RAt := Lib.hid (show t.heap[_]? = some _ by rw [hU]; exact row_far (row_far (row_far RA2n.out (by omega) _) (by omega) _) (by omega) _)
      have RCt := Lib.hid (show t.heap[_]? = some _ by rw [hU]; exact row_far (row_far (row_far RC2n.out (by omega) _) (by omega) _) (by omega) _)
      have Vt := Lib.hid (show Rl sv t Ax12 qx12 ka_ ∧ Rl nv t Bx12 px12 da_ by rw [hU]; exact ⟨((X1.out.1.set X3.out.1 (by omega) _ _).set X3.out.1 (by omega) _ _).set X3.out.1 (by omega) _ _, ((X1.out.2.set X3.out.2 (by omega) _ _).set X3.out.2 (by omega) _ _).set X3.out.2 (by omega) _ _⟩)
      have Ft := X3
      have KKt := Lib.hid (show Below w.heap.size w t by rw [hU]; exact ((KB.out.setCell (by first | (simp; done) | (simp; omega)) _).setCell (by first | (simp; done) | (simp; omega)) _).setCell (by first | (simp; done) | (simp; omega)) _)
      have SZt := Lib.hid (show w.heap.size + 3 ≤ t.heap.size by rw [hU]; simpa using SB.out)
      obtain ⟨At, hAt⟩ : ∃ z, z = Ax12 := ⟨_, rfl⟩
      obtain ⟨qt, hqt⟩ : ∃ z, z = qx12 := ⟨_, rfl⟩
      obtain ⟨Bt, hBt⟩ : ∃ z, z = Bx12 := ⟨_, rfl⟩
      obtain ⟨pt, hpt⟩ : ∃ z, z = px12 := ⟨_, rfl⟩
      rw [← hAt, ← hqt, ← hBt, ← hpt] at RBt Vt hU ⊢
      rw [← hAt, ← hBt] at Ft
      rw [← hU]
      clear hU hAt hqt hBt hpt p0 p1 p2 y0 y1 y2 NB KB SB X1
      have FAt := Lib.hid (fun x (K : Below t.heap.size t x) => And.intro (row_c (row_on RAt.out K) (i := 0) rfl) (And.intro (row_c (row_on RAt.out K) (i := 1) rfl) (row_c (row_on RAt.out K) (i := 2) rfl)))
      go_upto_region 8 with (fail)
      refine wp_operands (W := t) rfl 13 [42, 43, 44, 45, 46, 47, 48, 49, 50, 51, 52, 53, 54] (fun i u x => match i with | 0 => u = .pointer (some ⟨w.heap.size, 0, none⟩) | 1 => u = .bool true | 2 => u = .pointer (some ⟨w.heap.size, 1, none⟩) | 3 => u = .slice (some ⟨bm, om, none⟩) ks.length c | 4 => u = .int .i64 (hh : Int) | 5 => u = .slice Kb (ks.length - ct) kb | 6 => ∃ A0 q0, u = .slice A0 (ks.length - ct) q0 ∧ Rl sv x A0 q0 kb_ ∧ Fr (w.heap.size + 3) A0 | 7 => u = .pointer (some ⟨w.heap.size, 2, none⟩) | 8 => u = .slice B ds.length d | 9 => u = .int .i64 (hh : Int) | 10 => u = .slice Db (ds.length - ct) db | 11 => ∃ A0 q0, u = .slice A0 (ds.length - ct) q0 ∧ Rl nv x A0 q0 db_ ∧ Fr (w.heap.size + 3) A0 | 12 => ∃ A0 q0 B0 p0, u = .agg #[.bool true, .slice A0 (ks.length - ct) q0, .slice B0 (ds.length - ct) p0] ∧ Rl sv x A0 q0 kb_ ∧ Rl nv x B0 p0 db_ ∧ Fr (w.heap.size + 3) A0 ∧ Fr (w.heap.size + 3) B0 | _ => True) (fun _ => false)
        (by decide) rfl (by kernel_rfl) (by kernel_rfl) (by decide) (by kernel_rfl) ?_ (fun _ _ _ h => by cases h) ?_ ?_
      · intro i u x x' hi hR hb'
        have hi' : i = 0 ∨ i = 1 ∨ i = 2 ∨ i = 3 ∨ i = 4 ∨ i = 5 ∨ i = 6 ∨ i = 7 ∨ i = 8 ∨ i = 9 ∨ i = 10 ∨ i = 11 ∨ i = 12 := by omega
        rcases hi' with rfl | rfl | rfl | rfl | rfl | rfl | rfl | rfl | rfl | rfl | rfl | rfl | rfl
        · exact hR
        · exact hR
        · exact hR
        · exact hR
        · exact hR
        · exact hR
        · obtain ⟨A0, q0, e, hr, hf⟩ := hR; exact ⟨A0, q0, e, hr.below hb', hf⟩
        · exact hR
        · exact hR
        · exact hR
        · exact hR
        · obtain ⟨A0, q0, e, hr, hf⟩ := hR; exact ⟨A0, q0, e, hr.below hb', hf⟩
        · obtain ⟨A0, q0, B0, p0, e, h1, h2, h3, h4⟩ := hR; exact ⟨A0, q0, B0, p0, e, h1.below hb', h2.below hb', h3, h4⟩
      · intro i av x K hi hF hb' hw hK
        have hi' : i = 0 ∨ i = 1 ∨ i = 2 ∨ i = 3 ∨ i = 4 ∨ i = 5 ∨ i = 6 ∨ i = 7 ∨ i = 8 ∨ i = 9 ∨ i = 10 ∨ i = 11 ∨ i = 12 := by omega
        rcases hi' with rfl | rfl | rfl | rfl | rfl | rfl | rfl | rfl | rfl | rfl | rfl | rfl | rfl
        · simp only [wpOp, List.getElem?_toArray, List.getElem?_cons_zero, Region.wanted, if_true]
          refine Or.inl ?_
          have e0 : av.tmps.getD 1 undef = .pointer (some ⟨w.heap.size, 0, none⟩) := hF.2.2 1 (by decide)
          have e0e : av.eval (.tmp 1) = .pointer (some ⟨w.heap.size, 0, none⟩) := e0
          have e0g : av.tmps[1]?.getD undef = .pointer (some ⟨w.heap.size, 0, none⟩) := by have := e0; simp only [Array.getD_eq_getD_getElem?] at this; exact this
          clear hw hF
          simp only [Oper.wp, execOp]
          try simp only [e0e]
          go_simp
          exact hK _ x (by first | rfl | (simp only [Nat.add_zero]; done) | (congr 1; omega)) (Below.refl _ _) (fun h => by cases h)
        · simp only [wpOp, List.getElem?_toArray, List.getElem?_cons_succ, List.getElem?_cons_zero, Region.wanted, if_true]
          refine Or.inl ?_
          have e0 : av.tmps.getD 42 undef = .pointer (some ⟨w.heap.size, 0, none⟩) := (hw 0 (by kernel_rfl))
          have e0e : av.eval (.tmp 42) = .pointer (some ⟨w.heap.size, 0, none⟩) := e0
          have e0g : av.tmps[42]?.getD undef = .pointer (some ⟨w.heap.size, 0, none⟩) := by have := e0; simp only [Array.getD_eq_getD_getElem?] at this; exact this
          obtain ⟨f0, f1, f2⟩ := FAt.out x hb'
          clear hw hF
          simp only [Oper.wp, execOp]
          try simp only [e0e]
          go_simp
          exact hK _ x (by first | rfl | (simp only [Nat.add_zero]; done) | (congr 1; omega)) (Below.refl _ _) (fun h => by cases h)
        · simp only [wpOp, List.getElem?_toArray, List.getElem?_cons_succ, List.getElem?_cons_zero, Region.wanted, if_true]
          refine Or.inl ?_
          have e0 : av.tmps.getD 1 undef = .pointer (some ⟨w.heap.size, 0, none⟩) := hF.2.2 1 (by decide)
          have e0e : av.eval (.tmp 1) = .pointer (some ⟨w.heap.size, 0, none⟩) := e0
          have e0g : av.tmps[1]?.getD undef = .pointer (some ⟨w.heap.size, 0, none⟩) := by have := e0; simp only [Array.getD_eq_getD_getElem?] at this; exact this
          clear hw hF
          simp only [Oper.wp, execOp]
          try simp only [e0e]
          go_simp
          exact hK _ x (by first | rfl | (simp only [Nat.add_zero]; done) | (congr 1; omega)) (Below.refl _ _) (fun h => by cases h)
        · simp only [wpOp, List.getElem?_toArray, List.getElem?_cons_succ, List.getElem?_cons_zero, Region.wanted, if_true]
          refine Or.inl ?_
          have e0 : av.tmps.getD 44 undef = .pointer (some ⟨w.heap.size, 1, none⟩) := (hw 2 (by kernel_rfl))
          have e0e : av.eval (.tmp 44) = .pointer (some ⟨w.heap.size, 1, none⟩) := e0
          have e0g : av.tmps[44]?.getD undef = .pointer (some ⟨w.heap.size, 1, none⟩) := by have := e0; simp only [Array.getD_eq_getD_getElem?] at this; exact this
          obtain ⟨f0, f1, f2⟩ := FAt.out x hb'
          clear hw hF
          simp only [Oper.wp, execOp]
          try simp only [e0e]
          go_simp
          exact hK _ x (by first | rfl | (simp only [Nat.add_zero]; done) | (congr 1; omega)) (Below.refl _ _) (fun h => by cases h)
        · simp only [wpOp, List.getElem?_toArray, List.getElem?_cons_succ, List.getElem?_cons_zero, Region.wanted, if_true]
          refine Or.inl ?_
          have e0 : av.tmps.getD 7 undef = .int .i64 (hh : Int) := hF.2.2 7 (by decide)
          have e0e : av.eval (.tmp 7) = .int .i64 (hh : Int) := e0
          have e0g : av.tmps[7]?.getD undef = .int .i64 (hh : Int) := by have := e0; simp only [Array.getD_eq_getD_getElem?] at this; exact this
          clear hw hF
          simp only [Oper.wp, execOp]
          try simp only [e0e]
          go_simp
          exact hK _ x (by first | rfl | (simp only [Nat.add_zero]; done) | (congr 1; omega)) (Below.refl _ _) (fun h => by cases h)
        · simp only [wpOp, List.getElem?_toArray, List.getElem?_cons_succ, List.getElem?_cons_zero, Region.wanted, if_true]
          refine Or.inl ?_
          have e0 : av.tmps.getD 45 undef = .slice (some ⟨bm, om, none⟩) ks.length c := (hw 3 (by kernel_rfl))
          have e0e : av.eval (.tmp 45) = .slice (some ⟨bm, om, none⟩) ks.length c := e0
          have e0g : av.tmps[45]?.getD undef = .slice (some ⟨bm, om, none⟩) ks.length c := by have := e0; simp only [Array.getD_eq_getD_getElem?] at this; exact this
          have e1 : av.tmps.getD 46 undef = .int .i64 (hh : Int) := (hw 4 (by kernel_rfl))
          have e1e : av.eval (.tmp 46) = .int .i64 (hh : Int) := e1
          have e1g : av.tmps[46]?.getD undef = .int .i64 (hh : Int) := by have := e1; simp only [Array.getD_eq_getD_getElem?] at this; exact this
          clear hw hF
          simp only [Oper.wp, execOp]
          try simp only [e0e, e1e]
          go_simp
          exact hK _ x (by first | rfl | (simp only [Nat.add_zero]; done) | (congr 1; omega)) (Below.refl _ _) (fun h => by cases h)
        · simp only [wpOp, List.getElem?_toArray, List.getElem?_cons_succ, List.getElem?_cons_zero, Region.wanted, if_true]
          refine Or.inl ?_
          have e0 : av.tmps.getD 47 undef = .slice Kb (ks.length - ct) kb := (hw 5 (by kernel_rfl))
          have e0e : av.eval (.tmp 47) = .slice Kb (ks.length - ct) kb := e0
          have e0g : av.tmps[47]?.getD undef = .slice Kb (ks.length - ct) kb := by have := e0; simp only [Array.getD_eq_getD_getElem?] at this; exact this
          clear hw hF
          simp only [Oper.wp, execOp]
          try simp only [e0e]
          go_simp
          refine (C3.out x (KKt.out.trans (hb'.mono KKt.out.size))).mono ?_
          rintro e x' ⟨A0, q0, rfl, hr, hx, hf⟩
          exact hK _ x' ⟨A0, q0, rfl, hr, fun b_ o_ e_ => by have := hf b_ o_ e_; have := SZt.out; have := hb'.size; omega⟩ hx (fun h => by cases h)
        · simp only [wpOp, List.getElem?_toArray, List.getElem?_cons_succ, List.getElem?_cons_zero, Region.wanted, if_true]
          refine Or.inl ?_
          have e0 : av.tmps.getD 1 undef = .pointer (some ⟨w.heap.size, 0, none⟩) := hF.2.2 1 (by decide)
          have e0e : av.eval (.tmp 1) = .pointer (some ⟨w.heap.size, 0, none⟩) := e0
          have e0g : av.tmps[1]?.getD undef = .pointer (some ⟨w.heap.size, 0, none⟩) := by have := e0; simp only [Array.getD_eq_getD_getElem?] at this; exact this
          clear hw hF
          simp only [Oper.wp, execOp]
          try simp only [e0e]
          go_simp
          exact hK _ x (by first | rfl | (simp only [Nat.add_zero]; done) | (congr 1; omega)) (Below.refl _ _) (fun h => by cases h)
        · simp only [wpOp, List.getElem?_toArray, List.getElem?_cons_succ, List.getElem?_cons_zero, Region.wanted, if_true]
          refine Or.inl ?_
          have e0 : av.tmps.getD 49 undef = .pointer (some ⟨w.heap.size, 2, none⟩) := (hw 7 (by kernel_rfl))
          have e0e : av.eval (.tmp 49) = .pointer (some ⟨w.heap.size, 2, none⟩) := e0
          have e0g : av.tmps[49]?.getD undef = .pointer (some ⟨w.heap.size, 2, none⟩) := by have := e0; simp only [Array.getD_eq_getD_getElem?] at this; exact this
          obtain ⟨f0, f1, f2⟩ := FAt.out x hb'
          clear hw hF
          simp only [Oper.wp, execOp]
          try simp only [e0e]
          go_simp
          exact hK _ x (by first | rfl | (simp only [Nat.add_zero]; done) | (congr 1; omega)) (Below.refl _ _) (fun h => by cases h)
        · simp only [wpOp, List.getElem?_toArray, List.getElem?_cons_succ, List.getElem?_cons_zero, Region.wanted, if_true]
          refine Or.inl ?_
          have e0 : av.tmps.getD 7 undef = .int .i64 (hh : Int) := hF.2.2 7 (by decide)
          have e0e : av.eval (.tmp 7) = .int .i64 (hh : Int) := e0
          have e0g : av.tmps[7]?.getD undef = .int .i64 (hh : Int) := by have := e0; simp only [Array.getD_eq_getD_getElem?] at this; exact this
          clear hw hF
          simp only [Oper.wp, execOp]
          try simp only [e0e]
          go_simp
          exact hK _ x (by first | rfl | (simp only [Nat.add_zero]; done) | (congr 1; omega)) (Below.refl _ _) (fun h => by cases h)
        · simp only [wpOp, List.getElem?_toArray, List.getElem?_cons_succ, List.getElem?_cons_zero, Region.wanted, if_true]
          refine Or.inl ?_
          have e0 : av.tmps.getD 50 undef = .slice B ds.length d := (hw 8 (by kernel_rfl))
          have e0e : av.eval (.tmp 50) = .slice B ds.length d := e0
          have e0g : av.tmps[50]?.getD undef = .slice B ds.length d := by have := e0; simp only [Array.getD_eq_getD_getElem?] at this; exact this
          have e1 : av.tmps.getD 51 undef = .int .i64 (hh : Int) := (hw 9 (by kernel_rfl))
          have e1e : av.eval (.tmp 51) = .int .i64 (hh : Int) := e1
          have e1g : av.tmps[51]?.getD undef = .int .i64 (hh : Int) := by have := e1; simp only [Array.getD_eq_getD_getElem?] at this; exact this
          clear hw hF
          simp only [Oper.wp, execOp]
          try simp only [e0e, e1e]
          go_simp
          exact hK _ x (by first | rfl | (simp only [Nat.add_zero]; done) | (congr 1; omega)) (Below.refl _ _) (fun h => by cases h)
        · simp only [wpOp, List.getElem?_toArray, List.getElem?_cons_succ, List.getElem?_cons_zero, Region.wanted, if_true]
          refine Or.inl ?_
          have e0 : av.tmps.getD 52 undef = .slice Db (ds.length - ct) db := (hw 10 (by kernel_rfl))
          have e0e : av.eval (.tmp 52) = .slice Db (ds.length - ct) db := e0
          have e0g : av.tmps[52]?.getD undef = .slice Db (ds.length - ct) db := by have := e0; simp only [Array.getD_eq_getD_getElem?] at this; exact this
          clear hw hF
          simp only [Oper.wp, execOp]
          try simp only [e0e]
          go_simp
          refine (C4.out x (KKt.out.trans (hb'.mono KKt.out.size))).mono ?_
          rintro e x' ⟨A0, q0, rfl, hr, hx, hf⟩
          exact hK _ x' ⟨A0, q0, rfl, hr, fun b_ o_ e_ => by have := hf b_ o_ e_; have := SZt.out; have := hb'.size; omega⟩ hx (fun h => by cases h)
        · simp only [wpOp, List.getElem?_toArray, List.getElem?_cons_succ, List.getElem?_cons_zero, Region.wanted, if_true]
          refine Or.inl ?_
          have e0 : av.tmps.getD 43 undef = .bool true := (hw 1 (by kernel_rfl))
          have e0e : av.eval (.tmp 43) = .bool true := e0
          have e0g : av.tmps[43]?.getD undef = .bool true := by have := e0; simp only [Array.getD_eq_getD_getElem?] at this; exact this
          obtain ⟨A01, q01, e1, hr1, hf1⟩ := (hw 6 (by kernel_rfl))
          have e1e : av.eval (.tmp 48) = .slice A01 (ks.length - ct) q01 := e1
          have e1g : av.tmps[48]?.getD undef = .slice A01 (ks.length - ct) q01 := by have := e1; simp only [Array.getD_eq_getD_getElem?] at this; exact this
          obtain ⟨A02, q02, e2, hr2, hf2⟩ := (hw 11 (by kernel_rfl))
          have e2e : av.eval (.tmp 53) = .slice A02 (ds.length - ct) q02 := e2
          have e2g : av.tmps[53]?.getD undef = .slice A02 (ds.length - ct) q02 := by have := e2; simp only [Array.getD_eq_getD_getElem?] at this; exact this
          clear hw hF
          simp only [Oper.wp, execOp]
          try simp only [e0e, e1e, e2e]
          go_simp
          exact hK _ x ⟨A01, q01, A02, q02, rfl, hr1, hr2, hf1, hf2⟩ (Below.refl _ _) (fun h => by cases h)
      · intro av x hF hb' hR _
        have e0 : av.tmps.getD 42 undef = .pointer (some ⟨w.heap.size, 0, none⟩) := hR 0 (by decide)
        have e1 : av.tmps.getD 43 undef = .bool true := hR 1 (by decide)
        have e2 : av.tmps.getD 44 undef = .pointer (some ⟨w.heap.size, 1, none⟩) := hR 2 (by decide)
        have e3 : av.tmps.getD 45 undef = .slice (some ⟨bm, om, none⟩) ks.length c := hR 3 (by decide)
        have e4 : av.tmps.getD 46 undef = .int .i64 (hh : Int) := hR 4 (by decide)
        have e5 : av.tmps.getD 47 undef = .slice Kb (ks.length - ct) kb := hR 5 (by decide)
        obtain ⟨A06, q06, e6, hr6, hf6⟩ := hR 6 (by decide)
        replace e6 : av.tmps.getD 48 undef = .slice A06 (ks.length - ct) q06 := e6
        have e7 : av.tmps.getD 49 undef = .pointer (some ⟨w.heap.size, 2, none⟩) := hR 7 (by decide)
        have e8 : av.tmps.getD 50 undef = .slice B ds.length d := hR 8 (by decide)
        have e9 : av.tmps.getD 51 undef = .int .i64 (hh : Int) := hR 9 (by decide)
        have e10 : av.tmps.getD 52 undef = .slice Db (ds.length - ct) db := hR 10 (by decide)
        obtain ⟨A011, q011, e11, hr11, hf11⟩ := hR 11 (by decide)
        replace e11 : av.tmps.getD 53 undef = .slice A011 (ds.length - ct) q011 := e11
        obtain ⟨Ax12, qx12, Bx12, px12, e12, h1x12, h2x12, h3x12, h4x12⟩ := hR 12 (by decide)
        replace e12 : av.tmps.getD 54 undef = .agg #[.bool true, .slice Ax12 (ks.length - ct) qx12, .slice Bx12 (ds.length - ct) px12] := e12
        rw [hF.fold (by kernel_rfl)]
        simp only [List.foldl_cons, List.foldl_nil, e0, e1, e2, e3, e4, e5, e6, e7, e8, e9, e10, e11, e12]
        simp only [Act.put, List.setIfInBounds_toArray, List.set_cons_zero, List.set_cons_succ]
        change wpOps _ _ _ [13] _ _
        simp only [wpOps_cons]
        clear e0 e1 e2 e3 e4 e5 e6 e7 e8 e9 e10 e11 e12 hR hF
        have NB := Lib.hid (row_on RCt.out hb')
        have RAtn := Lib.hid (row_on RAt.out hb')
        have RBtn := Lib.hid (row_on RBt.out hb')
        have Vtn := Lib.hid (And.intro (Vt.out.1.below hb') (Vt.out.2.below hb'))
        have KB := Lib.hid (KKt.out.trans (hb'.mono KKt.out.size))
        have SB := Lib.hid (Nat.le_trans SZt.out hb'.size)
        have X1 := Lib.hid (And.intro h1x12 h2x12)
        have X3 := Lib.hid (And.intro h3x12 h4x12)
        clear hb' h1x12 h2x12 h3x12 h4x12 hr6 hf6 hr11 hf11
        have p0 := row_c NB.out (i := 0) rfl
        have p1 := row_c NB.out (i := 1) rfl
        have p2 := row_c NB.out (i := 2) rfl
        have y0 := frozen_of_row _ _ 0 _ _ NB.out
        have y1 := frozen_of_row _ _ 1 _ _ NB.out
        have y2 := frozen_of_row _ _ 2 _ _ NB.out
        try rw [wpOps_cons]
        simp only [wpOp, List.getElem?_toArray, List.getElem?_cons_succ, List.getElem?_cons_zero, Region.wanted, if_true]
        refine Or.inl ?_
        simp only [Oper.wp, execOp]
        go_simp
        try simp only [wpOps]
        obtain ⟨u, hU⟩ : ∃ U : World, U = ((x.setCell ⟨w.heap.size + 2, 0, none⟩ (.bool true)).setCell ⟨w.heap.size + 2, 1, none⟩ (.slice Ax12 (ks.length - ct) qx12)).setCell ⟨w.heap.size + 2, 2, none⟩ (.slice Bx12 (ds.length - ct) px12) := ⟨_, rfl⟩
        have RCu := Lib.hid (show u.heap[w.heap.size + 2]? = some (.cells #[.bool true, .slice Ax12 (ks.length - ct) qx12, .slice Bx12 (ds.length - ct) px12] 25 (0, 0)) by rw [hU]; have := row_set (i := 2) (row_set (i := 1) (row_set (i := 0) NB.out (.bool true)) (.slice Ax12 (ks.length - ct) qx12)) (.slice Bx12 (ds.length - ct) px12); simpa using this)
        have RAu := Lib.hid (show u.heap[_]? = some _ by rw [hU]; exact row_far (row_far (row_far RAtn.out (by omega) _) (by omega) _) (by omega) _)
        have RBu := Lib.hid (show u.heap[_]? = some _ by rw [hU]; exact row_far (row_far (row_far RBtn.out (by omega) _) (by omega) _) (by omega) _)
        have Vu := Lib.hid (show Rl sv u Ax12 qx12 kb_ ∧ Rl nv u Bx12 px12 db_ by rw [hU]; exact ⟨((X1.out.1.set X3.out.1 (by omega) _ _).set X3.out.1 (by omega) _ _).set X3.out.1 (by omega) _ _, ((X1.out.2.set X3.out.2 (by omega) _ _).set X3.out.2 (by omega) _ _).set X3.out.2 (by omega) _ _⟩)
        have Vtu := Lib.hid (show Rl sv u _ _ _ ∧ Rl nv u _ _ _ by rw [hU]; exact ⟨((Vtn.out.1.set Ft.out.1 (by omega) _ _).set Ft.out.1 (by omega) _ _).set Ft.out.1 (by omega) _ _, ((Vtn.out.2.set Ft.out.2 (by omega) _ _).set Ft.out.2 (by omega) _ _).set Ft.out.2 (by omega) _ _⟩)
        have Fu := X3
        have KKu := Lib.hid (show Below w.heap.size w u by rw [hU]; exact ((KB.out.setCell (by first | (simp; done) | (simp; omega)) _).setCell (by first | (simp; done) | (simp; omega)) _).setCell (by first | (simp; done) | (simp; omega)) _)
        have SZu := Lib.hid (show w.heap.size + 3 ≤ u.heap.size by rw [hU]; simpa using SB.out)
        obtain ⟨Au, hAu⟩ : ∃ z, z = Ax12 := ⟨_, rfl⟩
        obtain ⟨qu, hqu⟩ : ∃ z, z = qx12 := ⟨_, rfl⟩
        obtain ⟨Bu, hBu⟩ : ∃ z, z = Bx12 := ⟨_, rfl⟩
        obtain ⟨pu, hpu⟩ : ∃ z, z = px12 := ⟨_, rfl⟩
        rw [← hAu, ← hqu, ← hBu, ← hpu] at RCu Vu hU ⊢
        rw [← hAu, ← hBu] at Fu
        rw [← hU]
        clear hU hAu hqu hBu hpu p0 p1 p2 y0 y1 y2 NB KB SB X1
        have F1 := Lib.hid (fun x (K : Below u.heap.size u x) => And.intro (row_c (row_on RBu.out K) (i := 0) rfl) (And.intro (row_c (row_on RBu.out K) (i := 1) rfl) (row_c (row_on RBu.out K) (i := 2) rfl)))
        have F2 := Lib.hid (fun x (K : Below u.heap.size u x) => And.intro (row_c (row_on RCu.out K) (i := 0) rfl) (And.intro (row_c (row_on RCu.out K) (i := 1) rfl) (row_c (row_on RCu.out K) (i := 2) rfl)))
        have F3 := Lib.hid (fun x (K : Below u.heap.size u x) => row_c (row_on RAu.out K) (i := 1) rfl)
        have FMx := Lib.hid (fun x (K : Below u.heap.size u x) => (K.cell (p := ⟨bm, om + hh, none⟩) (MM.out.1 u KKu.out)).trans (MM.out.2 u KKu.out))
        have hhl : (hh : Int) < (ks.length : Int) := by have := HHL.out; omega
        have hh0 : (0 : Int) ≤ (hh : Int) := by omega
        go_upto_region 9 with (fail)
        refine wp_operands (W := u) rfl 9 [55, 56, 57, 58, 59, 60, 61, 20, 3] (fun i u x => match i with | 0 => u = .agg #[.bool true, .slice At hh qt, .slice Bt ct pt] | 1 => u = .pointer (some ⟨w.heap.size, 1, none⟩) | 2 => u = .slice (some ⟨bm, om, none⟩) ks.length c | 3 => u = .int .i64 (hh : Int) | 4 => u = .pointer (some ⟨bm, om + hh, none⟩) | 5 => u = .string ⟨mid.toArray⟩ | 6 => u = .agg #[.bool true, .slice Au (ks.length - ct) qu, .slice Bu (ds.length - ct) pu] | 7 => True | 8 => u = .string ⟨mid.toArray⟩ | _ => True) (fun _ => false)
          (by decide) rfl (by kernel_rfl) (by kernel_rfl) (by decide) (by kernel_rfl) ?_ (fun _ _ _ h => by cases h) ?_ ?_
        · intro i u x x' hi hR hb'
          have hi' : i = 0 ∨ i = 1 ∨ i = 2 ∨ i = 3 ∨ i = 4 ∨ i = 5 ∨ i = 6 ∨ i = 7 ∨ i = 8 := by omega
          rcases hi' with rfl | rfl | rfl | rfl | rfl | rfl | rfl | rfl | rfl
          · exact hR
          · exact hR
          · exact hR
          · exact hR
          · exact hR
          · exact hR
          · exact hR
          · exact trivial
          · exact hR
        · intro i av x K hi hF hb' hw hK
          have hi' : i = 0 ∨ i = 1 ∨ i = 2 ∨ i = 3 ∨ i = 4 ∨ i = 5 ∨ i = 6 ∨ i = 7 ∨ i = 8 := by omega
          rcases hi' with rfl | rfl | rfl | rfl | rfl | rfl | rfl | rfl | rfl
          · simp only [wpOp, List.getElem?_toArray, List.getElem?_cons_zero, Region.wanted, if_true]
            refine Or.inl ?_
            have e0 : av.tmps.getD 2 undef = .pointer (some ⟨w.heap.size + 1, 0, none⟩) := hF.2.2 2 (by decide)
            have e0e : av.eval (.tmp 2) = .pointer (some ⟨w.heap.size + 1, 0, none⟩) := e0
            have e0g : av.tmps[2]?.getD undef = .pointer (some ⟨w.heap.size + 1, 0, none⟩) := by have := e0; simp only [Array.getD_eq_getD_getElem?] at this; exact this
            obtain ⟨f0, f1, f2⟩ := F1.out x hb'
            clear hw hF
            simp only [Oper.wp, execOp]
            try simp only [e0e]
            go_simp
            exact hK _ x (by first | rfl | (simp only [Nat.add_zero]; done) | (congr 1; omega)) (Below.refl _ _) (fun h => by cases h)
          · simp only [wpOp, List.getElem?_toArray, List.getElem?_cons_succ, List.getElem?_cons_zero, Region.wanted, if_true]
            refine Or.inl ?_
            have e0 : av.tmps.getD 1 undef = .pointer (some ⟨w.heap.size, 0, none⟩) := hF.2.2 1 (by decide)
            have e0e : av.eval (.tmp 1) = .pointer (some ⟨w.heap.size, 0, none⟩) := e0
            have e0g : av.tmps[1]?.getD undef = .pointer (some ⟨w.heap.size, 0, none⟩) := by have := e0; simp only [Array.getD_eq_getD_getElem?] at this; exact this
            clear hw hF
            simp only [Oper.wp, execOp]
            try simp only [e0e]
            go_simp
            exact hK _ x (by first | rfl | (simp only [Nat.add_zero]; done) | (congr 1; omega)) (Below.refl _ _) (fun h => by cases h)
          · simp only [wpOp, List.getElem?_toArray, List.getElem?_cons_succ, List.getElem?_cons_zero, Region.wanted, if_true]
            refine Or.inl ?_
            have e0 : av.tmps.getD 56 undef = .pointer (some ⟨w.heap.size, 1, none⟩) := (hw 1 (by kernel_rfl))
            have e0e : av.eval (.tmp 56) = .pointer (some ⟨w.heap.size, 1, none⟩) := e0
            have e0g : av.tmps[56]?.getD undef = .pointer (some ⟨w.heap.size, 1, none⟩) := by have := e0; simp only [Array.getD_eq_getD_getElem?] at this; exact this
            have f1 := F3.out x hb'
            clear hw hF
            simp only [Oper.wp, execOp]
            try simp only [e0e]
            go_simp
            exact hK _ x (by first | rfl | (simp only [Nat.add_zero]; done) | (congr 1; omega)) (Below.refl _ _) (fun h => by cases h)
          · simp only [wpOp, List.getElem?_toArray, List.getElem?_cons_succ, List.getElem?_cons_zero, Region.wanted, if_true]
            refine Or.inl ?_
            have e0 : av.tmps.getD 6 undef = .int .i64 (hh : Int) := hF.2.2 6 (by decide)
            have e0e : av.eval (.tmp 6) = .int .i64 (hh : Int) := e0
            have e0g : av.tmps[6]?.getD undef = .int .i64 (hh : Int) := by have := e0; simp only [Array.getD_eq_getD_getElem?] at this; exact this
            clear hw hF
            simp only [Oper.wp, execOp]
            try simp only [e0e]
            go_simp
            exact hK _ x (by first | rfl | (simp only [Nat.add_zero]; done) | (congr 1; omega)) (Below.refl _ _) (fun h => by cases h)
          · simp only [wpOp, List.getElem?_toArray, List.getElem?_cons_succ, List.getElem?_cons_zero, Region.wanted, if_true]
            refine Or.inl ?_
            have e0 : av.tmps.getD 57 undef = .slice (some ⟨bm, om, none⟩) ks.length c := (hw 2 (by kernel_rfl))
            have e0e : av.eval (.tmp 57) = .slice (some ⟨bm, om, none⟩) ks.length c := e0
            have e0g : av.tmps[57]?.getD undef = .slice (some ⟨bm, om, none⟩) ks.length c := by have := e0; simp only [Array.getD_eq_getD_getElem?] at this; exact this
            have e1 : av.tmps.getD 58 undef = .int .i64 (hh : Int) := (hw 3 (by kernel_rfl))
            have e1e : av.eval (.tmp 58) = .int .i64 (hh : Int) := e1
            have e1g : av.tmps[58]?.getD undef = .int .i64 (hh : Int) := by have := e1; simp only [Array.getD_eq_getD_getElem?] at this; exact this
            clear hw hF
            simp only [Oper.wp, execOp]
            try simp only [e0e, e1e]
            go_simp
            exact hK _ x (by first | rfl | (simp only [Nat.add_zero]; done) | (congr 1; omega)) (Below.refl _ _) (fun h => by cases h)
          · simp only [wpOp, List.getElem?_toArray, List.getElem?_cons_succ, List.getElem?_cons_zero, Region.wanted, if_true]
            refine Or.inl ?_
            have e0 : av.tmps.getD 59 undef = .pointer (some ⟨bm, om + hh, none⟩) := (hw 4 (by kernel_rfl))
            have e0e : av.eval (.tmp 59) = .pointer (some ⟨bm, om + hh, none⟩) := e0
            have e0g : av.tmps[59]?.getD undef = .pointer (some ⟨bm, om + hh, none⟩) := by have := e0; simp only [Array.getD_eq_getD_getElem?] at this; exact this
            have fm := FMx.out x hb'
            clear hw hF
            simp only [Oper.wp, execOp]
            try simp only [e0e]
            go_simp
            exact hK _ x (by first | rfl | (simp only [Nat.add_zero]; done) | (congr 1; omega)) (Below.refl _ _) (fun h => by cases h)
          · simp only [wpOp, List.getElem?_toArray, List.getElem?_cons_succ, List.getElem?_cons_zero, Region.wanted, if_true]
            refine Or.inl ?_
            have e0 : av.tmps.getD 4 undef = .pointer (some ⟨w.heap.size + 2, 0, none⟩) := hF.2.2 4 (by decide)
            have e0e : av.eval (.tmp 4) = .pointer (some ⟨w.heap.size + 2, 0, none⟩) := e0
            have e0g : av.tmps[4]?.getD undef = .pointer (some ⟨w.heap.size + 2, 0, none⟩) := by have := e0; simp only [Array.getD_eq_getD_getElem?] at this; exact this
            obtain ⟨f0, f1, f2⟩ := F2.out x hb'
            clear hw hF
            simp only [Oper.wp, execOp]
            try simp only [e0e]
            go_simp
            exact hK _ x (by first | rfl | (simp only [Nat.add_zero]; done) | (congr 1; omega)) (Below.refl _ _) (fun h => by cases h)
          · simp only [wpOp, List.getElem?_toArray, List.getElem?_cons_succ, List.getElem?_cons_zero, Region.wanted, if_true]
            refine Or.inl ?_
            have e0 : av.tmps.getD 2 undef = .pointer (some ⟨w.heap.size + 1, 0, none⟩) := hF.2.2 2 (by decide)
            have e0e : av.eval (.tmp 2) = .pointer (some ⟨w.heap.size + 1, 0, none⟩) := e0
            have e0g : av.tmps[2]?.getD undef = .pointer (some ⟨w.heap.size + 1, 0, none⟩) := by have := e0; simp only [Array.getD_eq_getD_getElem?] at this; exact this
            have e1 : av.tmps.getD 55 undef = .agg #[.bool true, .slice At hh qt, .slice Bt ct pt] := (hw 0 (by kernel_rfl))
            have e1e : av.eval (.tmp 55) = .agg #[.bool true, .slice At hh qt, .slice Bt ct pt] := e1
            have e1g : av.tmps[55]?.getD undef = .agg #[.bool true, .slice At hh qt, .slice Bt ct pt] := by have := e1; simp only [Array.getD_eq_getD_getElem?] at this; exact this
            have hrr := row_on RBu.out hb'
            have p0 := row_c hrr (i := 0) rfl
            have p1 := row_c hrr (i := 1) rfl
            have p2 := row_c hrr (i := 2) rfl
            have y0 := frozen_of_row _ _ 0 _ _ hrr
            have y1 := frozen_of_row _ _ 1 _ _ hrr
            have y2 := frozen_of_row _ _ 2 _ _ hrr
            have PS := put_self av 20
            clear hw hF
            simp only [Oper.wp, execOp]
            try simp only [e0e, e1e]
            go_simp
            have := hK (av.tmps.getD 20 undef) (((x.setCell ⟨w.heap.size + 1, 0, none⟩ (.bool true)).setCell ⟨w.heap.size + 1, 1, none⟩ (.slice At hh qt)).setCell ⟨w.heap.size + 1, 2, none⟩ (.slice Bt ct pt)) trivial (set_same3 hrr) (fun h => by cases h)
            replace this : K (av.put (some 20) (av.tmps.getD 20 undef)) _ := this
            rw [PS] at this
            exact this
          · simp only [wpOp, List.getElem?_toArray, List.getElem?_cons_succ, List.getElem?_cons_zero, Region.wanted, if_true]
            refine Or.inl ?_
            have e0 : av.tmps.getD 60 undef = .string ⟨mid.toArray⟩ := (hw 5 (by kernel_rfl))
            have e0e : av.eval (.tmp 60) = .string ⟨mid.toArray⟩ := e0
            have e0g : av.tmps[60]?.getD undef = .string ⟨mid.toArray⟩ := by have := e0; simp only [Array.getD_eq_getD_getElem?] at this; exact this
            clear hw hF
            simp only [Oper.wp, execOp]
            try simp only [e0e]
            go_simp
            exact hK _ x (by first | rfl | (simp only [Nat.add_zero]; done) | (congr 1; omega)) (Below.refl _ _) (fun h => by cases h)
        · intro av x hF hb' hR _
          have e0 : av.tmps.getD 55 undef = .agg #[.bool true, .slice At hh qt, .slice Bt ct pt] := hR 0 (by decide)
          have e1 : av.tmps.getD 56 undef = .pointer (some ⟨w.heap.size, 1, none⟩) := hR 1 (by decide)
          have e2 : av.tmps.getD 57 undef = .slice (some ⟨bm, om, none⟩) ks.length c := hR 2 (by decide)
          have e3 : av.tmps.getD 58 undef = .int .i64 (hh : Int) := hR 3 (by decide)
          have e4 : av.tmps.getD 59 undef = .pointer (some ⟨bm, om + hh, none⟩) := hR 4 (by decide)
          have e5 : av.tmps.getD 60 undef = .string ⟨mid.toArray⟩ := hR 5 (by decide)
          have e6 : av.tmps.getD 61 undef = .agg #[.bool true, .slice Au (ks.length - ct) qu, .slice Bu (ds.length - ct) pu] := hR 6 (by decide)
          have e8 : av.tmps.getD 3 undef = .string ⟨mid.toArray⟩ := hR 8 (by decide)
          rw [hF.fold (by kernel_rfl)]
          simp only [List.foldl_cons, List.foldl_nil, e0, e1, e2, e3, e4, e5, e6, e8]
          simp only [Act.put, List.setIfInBounds_toArray, List.set_cons_zero, List.set_cons_succ]
          change wpOps _ _ _ [9, 10] _ _
          simp only [wpOps_cons]
          clear e0 e1 e2 e3 e4 e5 e6 e8 hR hF
          have NB := Lib.hid (row_on RBu.out hb')
          have NC := Lib.hid (row_on RCu.out hb')
          have KB := Lib.hid (KKu.out.trans (hb'.mono KKu.out.size))
          have X1 := Lib.hid (And.intro (Vtu.out.1.below hb') (Vtu.out.2.below hb'))
          have X2 := Lib.hid (And.intro (Vu.out.1.below hb') (Vu.out.2.below hb'))
          clear hb'
          have p0 := row_c NB.out (i := 0) rfl
          have p1 := row_c NB.out (i := 1) rfl
          have p2 := row_c NB.out (i := 2) rfl
          have pz0 := frozen_of_row _ _ 0 _ _ NB.out
          have pz1 := frozen_of_row _ _ 1 _ _ NB.out
          have pz2 := frozen_of_row _ _ 2 _ _ NB.out
          have q0 := row_c NC.out (i := 0) rfl
          have q1 := row_c NC.out (i := 1) rfl
          have q2 := row_c NC.out (i := 2) rfl
          have qz0 := frozen_of_row _ _ 0 _ _ NC.out
          have qz1 := frozen_of_row _ _ 1 _ _ NC.out
          have qz2 := frozen_of_row _ _ 2 _ _ NC.out
          try rw [wpOps_cons]
          simp only [wpOp, List.getElem?_toArray, List.getElem?_cons_succ, List.getElem?_cons_zero, Region.wanted, if_true]
          refine Or.inl ?_
          simp only [Oper.wp, execOp]
          go_simp
          try rw [wpOps_cons]
          simp only [wpOp, List.getElem?_toArray, List.getElem?_cons_succ, List.getElem?_cons_zero, Region.wanted, if_true]
          refine Or.inl ?_
          simp only [Oper.wp, execOp]
          go_simp
          try simp only [wpOps]
          go_wp2
          refine bodyPost_ret (v := .tuple #[.agg #[.bool true, .slice At hh qt, .slice Bt ct pt], .string ⟨mid.toArray⟩, .agg #[.bool true, .slice Au (ks.length - ct) qu, .slice Bu (ds.length - ct) pu], .bool true]) (by simp [results, Try.results29, go_sem, p0, p1, p2, q0, q1, q2]) rfl ⟨At, qt, Bt, pt, Au, qu, Bu, pu, rfl, ?_, ?_, ?_, ?_, ?_⟩
          · exact ((X1.out.1.set Ft.out.1 (by omega) _ _).set Ft.out.1 (by omega) _ _).set Ft.out.1 (by omega) _ _
          · exact ((X1.out.2.set Ft.out.2 (by omega) _ _).set Ft.out.2 (by omega) _ _).set Ft.out.2 (by omega) _ _
          · exact ((X2.out.1.set Fu.out.1 (by omega) _ _).set Fu.out.1 (by omega) _ _).set Fu.out.1 (by omega) _ _
          · exact ((X2.out.2.set Fu.out.2 (by omega) _ _).set Fu.out.2 (by omega) _ _).set Fu.out.2 (by omega) _ _
          · exact ((KB.out.setCell (by first | (simp; done) | (simp; omega)) _).setCell (by first | (simp; done) | (simp; omega)) _).setCell (by first | (simp; done) | (simp; omega)) _
end Go.Proofs.Ytkbdcbcjbgbglaa
