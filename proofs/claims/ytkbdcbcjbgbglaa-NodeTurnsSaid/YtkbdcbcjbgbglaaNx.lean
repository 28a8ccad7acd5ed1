/-
  The document's Without.
-/
import Derived.Test.YtkbdcbcjbgbglaaNw
namespace Go.Proofs.Ytkbdcbcjbgbglaa
open Go.RowKit
set_option linter.unusedVariables false
set_option linter.unusedSimpArgs false
set_option maxHeartbeats 4000000 in
set_option maxRecDepth 100000 in
theorem rout_id (lf : Bool) (A : Option Addr) (c : Nat) (ks : List (List UInt8)) (B : Option Addr) (d : Nat) (ds : List Int) (k : Int) (w : World) (h : Rl sv w A c ks) (h2 : Rl nv w B d ds) (hk : k < 0 ∨ (0 ≤ k ∧ (ds.length : Int) ≤ k) ∨ (0 ≤ k ∧ k < ds.length ∧ ks.length = 0)) :
    Calls Try.prog 27 #[.agg #[.bool lf, .slice A ks.length c, .slice B ds.length d], .int .i64 k] w fun e w' => e = .returned (.agg #[.bool lf, .slice A ks.length c, .slice B ds.length d]) ∧ Below w.heap.size w w' := by
  obtain ⟨W, hW⟩ : ∃ W : World, W = (w.alloc (.cells #[.bool lf, .slice A ks.length c, .slice B ds.length d] 33)).alloc (.cells #[.bool false, .slice none 0 0, .slice none 0 0] 33) := ⟨_, rfl⟩
  have ra := row_on (heap_alloc_new w (.cells #[.bool lf, .slice A ks.length c, .slice B ds.length d] 33)) (bda _ (.cells #[.bool false, .slice none 0 0, .slice none 0 0] 33))
  have rb := heap_alloc_new (w.alloc (.cells #[.bool lf, .slice A ks.length c, .slice B ds.length d] 33)) (.cells #[.bool false, .slice none 0 0, .slice none 0 0] 33)
  simp only [World.size_alloc] at rb
  rw [← hW] at ra rb
  have RA := Lib.hid ra
  have RB := Lib.hid rb
  have BW := Lib.hid (show Below w.heap.size w W by rw [hW]; exact bon (bda _ _) (bda _ _))
  have HW := Lib.hid hW
  clear ra rb hW
  clear h h2
  rcases hk with hk | hk | hk
  · have e1 : decide (k < 0) = true := decide_eq_true hk
    clear hk
    have p0 := row_c RB.out (i := 0) rfl
    have p1 := row_c RB.out (i := 1) rfl
    have p2 := row_c RB.out (i := 2) rfl
    have y0 := frozen_of_row _ _ 0 _ _ RB.out
    have y1 := frozen_of_row _ _ 1 _ _ RB.out
    have y2 := frozen_of_row _ _ 2 _ _ RB.out
    have f0 := row_c RA.out (i := 0) rfl
    have f1 := row_c RA.out (i := 1) rfl
    have f2 := row_c RA.out (i := 2) rfl
    rw [HW.out] at p0 p1 p2 y0 y1 y2 f0 f1 f2
    go_enter Try.func27, Try.ntmps27
    go_wp2
    refine bodyPost_ret (v := .agg #[.bool lf, .slice A ks.length c, .slice B ds.length d]) (by simp [results, Try.results27, go_sem, p0, p1, p2]) rfl ⟨rfl, ?_⟩
    exact bon (bda _ _) (bda _ _)
  · have e1 : decide (k < 0) = false := decide_eq_false (by omega)
    have e2 : decide ((ds.length : Int) ≤ k) = true := decide_eq_true hk.2
    clear hk
    have p0 := row_c RB.out (i := 0) rfl
    have p1 := row_c RB.out (i := 1) rfl
    have p2 := row_c RB.out (i := 2) rfl
    have y0 := frozen_of_row _ _ 0 _ _ RB.out
    have y1 := frozen_of_row _ _ 1 _ _ RB.out
    have y2 := frozen_of_row _ _ 2 _ _ RB.out
    have f0 := row_c RA.out (i := 0) rfl
    have f1 := row_c RA.out (i := 1) rfl
    have f2 := row_c RA.out (i := 2) rfl
    rw [HW.out] at p0 p1 p2 y0 y1 y2 f0 f1 f2
    go_enter Try.func27, Try.ntmps27
    go_wp2
    refine bodyPost_ret (v := .agg #[.bool lf, .slice A ks.length c, .slice B ds.length d]) (by simp [results, Try.results27, go_sem, p0, p1, p2]) rfl ⟨rfl, ?_⟩
    exact bon (bda _ _) (bda _ _)
  · have e1 : decide (k < 0) = false := decide_eq_false (by omega)
    have e2 : decide ((ds.length : Int) ≤ k) = false := decide_eq_false (by omega)
    have e3 : (ks.length == 0) = true := by simp [hk.2.2]
    have e4 : ((ks.length : Int) == 0) = true := by simp [hk.2.2]
    clear hk
    have p0 := row_c RB.out (i := 0) rfl
    have p1 := row_c RB.out (i := 1) rfl
    have p2 := row_c RB.out (i := 2) rfl
    have y0 := frozen_of_row _ _ 0 _ _ RB.out
    have y1 := frozen_of_row _ _ 1 _ _ RB.out
    have y2 := frozen_of_row _ _ 2 _ _ RB.out
    have f0 := row_c RA.out (i := 0) rfl
    have f1 := row_c RA.out (i := 1) rfl
    have f2 := row_c RA.out (i := 2) rfl
    rw [HW.out] at p0 p1 p2 y0 y1 y2 f0 f1 f2
    go_enter Try.func27, Try.ntmps27
    go_wp2
    refine bodyPost_ret (v := .agg #[.bool lf, .slice A ks.length c, .slice B ds.length d]) (by simp [results, Try.results27, go_sem, p0, p1, p2]) rfl ⟨rfl, ?_⟩
    exact bon (bda _ _) (bda _ _)
set_option maxHeartbeats 4000000 in
set_option maxRecDepth 100000 in
theorem rout_f (A : Option Addr) (c : Nat) (ks : List (List UInt8)) (B : Option Addr) (d : Nat) (ds : List Int) (k k1 j j1 : Nat) (w : World) (h : Rl sv w A c ks) (h2 : Rl nv w B d ds) (hl : ks.length ≤ 3999990) (hsd : ds.length = ks.length + 1) (hk : k < ds.length) (h0 : 0 < ks.length)
    (hk1 : k + 1 = k1) (hj : j = k - 1) (hj1 : j + 1 = j1) (y1 y2 Z1 Z2 : List (List UInt8)) (u1 u2 X1 X2 : List Int)
    (e1 : ks.take j = y1) (e2 : ks.drop j1 = y2) (E1 : [] ++ y1 = Z1) (E2 : Z1 ++ y2 = Z2) (q1 : ds.take k = u1) (q2 : ds.drop k1 = u2) (Q1 : [] ++ u1 = X1) (Q2 : X1 ++ u2 = X2) :
    Calls Try.prog 27 #[.agg #[.bool false, .slice A ks.length c, .slice B ds.length d], .int .i64 (k : Int)] w fun e w' => ∃ A' c' B' d', e = .returned (.agg #[.bool false, .slice A' Z2.length c', .slice B' X2.length d']) ∧ Rl sv w' A' c' Z2 ∧ Rl nv w' B' d' X2 ∧ Below w.heap.size w w' := by
  obtain ⟨Ka, ca, hka, rka⟩ := cut_to et_s (g := sv) A c ks j (by omega) h.1
  obtain ⟨Da, da, hda, rda⟩ := cut_to et_i (g := nv) B d ds k (by omega) h2.1
  obtain ⟨Kb, cb, hkb, rkb⟩ := cut_from et_s (g := sv) A c ks j1 (by omega) h.1
  obtain ⟨Db, db, hdb, rdb⟩ := cut_from et_i (g := nv) B d ds k1 (by omega) h2.1
  rw [e1] at rka
  rw [q1] at rda
  rw [e2] at rkb
  rw [q2] at rdb
  have L1 := Lib.hid (show j = y1.length by rw [← e1, List.length_take]; omega)
  have L2 := Lib.hid (show k = u1.length by rw [← q1, List.length_take]; omega)
  have L3 := Lib.hid (show ks.length - j1 = y2.length by rw [← e2, List.length_drop])
  have L4 := Lib.hid (show ds.length - k1 = u2.length by rw [← q2, List.length_drop])
  have EK := Lib.hid (And.intro E1 E2)
  have EQ := Lib.hid (And.intro Q1 Q2)
  have BN := Lib.hid (show Z1.length ≤ 4000000 ∧ Z2.length ≤ 4000000 ∧ X1.length ≤ 4000000 ∧ X2.length ≤ 4000000 by
    have h1 := L1.out; have h2 := L2.out; have h3 := L3.out; have h4 := L4.out
    rw [← E2, ← E1, ← Q2, ← Q1]
    simp only [List.length_append, List.length_nil]
    omega)
  have RKA := Lib.hid (fun V (hV : Below w.heap.size w V) => rka V (h.below hV))
  have RDA := Lib.hid (fun V (hV : Below w.heap.size w V) => rda V (h2.below hV))
  have RKB := Lib.hid (fun V (hV : Below w.heap.size w V) => rkb V (h.below hV))
  have RDB := Lib.hid (fun V (hV : Below w.heap.size w V) => rdb V (h2.below hV))
  have w1 : IntKind.i64.wrap ((j : Int) + 1) = (j1 : Int) := by rw [IntWalk.i64_in _ (by omega)]; omega
  have w2 : IntKind.i64.wrap ((k : Int) + 1) = (k1 : Int) := by rw [IntWalk.i64_in _ (by omega)]; omega
  have w3 : IntKind.i64.wrap ((k : Int) - 1) = (k : Int) - 1 := IntWalk.i64_in _ (by omega)
  have mx : max ((k : Int) - 1) 0 = (j : Int) := by omega
  have g1 : decide ((k : Int) < 0) = false := decide_eq_false (by omega)
  have g2 : decide ((ds.length : Int) ≤ (k : Int)) = false := decide_eq_false (by omega)
  have g2' : decide (ds.length ≤ k) = false := decide_eq_false (by omega)
  have g3 : (ks.length == 0) = false := by simp; intro h; rw [h] at h0; simp at h0
  have g4 : ((ks.length : Int) == 0) = false := by simp; intro h; rw [h] at h0; simp at h0
  obtain ⟨W, hW⟩ : ∃ W : World, W = (w.alloc (.cells #[.bool false, .slice A ks.length c, .slice B ds.length d] 33)).alloc (.cells #[.bool false, .slice none 0 0, .slice none 0 0] 33) := ⟨_, rfl⟩
  have ra := row_on (heap_alloc_new w (.cells #[.bool false, .slice A ks.length c, .slice B ds.length d] 33)) (bda _ (.cells #[.bool false, .slice none 0 0, .slice none 0 0] 33))
  have rb := heap_alloc_new (w.alloc (.cells #[.bool false, .slice A ks.length c, .slice B ds.length d] 33)) (.cells #[.bool false, .slice none 0 0, .slice none 0 0] 33)
  simp only [World.size_alloc] at rb
  rw [← hW] at ra rb
  have RW := Lib.hid ra
  have RR := Lib.hid rb
  have BW := Lib.hid (show Below w.heap.size w W by rw [hW]; exact bon (bda _ _) (bda _ _))
  have HW := Lib.hid hW
  clear ra rb hW
  clear h h2 hl hsd hk h0 hk1 hj hj1 e1 e2 E1 E2 q1 q2 Q1 Q2 rka rda rkb rdb
  have f0 := row_c RW.out (i := 0) rfl
  have f1 := row_c RW.out (i := 1) rfl
  have f2 := row_c RW.out (i := 2) rfl
  rw [HW.out] at f0 f1 f2
  go_enter Try.func27, Try.ntmps27
  go_upto_region 7 with (fail)
  rw [← HW.out]
  obtain ⟨Vs, hVs⟩ : ∃ z : World, z = W.alloc (.cells #[.bool false, .slice none 0 0, .slice none 0 0] 33) := ⟨_, rfl⟩
  have SW := heap_lt RR.out
  have SZ : W.heap.size = w.heap.size + 2 := by rw [HW.out]; simp
  have BX := Lib.hid (Bx.fresh (w := w) (V := Vs) (T := 33) (lf := false) (g := w.heap.size + 2) (base := w.heap.size + 3) (by rw [← SZ, hVs]; exact heap_alloc_new _ _) (by rw [hVs]; exact BW.out.trans ((bda _ _).mono BW.out.size)) (by rw [hVs]; simp; omega) ⟨by omega, by omega⟩)
  have RWx := Lib.hid (show Vs.heap[w.heap.size]? = some _ by rw [hVs]; exact row_on RW.out (bda _ _))
  have RRx := Lib.hid (show Vs.heap[w.heap.size + 1]? = some _ by rw [hVs]; exact row_on RR.out (bda _ _))
  clear RW RR BW SW SZ
  have RW := RWx
  have RR := RRx
  clear RWx RRx
  rw [← hVs]
  clear hVs HW f0 f1 f2 g1 g2 g2' g3 g4 w3 mx
  refine wp_operands (W := Vs) rfl 6 [33, 34, 35, 36, 37, 38] (fun i u x => match i with | 0 => u = .pointer (some ⟨w.heap.size + 2, 1, none⟩) | 1 => u = .slice none 0 0 | 2 => u = .pointer (some ⟨w.heap.size, 1, none⟩) | 3 => u = .slice A ks.length c | 4 => u = .int .i64 (j : Int) | 5 => u = .slice Ka (j) ca | _ => True) (fun _ => false)
    (by decide) rfl (by kernel_rfl) (by kernel_rfl) (by decide) (by kernel_rfl) ?_ (fun _ _ _ h => by cases h) ?_ ?_
  · intro i u x x' hi hR hb'
    have hi' : i = 0 ∨ i = 1 ∨ i = 2 ∨ i = 3 ∨ i = 4 ∨ i = 5 := by omega
    rcases hi' with rfl | rfl | rfl | rfl | rfl | rfl
    · exact hR
    · exact hR
    · exact hR
    · exact hR
    · exact hR
    · exact hR
  · intro i av x K hi hF hb' hw hK
    have hi' : i = 0 ∨ i = 1 ∨ i = 2 ∨ i = 3 ∨ i = 4 ∨ i = 5 := by omega
    rcases hi' with rfl | rfl | rfl | rfl | rfl | rfl
    · simp only [wpOp, List.getElem?_toArray, List.getElem?_cons_zero, Region.wanted, if_true]
      refine Or.inl ?_
      have e0 : av.tmps.getD 6 undef = .pointer (some ⟨w.heap.size + 2, 0, none⟩) := hF.2.2 6 (by decide)
      have e0e : av.eval (.tmp 6) = .pointer (some ⟨w.heap.size + 2, 0, none⟩) := e0
      have e0g : av.tmps[6]?.getD undef = .pointer (some ⟨w.heap.size + 2, 0, none⟩) := by have := e0; simp only [Array.getD_eq_getD_getElem?] at this; exact this
      clear hw hF
      simp only [Oper.wp, execOp]
      try simp only [e0e]
      go_simp
      exact hK _ x (by first | rfl | (simp only [Nat.add_zero]; done) | (congr 1; omega)) (Below.refl _ _) (fun h => by cases h)
    · simp only [wpOp, List.getElem?_toArray, List.getElem?_cons_succ, List.getElem?_cons_zero, Region.wanted, if_true]
      refine Or.inl ?_
      have e0 : av.tmps.getD 33 undef = .pointer (some ⟨w.heap.size + 2, 1, none⟩) := (hw 0 (by kernel_rfl))
      have e0e : av.eval (.tmp 33) = .pointer (some ⟨w.heap.size + 2, 1, none⟩) := e0
      have e0g : av.tmps[33]?.getD undef = .pointer (some ⟨w.heap.size + 2, 1, none⟩) := by have := e0; simp only [Array.getD_eq_getD_getElem?] at this; exact this
      obtain ⟨fo0, fo1, fo2⟩ := BX.out.f hb'
      clear hw hF
      simp only [Oper.wp, execOp]
      try simp only [e0e]
      go_simp
      exact hK _ x (by first | rfl | (simp only [Nat.add_zero]; done) | (congr 1; omega)) (Below.refl _ _) (fun h => by cases h)
    · simp only [wpOp, List.getElem?_toArray, List.getElem?_cons_succ, List.getElem?_cons_zero, Region.wanted, if_true]
      refine Or.inl ?_
      have e0 : av.tmps.getD 2 undef = .pointer (some ⟨w.heap.size, 0, none⟩) := hF.2.2 2 (by decide)
      have e0e : av.eval (.tmp 2) = .pointer (some ⟨w.heap.size, 0, none⟩) := e0
      have e0g : av.tmps[2]?.getD undef = .pointer (some ⟨w.heap.size, 0, none⟩) := by have := e0; simp only [Array.getD_eq_getD_getElem?] at this; exact this
      clear hw hF
      simp only [Oper.wp, execOp]
      try simp only [e0e]
      go_simp
      exact hK _ x (by first | rfl | (simp only [Nat.add_zero]; done) | (congr 1; omega)) (Below.refl _ _) (fun h => by cases h)
    · simp only [wpOp, List.getElem?_toArray, List.getElem?_cons_succ, List.getElem?_cons_zero, Region.wanted, if_true]
      refine Or.inl ?_
      have e0 : av.tmps.getD 35 undef = .pointer (some ⟨w.heap.size, 1, none⟩) := (hw 2 (by kernel_rfl))
      have e0e : av.eval (.tmp 35) = .pointer (some ⟨w.heap.size, 1, none⟩) := e0
      have e0g : av.tmps[35]?.getD undef = .pointer (some ⟨w.heap.size, 1, none⟩) := by have := e0; simp only [Array.getD_eq_getD_getElem?] at this; exact this
      have fn := row_c (row_on RW.out hb') (i := 1) rfl
      clear hw hF
      simp only [Oper.wp, execOp]
      try simp only [e0e]
      go_simp
      exact hK _ x (by first | rfl | (simp only [Nat.add_zero]; done) | (congr 1; omega)) (Below.refl _ _) (fun h => by cases h)
    · simp only [wpOp, List.getElem?_toArray, List.getElem?_cons_succ, List.getElem?_cons_zero, Region.wanted, if_true]
      refine Or.inl ?_
      have e0 : av.tmps.getD 5 undef = .int .i64 (j : Int) := hF.2.2 5 (by decide)
      have e0e : av.eval (.tmp 5) = .int .i64 (j : Int) := e0
      have e0g : av.tmps[5]?.getD undef = .int .i64 (j : Int) := by have := e0; simp only [Array.getD_eq_getD_getElem?] at this; exact this
      clear hw hF
      simp only [Oper.wp, execOp]
      try simp only [e0e]
      go_simp
      exact hK _ x (by first | rfl | (simp only [Nat.add_zero]; done) | (congr 1; omega)) (Below.refl _ _) (fun h => by cases h)
    · simp only [wpOp, List.getElem?_toArray, List.getElem?_cons_succ, List.getElem?_cons_zero, Region.wanted, if_true]
      refine Or.inl ?_
      have e0 : av.tmps.getD 36 undef = .slice A ks.length c := (hw 3 (by kernel_rfl))
      have e0e : av.eval (.tmp 36) = .slice A ks.length c := e0
      have e0g : av.tmps[36]?.getD undef = .slice A ks.length c := by have := e0; simp only [Array.getD_eq_getD_getElem?] at this; exact this
      have e1 : av.tmps.getD 37 undef = .int .i64 (j : Int) := (hw 4 (by kernel_rfl))
      have e1e : av.eval (.tmp 37) = .int .i64 (j : Int) := e1
      have e1g : av.tmps[37]?.getD undef = .int .i64 (j : Int) := by have := e1; simp only [Array.getD_eq_getD_getElem?] at this; exact this
      clear hw hF
      simp only [Oper.wp, execOp]
      try simp only [e0e, e1e]
      go_simp
      exact hK _ x (by first | rfl | (simp only [Nat.add_zero]; done) | (congr 1; omega)) (Below.refl _ _) (fun h => by cases h)
  intro av x hF hb' hR _
  have e0 : av.tmps.getD 33 undef = .pointer (some ⟨w.heap.size + 2, 1, none⟩) := hR 0 (by decide)
  have e1 : av.tmps.getD 34 undef = .slice none 0 0 := hR 1 (by decide)
  have e2 : av.tmps.getD 35 undef = .pointer (some ⟨w.heap.size, 1, none⟩) := hR 2 (by decide)
  have e3 : av.tmps.getD 36 undef = .slice A ks.length c := hR 3 (by decide)
  have e4 : av.tmps.getD 37 undef = .int .i64 (j : Int) := hR 4 (by decide)
  have e5 : av.tmps.getD 38 undef = .slice Ka (j) ca := hR 5 (by decide)
  rw [hF.fold (by kernel_rfl)]
  simp only [List.foldl_cons, List.foldl_nil, e0, e1, e2, e3, e4, e5]
  simp only [Act.put, List.setIfInBounds_toArray, List.set_cons_zero, List.set_cons_succ]
  change wpOps _ _ _ [6, 7, 8] _ _
  simp only [wpOps_cons]
  clear e0 e1 e2 e3 e4 e5 hR hF
  have BY := Lib.hid (BX.out.below hb')
  have RW := Lib.hid (row_on RW.out hb')
  have RR := Lib.hid (row_on RR.out hb')
  clear hb'
  simp only [wpOp, List.getElem?_toArray, List.getElem?_cons_succ, List.getElem?_cons_zero, Region.wanted, if_true]
  refine Or.inl ?_
  refine wp_append2 sv_one et_s (.tmp 34) (.tmp 38) rfl (w.heap.size + 3) (.slice none 0 0) ([] : List (List UInt8)) y1 Z1 Ka ca (j) rfl BY.out.o1 (RKA.out _ BY.out.kb) L1.out rfl EK.out.1 BN.out.1 BY.out.bz ?_
  intro A9 c9 x9 ho9 hg9 hn9
  obtain ⟨ABX1, hA2⟩ : ∃ z, A9 = z := ⟨_, rfl⟩
  obtain ⟨cBX1, hc2⟩ : ∃ z, c9 = z := ⟨_, rfl⟩
  rw [hA2, hc2] at ho9 hn9 ⊢
  have BN := Lib.hid (BY.out.push1 ho9 hg9 hn9)
  have N9 := Lib.hid (BY.out.row1 hg9 BY.out.lt.2 BY.out.row)
  obtain ⟨VBX1, hU⟩ : ∃ U : World, U = x9.setCell ⟨w.heap.size + 2, 1, none⟩ (.slice ABX1 Z1.length cBX1) := ⟨_, rfl⟩
  rw [← hU] at BN
  have RWz := Lib.hid (show VBX1.heap[w.heap.size]? = some _ by rw [hU]; exact row_far (BY.out.row1 hg9 (by omega) RW.out) (by omega) _)
  have RRz := Lib.hid (show VBX1.heap[w.heap.size + 1]? = some _ by rw [hU]; exact row_far (BY.out.row1 hg9 (by omega) RR.out) (by omega) _)
  have f9 := row_c N9.out (i := 1) rfl
  have q9 := frozen_of_row _ _ 1 _ _ N9.out
  clear ho9 hg9 hn9 hA2 hc2 BY N9 BX RW RR
  have BX := BN
  clear BN
  have RW := RWz
  clear RWz
  have RR := RRz
  clear RRz
  go_simp
  try rw [wpOps_cons]
  simp only [wpOp, List.getElem?_toArray, List.getElem?_cons_succ, List.getElem?_cons_zero, Region.wanted, if_true]
  refine Or.inl ?_
  simp only [Oper.wp, execOp]
  go_simp
  try rw [wpOps_cons]
  simp only [wpOp, List.getElem?_toArray, List.getElem?_cons_succ, List.getElem?_cons_zero, Region.wanted, if_true]
  refine Or.inl ?_
  simp only [Oper.wp, execOp]
  go_simp
  try simp only [wpOps]
  rw [← hU]
  clear hU f9 q9
  go_upto_region 8 with (fail)
  refine wp_operands (W := VBX1) rfl 7 [41, 42, 43, 44, 45, 46, 47] (fun i u x => match i with | 0 => u = .pointer (some ⟨w.heap.size + 2, 1, none⟩) | 1 => u = .slice ABX1 Z1.length cBX1 | 2 => u = .pointer (some ⟨w.heap.size, 1, none⟩) | 3 => u = .slice A ks.length c | 4 => u = .int .i64 (j : Int) | 5 => u = .int .i64 (j1 : Int) | 6 => u = .slice Kb (ks.length - j1) cb | _ => True) (fun _ => false)
    (by decide) rfl (by kernel_rfl) (by kernel_rfl) (by decide) (by kernel_rfl) ?_ (fun _ _ _ h => by cases h) ?_ ?_
  · intro i u x x' hi hR hb'
    have hi' : i = 0 ∨ i = 1 ∨ i = 2 ∨ i = 3 ∨ i = 4 ∨ i = 5 ∨ i = 6 := by omega
    rcases hi' with rfl | rfl | rfl | rfl | rfl | rfl | rfl
    · exact hR
    · exact hR
    · exact hR
    · exact hR
    · exact hR
    · exact hR
    · exact hR
  · intro i av x K hi hF hb' hw hK
    have hi' : i = 0 ∨ i = 1 ∨ i = 2 ∨ i = 3 ∨ i = 4 ∨ i = 5 ∨ i = 6 := by omega
    rcases hi' with rfl | rfl | rfl | rfl | rfl | rfl | rfl
    · simp only [wpOp, List.getElem?_toArray, List.getElem?_cons_zero, Region.wanted, if_true]
      refine Or.inl ?_
      have e0 : av.tmps.getD 6 undef = .pointer (some ⟨w.heap.size + 2, 0, none⟩) := hF.2.2 6 (by decide)
      have e0e : av.eval (.tmp 6) = .pointer (some ⟨w.heap.size + 2, 0, none⟩) := e0
      have e0g : av.tmps[6]?.getD undef = .pointer (some ⟨w.heap.size + 2, 0, none⟩) := by have := e0; simp only [Array.getD_eq_getD_getElem?] at this; exact this
      clear hw hF
      simp only [Oper.wp, execOp]
      try simp only [e0e]
      go_simp
      exact hK _ x (by first | rfl | (simp only [Nat.add_zero]; done) | (congr 1; omega)) (Below.refl _ _) (fun h => by cases h)
    · simp only [wpOp, List.getElem?_toArray, List.getElem?_cons_succ, List.getElem?_cons_zero, Region.wanted, if_true]
      refine Or.inl ?_
      have e0 : av.tmps.getD 41 undef = .pointer (some ⟨w.heap.size + 2, 1, none⟩) := (hw 0 (by kernel_rfl))
      have e0e : av.eval (.tmp 41) = .pointer (some ⟨w.heap.size + 2, 1, none⟩) := e0
      have e0g : av.tmps[41]?.getD undef = .pointer (some ⟨w.heap.size + 2, 1, none⟩) := by have := e0; simp only [Array.getD_eq_getD_getElem?] at this; exact this
      obtain ⟨fo0, fo1, fo2⟩ := BX.out.f hb'
      clear hw hF
      simp only [Oper.wp, execOp]
      try simp only [e0e]
      go_simp
      exact hK _ x (by first | rfl | (simp only [Nat.add_zero]; done) | (congr 1; omega)) (Below.refl _ _) (fun h => by cases h)
    · simp only [wpOp, List.getElem?_toArray, List.getElem?_cons_succ, List.getElem?_cons_zero, Region.wanted, if_true]
      refine Or.inl ?_
      have e0 : av.tmps.getD 2 undef = .pointer (some ⟨w.heap.size, 0, none⟩) := hF.2.2 2 (by decide)
      have e0e : av.eval (.tmp 2) = .pointer (some ⟨w.heap.size, 0, none⟩) := e0
      have e0g : av.tmps[2]?.getD undef = .pointer (some ⟨w.heap.size, 0, none⟩) := by have := e0; simp only [Array.getD_eq_getD_getElem?] at this; exact this
      clear hw hF
      simp only [Oper.wp, execOp]
      try simp only [e0e]
      go_simp
      exact hK _ x (by first | rfl | (simp only [Nat.add_zero]; done) | (congr 1; omega)) (Below.refl _ _) (fun h => by cases h)
    · simp only [wpOp, List.getElem?_toArray, List.getElem?_cons_succ, List.getElem?_cons_zero, Region.wanted, if_true]
      refine Or.inl ?_
      have e0 : av.tmps.getD 43 undef = .pointer (some ⟨w.heap.size, 1, none⟩) := (hw 2 (by kernel_rfl))
      have e0e : av.eval (.tmp 43) = .pointer (some ⟨w.heap.size, 1, none⟩) := e0
      have e0g : av.tmps[43]?.getD undef = .pointer (some ⟨w.heap.size, 1, none⟩) := by have := e0; simp only [Array.getD_eq_getD_getElem?] at this; exact this
      have fn := row_c (row_on RW.out hb') (i := 1) rfl
      clear hw hF
      simp only [Oper.wp, execOp]
      try simp only [e0e]
      go_simp
      exact hK _ x (by first | rfl | (simp only [Nat.add_zero]; done) | (congr 1; omega)) (Below.refl _ _) (fun h => by cases h)
    · simp only [wpOp, List.getElem?_toArray, List.getElem?_cons_succ, List.getElem?_cons_zero, Region.wanted, if_true]
      refine Or.inl ?_
      have e0 : av.tmps.getD 5 undef = .int .i64 (j : Int) := hF.2.2 5 (by decide)
      have e0e : av.eval (.tmp 5) = .int .i64 (j : Int) := e0
      have e0g : av.tmps[5]?.getD undef = .int .i64 (j : Int) := by have := e0; simp only [Array.getD_eq_getD_getElem?] at this; exact this
      clear hw hF
      simp only [Oper.wp, execOp]
      try simp only [e0e]
      go_simp
      exact hK _ x (by first | rfl | (simp only [Nat.add_zero]; done) | (congr 1; omega)) (Below.refl _ _) (fun h => by cases h)
    · simp only [wpOp, List.getElem?_toArray, List.getElem?_cons_succ, List.getElem?_cons_zero, Region.wanted, if_true]
      refine Or.inl ?_
      have e0 : av.tmps.getD 45 undef = .int .i64 (j : Int) := (hw 4 (by kernel_rfl))
      have e0e : av.eval (.tmp 45) = .int .i64 (j : Int) := e0
      have e0g : av.tmps[45]?.getD undef = .int .i64 (j : Int) := by have := e0; simp only [Array.getD_eq_getD_getElem?] at this; exact this
      clear hw hF
      simp only [Oper.wp, execOp]
      try simp only [e0e]
      go_simp
      exact hK _ x (by first | rfl | (simp only [Nat.add_zero]; done) | (congr 1; omega)) (Below.refl _ _) (fun h => by cases h)
    · simp only [wpOp, List.getElem?_toArray, List.getElem?_cons_succ, List.getElem?_cons_zero, Region.wanted, if_true]
      refine Or.inl ?_
      have e0 : av.tmps.getD 44 undef = .slice A ks.length c := (hw 3 (by kernel_rfl))
      have e0e : av.eval (.tmp 44) = .slice A ks.length c := e0
      have e0g : av.tmps[44]?.getD undef = .slice A ks.length c := by have := e0; simp only [Array.getD_eq_getD_getElem?] at this; exact this
      have e1 : av.tmps.getD 46 undef = .int .i64 (j1 : Int) := (hw 5 (by kernel_rfl))
      have e1e : av.eval (.tmp 46) = .int .i64 (j1 : Int) := e1
      have e1g : av.tmps[46]?.getD undef = .int .i64 (j1 : Int) := by have := e1; simp only [Array.getD_eq_getD_getElem?] at this; exact this
      clear hw hF
      simp only [Oper.wp, execOp]
      try simp only [e0e, e1e]
      go_simp
      exact hK _ x (by first | rfl | (simp only [Nat.add_zero]; done) | (congr 1; omega)) (Below.refl _ _) (fun h => by cases h)
  intro av x hF hb' hR _
  have e0 : av.tmps.getD 41 undef = .pointer (some ⟨w.heap.size + 2, 1, none⟩) := hR 0 (by decide)
  have e1 : av.tmps.getD 42 undef = .slice ABX1 Z1.length cBX1 := hR 1 (by decide)
  have e2 : av.tmps.getD 43 undef = .pointer (some ⟨w.heap.size, 1, none⟩) := hR 2 (by decide)
  have e3 : av.tmps.getD 44 undef = .slice A ks.length c := hR 3 (by decide)
  have e4 : av.tmps.getD 45 undef = .int .i64 (j : Int) := hR 4 (by decide)
  have e5 : av.tmps.getD 46 undef = .int .i64 (j1 : Int) := hR 5 (by decide)
  have e6 : av.tmps.getD 47 undef = .slice Kb (ks.length - j1) cb := hR 6 (by decide)
  rw [hF.fold (by kernel_rfl)]
  simp only [List.foldl_cons, List.foldl_nil, e0, e1, e2, e3, e4, e5, e6]
  simp only [Act.put, List.setIfInBounds_toArray, List.set_cons_zero, List.set_cons_succ]
  change wpOps _ _ _ [7, 8, 9] _ _
  simp only [wpOps_cons]
  clear e0 e1 e2 e3 e4 e5 e6 hR hF
  have BY := Lib.hid (BX.out.below hb')
  have RW := Lib.hid (row_on RW.out hb')
  have RR := Lib.hid (row_on RR.out hb')
  clear hb'
  simp only [wpOp, List.getElem?_toArray, List.getElem?_cons_succ, List.getElem?_cons_zero, Region.wanted, if_true]
  refine Or.inl ?_
  refine wp_append2 sv_one et_s (.tmp 42) (.tmp 47) rfl (w.heap.size + 3) (.slice ABX1 Z1.length cBX1) Z1 y2 Z2 Kb cb (ks.length - j1) rfl BY.out.o1 (RKB.out _ BY.out.kb) L3.out rfl EK.out.2 BN.out.2.1 BY.out.bz ?_
  intro A9 c9 x9 ho9 hg9 hn9
  obtain ⟨ABX2, hA2⟩ : ∃ z, A9 = z := ⟨_, rfl⟩
  obtain ⟨cBX2, hc2⟩ : ∃ z, c9 = z := ⟨_, rfl⟩
  rw [hA2, hc2] at ho9 hn9 ⊢
  have BN := Lib.hid (BY.out.push1 ho9 hg9 hn9)
  have N9 := Lib.hid (BY.out.row1 hg9 BY.out.lt.2 BY.out.row)
  obtain ⟨VBX2, hU⟩ : ∃ U : World, U = x9.setCell ⟨w.heap.size + 2, 1, none⟩ (.slice ABX2 Z2.length cBX2) := ⟨_, rfl⟩
  rw [← hU] at BN
  have RWz := Lib.hid (show VBX2.heap[w.heap.size]? = some _ by rw [hU]; exact row_far (BY.out.row1 hg9 (by omega) RW.out) (by omega) _)
  have RRz := Lib.hid (show VBX2.heap[w.heap.size + 1]? = some _ by rw [hU]; exact row_far (BY.out.row1 hg9 (by omega) RR.out) (by omega) _)
  have f9 := row_c N9.out (i := 1) rfl
  have q9 := frozen_of_row _ _ 1 _ _ N9.out
  clear ho9 hg9 hn9 hA2 hc2 BY N9 BX RW RR
  have BX := BN
  clear BN
  have RW := RWz
  clear RWz
  have RR := RRz
  clear RRz
  go_simp
  try rw [wpOps_cons]
  simp only [wpOp, List.getElem?_toArray, List.getElem?_cons_succ, List.getElem?_cons_zero, Region.wanted, if_true]
  refine Or.inl ?_
  simp only [Oper.wp, execOp]
  go_simp
  try rw [wpOps_cons]
  simp only [wpOp, List.getElem?_toArray, List.getElem?_cons_succ, List.getElem?_cons_zero, Region.wanted, if_true]
  refine Or.inl ?_
  simp only [Oper.wp, execOp]
  go_simp
  try simp only [wpOps]
  rw [← hU]
  clear hU f9 q9
  go_upto_region 9 with (fail)
  refine wp_operands (W := VBX2) rfl 6 [50, 51, 52, 53, 54, 55] (fun i u x => match i with | 0 => u = .pointer (some ⟨w.heap.size + 2, 2, none⟩) | 1 => u = .slice none 0 0 | 2 => u = .pointer (some ⟨w.heap.size, 2, none⟩) | 3 => u = .slice B ds.length d | 4 => u = .int .i64 (k : Int) | 5 => u = .slice Da (k) da | _ => True) (fun _ => false)
    (by decide) rfl (by kernel_rfl) (by kernel_rfl) (by decide) (by kernel_rfl) ?_ (fun _ _ _ h => by cases h) ?_ ?_
  · intro i u x x' hi hR hb'
    have hi' : i = 0 ∨ i = 1 ∨ i = 2 ∨ i = 3 ∨ i = 4 ∨ i = 5 := by omega
    rcases hi' with rfl | rfl | rfl | rfl | rfl | rfl
    · exact hR
    · exact hR
    · exact hR
    · exact hR
    · exact hR
    · exact hR
  · intro i av x K hi hF hb' hw hK
    have hi' : i = 0 ∨ i = 1 ∨ i = 2 ∨ i = 3 ∨ i = 4 ∨ i = 5 := by omega
    rcases hi' with rfl | rfl | rfl | rfl | rfl | rfl
    · simp only [wpOp, List.getElem?_toArray, List.getElem?_cons_zero, Region.wanted, if_true]
      refine Or.inl ?_
      have e0 : av.tmps.getD 6 undef = .pointer (some ⟨w.heap.size + 2, 0, none⟩) := hF.2.2 6 (by decide)
      have e0e : av.eval (.tmp 6) = .pointer (some ⟨w.heap.size + 2, 0, none⟩) := e0
      have e0g : av.tmps[6]?.getD undef = .pointer (some ⟨w.heap.size + 2, 0, none⟩) := by have := e0; simp only [Array.getD_eq_getD_getElem?] at this; exact this
      clear hw hF
      simp only [Oper.wp, execOp]
      try simp only [e0e]
      go_simp
      exact hK _ x (by first | rfl | (simp only [Nat.add_zero]; done) | (congr 1; omega)) (Below.refl _ _) (fun h => by cases h)
    · simp only [wpOp, List.getElem?_toArray, List.getElem?_cons_succ, List.getElem?_cons_zero, Region.wanted, if_true]
      refine Or.inl ?_
      have e0 : av.tmps.getD 50 undef = .pointer (some ⟨w.heap.size + 2, 2, none⟩) := (hw 0 (by kernel_rfl))
      have e0e : av.eval (.tmp 50) = .pointer (some ⟨w.heap.size + 2, 2, none⟩) := e0
      have e0g : av.tmps[50]?.getD undef = .pointer (some ⟨w.heap.size + 2, 2, none⟩) := by have := e0; simp only [Array.getD_eq_getD_getElem?] at this; exact this
      obtain ⟨fo0, fo1, fo2⟩ := BX.out.f hb'
      clear hw hF
      simp only [Oper.wp, execOp]
      try simp only [e0e]
      go_simp
      exact hK _ x (by first | rfl | (simp only [Nat.add_zero]; done) | (congr 1; omega)) (Below.refl _ _) (fun h => by cases h)
    · simp only [wpOp, List.getElem?_toArray, List.getElem?_cons_succ, List.getElem?_cons_zero, Region.wanted, if_true]
      refine Or.inl ?_
      have e0 : av.tmps.getD 2 undef = .pointer (some ⟨w.heap.size, 0, none⟩) := hF.2.2 2 (by decide)
      have e0e : av.eval (.tmp 2) = .pointer (some ⟨w.heap.size, 0, none⟩) := e0
      have e0g : av.tmps[2]?.getD undef = .pointer (some ⟨w.heap.size, 0, none⟩) := by have := e0; simp only [Array.getD_eq_getD_getElem?] at this; exact this
      clear hw hF
      simp only [Oper.wp, execOp]
      try simp only [e0e]
      go_simp
      exact hK _ x (by first | rfl | (simp only [Nat.add_zero]; done) | (congr 1; omega)) (Below.refl _ _) (fun h => by cases h)
    · simp only [wpOp, List.getElem?_toArray, List.getElem?_cons_succ, List.getElem?_cons_zero, Region.wanted, if_true]
      refine Or.inl ?_
      have e0 : av.tmps.getD 52 undef = .pointer (some ⟨w.heap.size, 2, none⟩) := (hw 2 (by kernel_rfl))
      have e0e : av.eval (.tmp 52) = .pointer (some ⟨w.heap.size, 2, none⟩) := e0
      have e0g : av.tmps[52]?.getD undef = .pointer (some ⟨w.heap.size, 2, none⟩) := by have := e0; simp only [Array.getD_eq_getD_getElem?] at this; exact this
      have fn := row_c (row_on RW.out hb') (i := 2) rfl
      clear hw hF
      simp only [Oper.wp, execOp]
      try simp only [e0e]
      go_simp
      exact hK _ x (by first | rfl | (simp only [Nat.add_zero]; done) | (congr 1; omega)) (Below.refl _ _) (fun h => by cases h)
    · simp only [wpOp, List.getElem?_toArray, List.getElem?_cons_succ, List.getElem?_cons_zero, Region.wanted, if_true]
      refine Or.inl ?_
      have e0 : av.tmps.getD 1 undef = .int .i64 (k : Int) := hF.2.2 1 (by decide)
      have e0e : av.eval (.tmp 1) = .int .i64 (k : Int) := e0
      have e0g : av.tmps[1]?.getD undef = .int .i64 (k : Int) := by have := e0; simp only [Array.getD_eq_getD_getElem?] at this; exact this
      clear hw hF
      simp only [Oper.wp, execOp]
      try simp only [e0e]
      go_simp
      exact hK _ x (by first | rfl | (simp only [Nat.add_zero]; done) | (congr 1; omega)) (Below.refl _ _) (fun h => by cases h)
    · simp only [wpOp, List.getElem?_toArray, List.getElem?_cons_succ, List.getElem?_cons_zero, Region.wanted, if_true]
      refine Or.inl ?_
      have e0 : av.tmps.getD 53 undef = .slice B ds.length d := (hw 3 (by kernel_rfl))
      have e0e : av.eval (.tmp 53) = .slice B ds.length d := e0
      have e0g : av.tmps[53]?.getD undef = .slice B ds.length d := by have := e0; simp only [Array.getD_eq_getD_getElem?] at this; exact this
      have e1 : av.tmps.getD 54 undef = .int .i64 (k : Int) := (hw 4 (by kernel_rfl))
      have e1e : av.eval (.tmp 54) = .int .i64 (k : Int) := e1
      have e1g : av.tmps[54]?.getD undef = .int .i64 (k : Int) := by have := e1; simp only [Array.getD_eq_getD_getElem?] at this; exact this
      clear hw hF
      simp only [Oper.wp, execOp]
      try simp only [e0e, e1e]
      go_simp
      exact hK _ x (by first | rfl | (simp only [Nat.add_zero]; done) | (congr 1; omega)) (Below.refl _ _) (fun h => by cases h)
  intro av x hF hb' hR _
  have e0 : av.tmps.getD 50 undef = .pointer (some ⟨w.heap.size + 2, 2, none⟩) := hR 0 (by decide)
  have e1 : av.tmps.getD 51 undef = .slice none 0 0 := hR 1 (by decide)
  have e2 : av.tmps.getD 52 undef = .pointer (some ⟨w.heap.size, 2, none⟩) := hR 2 (by decide)
  have e3 : av.tmps.getD 53 undef = .slice B ds.length d := hR 3 (by decide)
  have e4 : av.tmps.getD 54 undef = .int .i64 (k : Int) := hR 4 (by decide)
  have e5 : av.tmps.getD 55 undef = .slice Da (k) da := hR 5 (by decide)
  rw [hF.fold (by kernel_rfl)]
  simp only [List.foldl_cons, List.foldl_nil, e0, e1, e2, e3, e4, e5]
  simp only [Act.put, List.setIfInBounds_toArray, List.set_cons_zero, List.set_cons_succ]
  change wpOps _ _ _ [6, 7, 8] _ _
  simp only [wpOps_cons]
  clear e0 e1 e2 e3 e4 e5 hR hF
  have BY := Lib.hid (BX.out.below hb')
  have RW := Lib.hid (row_on RW.out hb')
  have RR := Lib.hid (row_on RR.out hb')
  clear hb'
  simp only [wpOp, List.getElem?_toArray, List.getElem?_cons_succ, List.getElem?_cons_zero, Region.wanted, if_true]
  refine Or.inl ?_
  refine wp_append2 nv_one et_i (.tmp 51) (.tmp 55) rfl (w.heap.size + 3) (.slice none 0 0) ([] : List Int) u1 X1 Da da (k) rfl BY.out.o2 (RDA.out _ BY.out.kb) L2.out rfl EQ.out.1 BN.out.2.2.1 BY.out.bz ?_
  intro A9 c9 x9 ho9 hg9 hn9
  obtain ⟨ABX3, hA2⟩ : ∃ z, A9 = z := ⟨_, rfl⟩
  obtain ⟨cBX3, hc2⟩ : ∃ z, c9 = z := ⟨_, rfl⟩
  rw [hA2, hc2] at ho9 hn9 ⊢
  have BN := Lib.hid (BY.out.push2 ho9 hg9 hn9)
  have N9 := Lib.hid (BY.out.row2 hg9 BY.out.lt.2 BY.out.row)
  obtain ⟨VBX3, hU⟩ : ∃ U : World, U = x9.setCell ⟨w.heap.size + 2, 2, none⟩ (.slice ABX3 X1.length cBX3) := ⟨_, rfl⟩
  rw [← hU] at BN
  have RWz := Lib.hid (show VBX3.heap[w.heap.size]? = some _ by rw [hU]; exact row_far (BY.out.row2 hg9 (by omega) RW.out) (by omega) _)
  have RRz := Lib.hid (show VBX3.heap[w.heap.size + 1]? = some _ by rw [hU]; exact row_far (BY.out.row2 hg9 (by omega) RR.out) (by omega) _)
  have f9 := row_c N9.out (i := 2) rfl
  have q9 := frozen_of_row _ _ 2 _ _ N9.out
  clear ho9 hg9 hn9 hA2 hc2 BY N9 BX RW RR
  have BX := BN
  clear BN
  have RW := RWz
  clear RWz
  have RR := RRz
  clear RRz
  go_simp
  try rw [wpOps_cons]
  simp only [wpOp, List.getElem?_toArray, List.getElem?_cons_succ, List.getElem?_cons_zero, Region.wanted, if_true]
  refine Or.inl ?_
  simp only [Oper.wp, execOp]
  go_simp
  try rw [wpOps_cons]
  simp only [wpOp, List.getElem?_toArray, List.getElem?_cons_succ, List.getElem?_cons_zero, Region.wanted, if_true]
  refine Or.inl ?_
  simp only [Oper.wp, execOp]
  go_simp
  try simp only [wpOps]
  rw [← hU]
  clear hU f9 q9
  go_upto_region 10 with (fail)
  refine wp_operands (W := VBX3) rfl 7 [58, 59, 60, 61, 62, 63, 64] (fun i u x => match i with | 0 => u = .pointer (some ⟨w.heap.size + 2, 2, none⟩) | 1 => u = .slice ABX3 X1.length cBX3 | 2 => u = .pointer (some ⟨w.heap.size, 2, none⟩) | 3 => u = .slice B ds.length d | 4 => u = .int .i64 (k : Int) | 5 => u = .int .i64 (k1 : Int) | 6 => u = .slice Db (ds.length - k1) db | _ => True) (fun _ => false)
    (by decide) rfl (by kernel_rfl) (by kernel_rfl) (by decide) (by kernel_rfl) ?_ (fun _ _ _ h => by cases h) ?_ ?_
  · intro i u x x' hi hR hb'
    have hi' : i = 0 ∨ i = 1 ∨ i = 2 ∨ i = 3 ∨ i = 4 ∨ i = 5 ∨ i = 6 := by omega
    rcases hi' with rfl | rfl | rfl | rfl | rfl | rfl | rfl
    · exact hR
    · exact hR
    · exact hR
    · exact hR
    · exact hR
    · exact hR
    · exact hR
  · intro i av x K hi hF hb' hw hK
    have hi' : i = 0 ∨ i = 1 ∨ i = 2 ∨ i = 3 ∨ i = 4 ∨ i = 5 ∨ i = 6 := by omega
    rcases hi' with rfl | rfl | rfl | rfl | rfl | rfl | rfl
    · simp only [wpOp, List.getElem?_toArray, List.getElem?_cons_zero, Region.wanted, if_true]
      refine Or.inl ?_
      have e0 : av.tmps.getD 6 undef = .pointer (some ⟨w.heap.size + 2, 0, none⟩) := hF.2.2 6 (by decide)
      have e0e : av.eval (.tmp 6) = .pointer (some ⟨w.heap.size + 2, 0, none⟩) := e0
      have e0g : av.tmps[6]?.getD undef = .pointer (some ⟨w.heap.size + 2, 0, none⟩) := by have := e0; simp only [Array.getD_eq_getD_getElem?] at this; exact this
      clear hw hF
      simp only [Oper.wp, execOp]
      try simp only [e0e]
      go_simp
      exact hK _ x (by first | rfl | (simp only [Nat.add_zero]; done) | (congr 1; omega)) (Below.refl _ _) (fun h => by cases h)
    · simp only [wpOp, List.getElem?_toArray, List.getElem?_cons_succ, List.getElem?_cons_zero, Region.wanted, if_true]
      refine Or.inl ?_
      have e0 : av.tmps.getD 58 undef = .pointer (some ⟨w.heap.size + 2, 2, none⟩) := (hw 0 (by kernel_rfl))
      have e0e : av.eval (.tmp 58) = .pointer (some ⟨w.heap.size + 2, 2, none⟩) := e0
      have e0g : av.tmps[58]?.getD undef = .pointer (some ⟨w.heap.size + 2, 2, none⟩) := by have := e0; simp only [Array.getD_eq_getD_getElem?] at this; exact this
      obtain ⟨fo0, fo1, fo2⟩ := BX.out.f hb'
      clear hw hF
      simp only [Oper.wp, execOp]
      try simp only [e0e]
      go_simp
      exact hK _ x (by first | rfl | (simp only [Nat.add_zero]; done) | (congr 1; omega)) (Below.refl _ _) (fun h => by cases h)
    · simp only [wpOp, List.getElem?_toArray, List.getElem?_cons_succ, List.getElem?_cons_zero, Region.wanted, if_true]
      refine Or.inl ?_
      have e0 : av.tmps.getD 2 undef = .pointer (some ⟨w.heap.size, 0, none⟩) := hF.2.2 2 (by decide)
      have e0e : av.eval (.tmp 2) = .pointer (some ⟨w.heap.size, 0, none⟩) := e0
      have e0g : av.tmps[2]?.getD undef = .pointer (some ⟨w.heap.size, 0, none⟩) := by have := e0; simp only [Array.getD_eq_getD_getElem?] at this; exact this
      clear hw hF
      simp only [Oper.wp, execOp]
      try simp only [e0e]
      go_simp
      exact hK _ x (by first | rfl | (simp only [Nat.add_zero]; done) | (congr 1; omega)) (Below.refl _ _) (fun h => by cases h)
    · simp only [wpOp, List.getElem?_toArray, List.getElem?_cons_succ, List.getElem?_cons_zero, Region.wanted, if_true]
      refine Or.inl ?_
      have e0 : av.tmps.getD 60 undef = .pointer (some ⟨w.heap.size, 2, none⟩) := (hw 2 (by kernel_rfl))
      have e0e : av.eval (.tmp 60) = .pointer (some ⟨w.heap.size, 2, none⟩) := e0
      have e0g : av.tmps[60]?.getD undef = .pointer (some ⟨w.heap.size, 2, none⟩) := by have := e0; simp only [Array.getD_eq_getD_getElem?] at this; exact this
      have fn := row_c (row_on RW.out hb') (i := 2) rfl
      clear hw hF
      simp only [Oper.wp, execOp]
      try simp only [e0e]
      go_simp
      exact hK _ x (by first | rfl | (simp only [Nat.add_zero]; done) | (congr 1; omega)) (Below.refl _ _) (fun h => by cases h)
    · simp only [wpOp, List.getElem?_toArray, List.getElem?_cons_succ, List.getElem?_cons_zero, Region.wanted, if_true]
      refine Or.inl ?_
      have e0 : av.tmps.getD 1 undef = .int .i64 (k : Int) := hF.2.2 1 (by decide)
      have e0e : av.eval (.tmp 1) = .int .i64 (k : Int) := e0
      have e0g : av.tmps[1]?.getD undef = .int .i64 (k : Int) := by have := e0; simp only [Array.getD_eq_getD_getElem?] at this; exact this
      clear hw hF
      simp only [Oper.wp, execOp]
      try simp only [e0e]
      go_simp
      exact hK _ x (by first | rfl | (simp only [Nat.add_zero]; done) | (congr 1; omega)) (Below.refl _ _) (fun h => by cases h)
    · simp only [wpOp, List.getElem?_toArray, List.getElem?_cons_succ, List.getElem?_cons_zero, Region.wanted, if_true]
      refine Or.inl ?_
      have e0 : av.tmps.getD 62 undef = .int .i64 (k : Int) := (hw 4 (by kernel_rfl))
      have e0e : av.eval (.tmp 62) = .int .i64 (k : Int) := e0
      have e0g : av.tmps[62]?.getD undef = .int .i64 (k : Int) := by have := e0; simp only [Array.getD_eq_getD_getElem?] at this; exact this
      clear hw hF
      simp only [Oper.wp, execOp]
      try simp only [e0e]
      go_simp
      exact hK _ x (by first | rfl | (simp only [Nat.add_zero]; done) | (congr 1; omega)) (Below.refl _ _) (fun h => by cases h)
    · simp only [wpOp, List.getElem?_toArray, List.getElem?_cons_succ, List.getElem?_cons_zero, Region.wanted, if_true]
      refine Or.inl ?_
      have e0 : av.tmps.getD 61 undef = .slice B ds.length d := (hw 3 (by kernel_rfl))
      have e0e : av.eval (.tmp 61) = .slice B ds.length d := e0
      have e0g : av.tmps[61]?.getD undef = .slice B ds.length d := by have := e0; simp only [Array.getD_eq_getD_getElem?] at this; exact this
      have e1 : av.tmps.getD 63 undef = .int .i64 (k1 : Int) := (hw 5 (by kernel_rfl))
      have e1e : av.eval (.tmp 63) = .int .i64 (k1 : Int) := e1
      have e1g : av.tmps[63]?.getD undef = .int .i64 (k1 : Int) := by have := e1; simp only [Array.getD_eq_getD_getElem?] at this; exact this
      clear hw hF
      simp only [Oper.wp, execOp]
      try simp only [e0e, e1e]
      go_simp
      exact hK _ x (by first | rfl | (simp only [Nat.add_zero]; done) | (congr 1; omega)) (Below.refl _ _) (fun h => by cases h)
  intro av x hF hb' hR _
  have e0 : av.tmps.getD 58 undef = .pointer (some ⟨w.heap.size + 2, 2, none⟩) := hR 0 (by decide)
  have e1 : av.tmps.getD 59 undef = .slice ABX3 X1.length cBX3 := hR 1 (by decide)
  have e2 : av.tmps.getD 60 undef = .pointer (some ⟨w.heap.size, 2, none⟩) := hR 2 (by decide)
  have e3 : av.tmps.getD 61 undef = .slice B ds.length d := hR 3 (by decide)
  have e4 : av.tmps.getD 62 undef = .int .i64 (k : Int) := hR 4 (by decide)
  have e5 : av.tmps.getD 63 undef = .int .i64 (k1 : Int) := hR 5 (by decide)
  have e6 : av.tmps.getD 64 undef = .slice Db (ds.length - k1) db := hR 6 (by decide)
  rw [hF.fold (by kernel_rfl)]
  simp only [List.foldl_cons, List.foldl_nil, e0, e1, e2, e3, e4, e5, e6]
  simp only [Act.put, List.setIfInBounds_toArray, List.set_cons_zero, List.set_cons_succ]
  change wpOps _ _ _ [7, 8, 9] _ _
  simp only [wpOps_cons]
  clear e0 e1 e2 e3 e4 e5 e6 hR hF
  have BY := Lib.hid (BX.out.below hb')
  have RW := Lib.hid (row_on RW.out hb')
  have RR := Lib.hid (row_on RR.out hb')
  clear hb'
  simp only [wpOp, List.getElem?_toArray, List.getElem?_cons_succ, List.getElem?_cons_zero, Region.wanted, if_true]
  refine Or.inl ?_
  refine wp_append2 nv_one et_i (.tmp 59) (.tmp 64) rfl (w.heap.size + 3) (.slice ABX3 X1.length cBX3) X1 u2 X2 Db db (ds.length - k1) rfl BY.out.o2 (RDB.out _ BY.out.kb) L4.out rfl EQ.out.2 BN.out.2.2.2 BY.out.bz ?_
  intro A9 c9 x9 ho9 hg9 hn9
  obtain ⟨ABX4, hA2⟩ : ∃ z, A9 = z := ⟨_, rfl⟩
  obtain ⟨cBX4, hc2⟩ : ∃ z, c9 = z := ⟨_, rfl⟩
  rw [hA2, hc2] at ho9 hn9 ⊢
  have BN := Lib.hid (BY.out.push2 ho9 hg9 hn9)
  have N9 := Lib.hid (BY.out.row2 hg9 BY.out.lt.2 BY.out.row)
  obtain ⟨VBX4, hU⟩ : ∃ U : World, U = x9.setCell ⟨w.heap.size + 2, 2, none⟩ (.slice ABX4 X2.length cBX4) := ⟨_, rfl⟩
  rw [← hU] at BN
  have RWz := Lib.hid (show VBX4.heap[w.heap.size]? = some _ by rw [hU]; exact row_far (BY.out.row2 hg9 (by omega) RW.out) (by omega) _)
  have RRz := Lib.hid (show VBX4.heap[w.heap.size + 1]? = some _ by rw [hU]; exact row_far (BY.out.row2 hg9 (by omega) RR.out) (by omega) _)
  have f9 := row_c N9.out (i := 2) rfl
  have q9 := frozen_of_row _ _ 2 _ _ N9.out
  clear ho9 hg9 hn9 hA2 hc2 BY N9 BX RW RR
  have BX := BN
  clear BN
  have RW := RWz
  clear RWz
  have RR := RRz
  clear RRz
  go_simp
  try rw [wpOps_cons]
  simp only [wpOp, List.getElem?_toArray, List.getElem?_cons_succ, List.getElem?_cons_zero, Region.wanted, if_true]
  refine Or.inl ?_
  simp only [Oper.wp, execOp]
  go_simp
  try rw [wpOps_cons]
  simp only [wpOp, List.getElem?_toArray, List.getElem?_cons_succ, List.getElem?_cons_zero, Region.wanted, if_true]
  refine Or.inl ?_
  simp only [Oper.wp, execOp]
  go_simp
  try simp only [wpOps]
  rw [← hU]
  clear hU f9 q9
  obtain ⟨fo0, fo1, fo2⟩ := BX.out.f (Below.refl _ _)
  have p0 := row_c RR.out (i := 0) rfl
  have p1 := row_c RR.out (i := 1) rfl
  have p2 := row_c RR.out (i := 2) rfl
  have y0 := frozen_of_row _ _ 0 _ _ RR.out
  have y1 := frozen_of_row _ _ 1 _ _ RR.out
  have y2 := frozen_of_row _ _ 2 _ _ RR.out
  go_wp2
  refine bodyPost_ret (v := .agg #[.bool false, .slice ABX2 Z2.length cBX2, .slice ABX4 X2.length cBX4]) (by simp [results, Try.results27, go_sem, p0, p1, p2]) rfl ⟨ABX2, cBX2, ABX4, cBX4, rfl, ?_, ?_, ?_⟩
  · exact ((BX.out.rl.1.set BX.out.rl.2.2.1 (by omega) _ _).set BX.out.rl.2.2.1 (by omega) _ _).set BX.out.rl.2.2.1 (by omega) _ _
  · exact ((BX.out.rl.2.1.set BX.out.rl.2.2.2 (by omega) _ _).set BX.out.rl.2.2.2 (by omega) _ _).set BX.out.rl.2.2.2 (by omega) _ _
  · exact ((BX.out.kb.setCell (by simp) _).setCell (by simp) _).setCell (by simp) _
set_option maxHeartbeats 4000000 in
set_option maxRecDepth 100000 in
theorem rout_t (A : Option Addr) (c : Nat) (ks : List (List UInt8)) (B : Option Addr) (d : Nat) (ds : List Int) (k k1 j j1 : Nat) (w : World) (h : Rl sv w A c ks) (h2 : Rl nv w B d ds) (hl : ks.length ≤ 3999990) (hsd : ds.length = ks.length) (hk : k < ds.length) (h0 : 0 < ks.length)
    (hk1 : k + 1 = k1) (hj : j = k) (hj1 : j + 1 = j1) (y1 y2 Z1 Z2 : List (List UInt8)) (u1 u2 X1 X2 : List Int)
    (e1 : ks.take j = y1) (e2 : ks.drop j1 = y2) (E1 : [] ++ y1 = Z1) (E2 : Z1 ++ y2 = Z2) (q1 : ds.take k = u1) (q2 : ds.drop k1 = u2) (Q1 : [] ++ u1 = X1) (Q2 : X1 ++ u2 = X2) :
    Calls Try.prog 27 #[.agg #[.bool true, .slice A ks.length c, .slice B ds.length d], .int .i64 (k : Int)] w fun e w' => ∃ A' c' B' d', e = .returned (.agg #[.bool true, .slice A' Z2.length c', .slice B' X2.length d']) ∧ Rl sv w' A' c' Z2 ∧ Rl nv w' B' d' X2 ∧ Below w.heap.size w w' := by
  obtain ⟨Ka, ca, hka, rka⟩ := cut_to et_s (g := sv) A c ks j (by omega) h.1
  obtain ⟨Da, da, hda, rda⟩ := cut_to et_i (g := nv) B d ds k (by omega) h2.1
  obtain ⟨Kb, cb, hkb, rkb⟩ := cut_from et_s (g := sv) A c ks j1 (by omega) h.1
  obtain ⟨Db, db, hdb, rdb⟩ := cut_from et_i (g := nv) B d ds k1 (by omega) h2.1
  rw [e1] at rka
  rw [q1] at rda
  rw [e2] at rkb
  rw [q2] at rdb
  have L1 := Lib.hid (show j = y1.length by rw [← e1, List.length_take]; omega)
  have L2 := Lib.hid (show k = u1.length by rw [← q1, List.length_take]; omega)
  have L3 := Lib.hid (show ks.length - j1 = y2.length by rw [← e2, List.length_drop])
  have L4 := Lib.hid (show ds.length - k1 = u2.length by rw [← q2, List.length_drop])
  have EK := Lib.hid (And.intro E1 E2)
  have EQ := Lib.hid (And.intro Q1 Q2)
  have BN := Lib.hid (show Z1.length ≤ 4000000 ∧ Z2.length ≤ 4000000 ∧ X1.length ≤ 4000000 ∧ X2.length ≤ 4000000 by
    have h1 := L1.out; have h2 := L2.out; have h3 := L3.out; have h4 := L4.out
    rw [← E2, ← E1, ← Q2, ← Q1]
    simp only [List.length_append, List.length_nil]
    omega)
  have RKA := Lib.hid (fun V (hV : Below w.heap.size w V) => rka V (h.below hV))
  have RDA := Lib.hid (fun V (hV : Below w.heap.size w V) => rda V (h2.below hV))
  have RKB := Lib.hid (fun V (hV : Below w.heap.size w V) => rkb V (h.below hV))
  have RDB := Lib.hid (fun V (hV : Below w.heap.size w V) => rdb V (h2.below hV))
  have w1 : IntKind.i64.wrap ((j : Int) + 1) = (j1 : Int) := by rw [IntWalk.i64_in _ (by omega)]; omega
  have w2 : IntKind.i64.wrap ((k : Int) + 1) = (k1 : Int) := by rw [IntWalk.i64_in _ (by omega)]; omega
  have w3 : IntKind.i64.wrap ((k : Int) - 1) = (k : Int) - 1 := IntWalk.i64_in _ (by omega)
  obtain rfl := hj.symm
  have g1 : decide ((k : Int) < 0) = false := decide_eq_false (by omega)
  have g2 : decide ((ds.length : Int) ≤ (k : Int)) = false := decide_eq_false (by omega)
  have g2' : decide (ds.length ≤ k) = false := decide_eq_false (by omega)
  have g3 : (ks.length == 0) = false := by simp; intro h; rw [h] at h0; simp at h0
  have g4 : ((ks.length : Int) == 0) = false := by simp; intro h; rw [h] at h0; simp at h0
  obtain ⟨W, hW⟩ : ∃ W : World, W = (w.alloc (.cells #[.bool true, .slice A ks.length c, .slice B ds.length d] 33)).alloc (.cells #[.bool false, .slice none 0 0, .slice none 0 0] 33) := ⟨_, rfl⟩
  have ra := row_on (heap_alloc_new w (.cells #[.bool true, .slice A ks.length c, .slice B ds.length d] 33)) (bda _ (.cells #[.bool false, .slice none 0 0, .slice none 0 0] 33))
  have rb := heap_alloc_new (w.alloc (.cells #[.bool true, .slice A ks.length c, .slice B ds.length d] 33)) (.cells #[.bool false, .slice none 0 0, .slice none 0 0] 33)
  simp only [World.size_alloc] at rb
  rw [← hW] at ra rb
  have RW := Lib.hid ra
  have RR := Lib.hid rb
  have BW := Lib.hid (show Below w.heap.size w W by rw [hW]; exact bon (bda _ _) (bda _ _))
  have HW := Lib.hid hW
  clear ra rb hW
  clear h h2 hl hsd hk h0 hk1 hj1 e1 e2 E1 E2 q1 q2 Q1 Q2 rka rda rkb rdb
  have f0 := row_c RW.out (i := 0) rfl
  have f1 := row_c RW.out (i := 1) rfl
  have f2 := row_c RW.out (i := 2) rfl
  rw [HW.out] at f0 f1 f2
  go_enter Try.func27, Try.ntmps27
  go_upto_region 7 with (fail)
  rw [← HW.out]
  obtain ⟨Vs, hVs⟩ : ∃ z : World, z = W.alloc (.cells #[.bool true, .slice none 0 0, .slice none 0 0] 33) := ⟨_, rfl⟩
  have SW := heap_lt RR.out
  have SZ : W.heap.size = w.heap.size + 2 := by rw [HW.out]; simp
  have BX := Lib.hid (Bx.fresh (w := w) (V := Vs) (T := 33) (lf := true) (g := w.heap.size + 2) (base := w.heap.size + 3) (by rw [← SZ, hVs]; exact heap_alloc_new _ _) (by rw [hVs]; exact BW.out.trans ((bda _ _).mono BW.out.size)) (by rw [hVs]; simp; omega) ⟨by omega, by omega⟩)
  have RWx := Lib.hid (show Vs.heap[w.heap.size]? = some _ by rw [hVs]; exact row_on RW.out (bda _ _))
  have RRx := Lib.hid (show Vs.heap[w.heap.size + 1]? = some _ by rw [hVs]; exact row_on RR.out (bda _ _))
  clear RW RR BW SW SZ
  have RW := RWx
  have RR := RRx
  clear RWx RRx
  rw [← hVs]
  clear hVs HW f0 f1 f2 g1 g2 g2' g3 g4 w3
  refine wp_operands (W := Vs) rfl 6 [33, 34, 35, 36, 37, 38] (fun i u x => match i with | 0 => u = .pointer (some ⟨w.heap.size + 2, 1, none⟩) | 1 => u = .slice none 0 0 | 2 => u = .pointer (some ⟨w.heap.size, 1, none⟩) | 3 => u = .slice A ks.length c | 4 => u = .int .i64 (k : Int) | 5 => u = .slice Ka (k) ca | _ => True) (fun _ => false)
    (by decide) rfl (by kernel_rfl) (by kernel_rfl) (by decide) (by kernel_rfl) ?_ (fun _ _ _ h => by cases h) ?_ ?_
  · intro i u x x' hi hR hb'
    have hi' : i = 0 ∨ i = 1 ∨ i = 2 ∨ i = 3 ∨ i = 4 ∨ i = 5 := by omega
    rcases hi' with rfl | rfl | rfl | rfl | rfl | rfl
    · exact hR
    · exact hR
    · exact hR
    · exact hR
    · exact hR
    · exact hR
  · intro i av x K hi hF hb' hw hK
    have hi' : i = 0 ∨ i = 1 ∨ i = 2 ∨ i = 3 ∨ i = 4 ∨ i = 5 := by omega
    rcases hi' with rfl | rfl | rfl | rfl | rfl | rfl
    · simp only [wpOp, List.getElem?_toArray, List.getElem?_cons_zero, Region.wanted, if_true]
      refine Or.inl ?_
      have e0 : av.tmps.getD 6 undef = .pointer (some ⟨w.heap.size + 2, 0, none⟩) := hF.2.2 6 (by decide)
      have e0e : av.eval (.tmp 6) = .pointer (some ⟨w.heap.size + 2, 0, none⟩) := e0
      have e0g : av.tmps[6]?.getD undef = .pointer (some ⟨w.heap.size + 2, 0, none⟩) := by have := e0; simp only [Array.getD_eq_getD_getElem?] at this; exact this
      clear hw hF
      simp only [Oper.wp, execOp]
      try simp only [e0e]
      go_simp
      exact hK _ x (by first | rfl | (simp only [Nat.add_zero]; done) | (congr 1; omega)) (Below.refl _ _) (fun h => by cases h)
    · simp only [wpOp, List.getElem?_toArray, List.getElem?_cons_succ, List.getElem?_cons_zero, Region.wanted, if_true]
      refine Or.inl ?_
      have e0 : av.tmps.getD 33 undef = .pointer (some ⟨w.heap.size + 2, 1, none⟩) := (hw 0 (by kernel_rfl))
      have e0e : av.eval (.tmp 33) = .pointer (some ⟨w.heap.size + 2, 1, none⟩) := e0
      have e0g : av.tmps[33]?.getD undef = .pointer (some ⟨w.heap.size + 2, 1, none⟩) := by have := e0; simp only [Array.getD_eq_getD_getElem?] at this; exact this
      obtain ⟨fo0, fo1, fo2⟩ := BX.out.f hb'
      clear hw hF
      simp only [Oper.wp, execOp]
      try simp only [e0e]
      go_simp
      exact hK _ x (by first | rfl | (simp only [Nat.add_zero]; done) | (congr 1; omega)) (Below.refl _ _) (fun h => by cases h)
    · simp only [wpOp, List.getElem?_toArray, List.getElem?_cons_succ, List.getElem?_cons_zero, Region.wanted, if_true]
      refine Or.inl ?_
      have e0 : av.tmps.getD 2 undef = .pointer (some ⟨w.heap.size, 0, none⟩) := hF.2.2 2 (by decide)
      have e0e : av.eval (.tmp 2) = .pointer (some ⟨w.heap.size, 0, none⟩) := e0
      have e0g : av.tmps[2]?.getD undef = .pointer (some ⟨w.heap.size, 0, none⟩) := by have := e0; simp only [Array.getD_eq_getD_getElem?] at this; exact this
      clear hw hF
      simp only [Oper.wp, execOp]
      try simp only [e0e]
      go_simp
      exact hK _ x (by first | rfl | (simp only [Nat.add_zero]; done) | (congr 1; omega)) (Below.refl _ _) (fun h => by cases h)
    · simp only [wpOp, List.getElem?_toArray, List.getElem?_cons_succ, List.getElem?_cons_zero, Region.wanted, if_true]
      refine Or.inl ?_
      have e0 : av.tmps.getD 35 undef = .pointer (some ⟨w.heap.size, 1, none⟩) := (hw 2 (by kernel_rfl))
      have e0e : av.eval (.tmp 35) = .pointer (some ⟨w.heap.size, 1, none⟩) := e0
      have e0g : av.tmps[35]?.getD undef = .pointer (some ⟨w.heap.size, 1, none⟩) := by have := e0; simp only [Array.getD_eq_getD_getElem?] at this; exact this
      have fn := row_c (row_on RW.out hb') (i := 1) rfl
      clear hw hF
      simp only [Oper.wp, execOp]
      try simp only [e0e]
      go_simp
      exact hK _ x (by first | rfl | (simp only [Nat.add_zero]; done) | (congr 1; omega)) (Below.refl _ _) (fun h => by cases h)
    · simp only [wpOp, List.getElem?_toArray, List.getElem?_cons_succ, List.getElem?_cons_zero, Region.wanted, if_true]
      refine Or.inl ?_
      have e0 : av.tmps.getD 5 undef = .int .i64 (k : Int) := hF.2.2 5 (by decide)
      have e0e : av.eval (.tmp 5) = .int .i64 (k : Int) := e0
      have e0g : av.tmps[5]?.getD undef = .int .i64 (k : Int) := by have := e0; simp only [Array.getD_eq_getD_getElem?] at this; exact this
      clear hw hF
      simp only [Oper.wp, execOp]
      try simp only [e0e]
      go_simp
      exact hK _ x (by first | rfl | (simp only [Nat.add_zero]; done) | (congr 1; omega)) (Below.refl _ _) (fun h => by cases h)
    · simp only [wpOp, List.getElem?_toArray, List.getElem?_cons_succ, List.getElem?_cons_zero, Region.wanted, if_true]
      refine Or.inl ?_
      have e0 : av.tmps.getD 36 undef = .slice A ks.length c := (hw 3 (by kernel_rfl))
      have e0e : av.eval (.tmp 36) = .slice A ks.length c := e0
      have e0g : av.tmps[36]?.getD undef = .slice A ks.length c := by have := e0; simp only [Array.getD_eq_getD_getElem?] at this; exact this
      have e1 : av.tmps.getD 37 undef = .int .i64 (k : Int) := (hw 4 (by kernel_rfl))
      have e1e : av.eval (.tmp 37) = .int .i64 (k : Int) := e1
      have e1g : av.tmps[37]?.getD undef = .int .i64 (k : Int) := by have := e1; simp only [Array.getD_eq_getD_getElem?] at this; exact this
      clear hw hF
      simp only [Oper.wp, execOp]
      try simp only [e0e, e1e]
      go_simp
      exact hK _ x (by first | rfl | (simp only [Nat.add_zero]; done) | (congr 1; omega)) (Below.refl _ _) (fun h => by cases h)
  intro av x hF hb' hR _
  have e0 : av.tmps.getD 33 undef = .pointer (some ⟨w.heap.size + 2, 1, none⟩) := hR 0 (by decide)
  have e1 : av.tmps.getD 34 undef = .slice none 0 0 := hR 1 (by decide)
  have e2 : av.tmps.getD 35 undef = .pointer (some ⟨w.heap.size, 1, none⟩) := hR 2 (by decide)
  have e3 : av.tmps.getD 36 undef = .slice A ks.length c := hR 3 (by decide)
  have e4 : av.tmps.getD 37 undef = .int .i64 (k : Int) := hR 4 (by decide)
  have e5 : av.tmps.getD 38 undef = .slice Ka (k) ca := hR 5 (by decide)
  rw [hF.fold (by kernel_rfl)]
  simp only [List.foldl_cons, List.foldl_nil, e0, e1, e2, e3, e4, e5]
  simp only [Act.put, List.setIfInBounds_toArray, List.set_cons_zero, List.set_cons_succ]
  change wpOps _ _ _ [6, 7, 8] _ _
  simp only [wpOps_cons]
  clear e0 e1 e2 e3 e4 e5 hR hF
  have BY := Lib.hid (BX.out.below hb')
  have RW := Lib.hid (row_on RW.out hb')
  have RR := Lib.hid (row_on RR.out hb')
  clear hb'
  simp only [wpOp, List.getElem?_toArray, List.getElem?_cons_succ, List.getElem?_cons_zero, Region.wanted, if_true]
  refine Or.inl ?_
  refine wp_append2 sv_one et_s (.tmp 34) (.tmp 38) rfl (w.heap.size + 3) (.slice none 0 0) ([] : List (List UInt8)) y1 Z1 Ka ca (k) rfl BY.out.o1 (RKA.out _ BY.out.kb) L1.out rfl EK.out.1 BN.out.1 BY.out.bz ?_
  intro A9 c9 x9 ho9 hg9 hn9
  obtain ⟨ABX1, hA2⟩ : ∃ z, A9 = z := ⟨_, rfl⟩
  obtain ⟨cBX1, hc2⟩ : ∃ z, c9 = z := ⟨_, rfl⟩
  rw [hA2, hc2] at ho9 hn9 ⊢
  have BN := Lib.hid (BY.out.push1 ho9 hg9 hn9)
  have N9 := Lib.hid (BY.out.row1 hg9 BY.out.lt.2 BY.out.row)
  obtain ⟨VBX1, hU⟩ : ∃ U : World, U = x9.setCell ⟨w.heap.size + 2, 1, none⟩ (.slice ABX1 Z1.length cBX1) := ⟨_, rfl⟩
  rw [← hU] at BN
  have RWz := Lib.hid (show VBX1.heap[w.heap.size]? = some _ by rw [hU]; exact row_far (BY.out.row1 hg9 (by omega) RW.out) (by omega) _)
  have RRz := Lib.hid (show VBX1.heap[w.heap.size + 1]? = some _ by rw [hU]; exact row_far (BY.out.row1 hg9 (by omega) RR.out) (by omega) _)
  have f9 := row_c N9.out (i := 1) rfl
  have q9 := frozen_of_row _ _ 1 _ _ N9.out
  clear ho9 hg9 hn9 hA2 hc2 BY N9 BX RW RR
  have BX := BN
  clear BN
  have RW := RWz
  clear RWz
  have RR := RRz
  clear RRz
  go_simp
  try rw [wpOps_cons]
  simp only [wpOp, List.getElem?_toArray, List.getElem?_cons_succ, List.getElem?_cons_zero, Region.wanted, if_true]
  refine Or.inl ?_
  simp only [Oper.wp, execOp]
  go_simp
  try rw [wpOps_cons]
  simp only [wpOp, List.getElem?_toArray, List.getElem?_cons_succ, List.getElem?_cons_zero, Region.wanted, if_true]
  refine Or.inl ?_
  simp only [Oper.wp, execOp]
  go_simp
  try simp only [wpOps]
  rw [← hU]
  clear hU f9 q9
  go_upto_region 8 with (fail)
  refine wp_operands (W := VBX1) rfl 7 [41, 42, 43, 44, 45, 46, 47] (fun i u x => match i with | 0 => u = .pointer (some ⟨w.heap.size + 2, 1, none⟩) | 1 => u = .slice ABX1 Z1.length cBX1 | 2 => u = .pointer (some ⟨w.heap.size, 1, none⟩) | 3 => u = .slice A ks.length c | 4 => u = .int .i64 (k : Int) | 5 => u = .int .i64 (j1 : Int) | 6 => u = .slice Kb (ks.length - j1) cb | _ => True) (fun _ => false)
    (by decide) rfl (by kernel_rfl) (by kernel_rfl) (by decide) (by kernel_rfl) ?_ (fun _ _ _ h => by cases h) ?_ ?_
  · intro i u x x' hi hR hb'
    have hi' : i = 0 ∨ i = 1 ∨ i = 2 ∨ i = 3 ∨ i = 4 ∨ i = 5 ∨ i = 6 := by omega
    rcases hi' with rfl | rfl | rfl | rfl | rfl | rfl | rfl
    · exact hR
    · exact hR
    · exact hR
    · exact hR
    · exact hR
    · exact hR
    · exact hR
  · intro i av x K hi hF hb' hw hK
    have hi' : i = 0 ∨ i = 1 ∨ i = 2 ∨ i = 3 ∨ i = 4 ∨ i = 5 ∨ i = 6 := by omega
    rcases hi' with rfl | rfl | rfl | rfl | rfl | rfl | rfl
    · simp only [wpOp, List.getElem?_toArray, List.getElem?_cons_zero, Region.wanted, if_true]
      refine Or.inl ?_
      have e0 : av.tmps.getD 6 undef = .pointer (some ⟨w.heap.size + 2, 0, none⟩) := hF.2.2 6 (by decide)
      have e0e : av.eval (.tmp 6) = .pointer (some ⟨w.heap.size + 2, 0, none⟩) := e0
      have e0g : av.tmps[6]?.getD undef = .pointer (some ⟨w.heap.size + 2, 0, none⟩) := by have := e0; simp only [Array.getD_eq_getD_getElem?] at this; exact this
      clear hw hF
      simp only [Oper.wp, execOp]
      try simp only [e0e]
      go_simp
      exact hK _ x (by first | rfl | (simp only [Nat.add_zero]; done) | (congr 1; omega)) (Below.refl _ _) (fun h => by cases h)
    · simp only [wpOp, List.getElem?_toArray, List.getElem?_cons_succ, List.getElem?_cons_zero, Region.wanted, if_true]
      refine Or.inl ?_
      have e0 : av.tmps.getD 41 undef = .pointer (some ⟨w.heap.size + 2, 1, none⟩) := (hw 0 (by kernel_rfl))
      have e0e : av.eval (.tmp 41) = .pointer (some ⟨w.heap.size + 2, 1, none⟩) := e0
      have e0g : av.tmps[41]?.getD undef = .pointer (some ⟨w.heap.size + 2, 1, none⟩) := by have := e0; simp only [Array.getD_eq_getD_getElem?] at this; exact this
      obtain ⟨fo0, fo1, fo2⟩ := BX.out.f hb'
      clear hw hF
      simp only [Oper.wp, execOp]
      try simp only [e0e]
      go_simp
      exact hK _ x (by first | rfl | (simp only [Nat.add_zero]; done) | (congr 1; omega)) (Below.refl _ _) (fun h => by cases h)
    · simp only [wpOp, List.getElem?_toArray, List.getElem?_cons_succ, List.getElem?_cons_zero, Region.wanted, if_true]
      refine Or.inl ?_
      have e0 : av.tmps.getD 2 undef = .pointer (some ⟨w.heap.size, 0, none⟩) := hF.2.2 2 (by decide)
      have e0e : av.eval (.tmp 2) = .pointer (some ⟨w.heap.size, 0, none⟩) := e0
      have e0g : av.tmps[2]?.getD undef = .pointer (some ⟨w.heap.size, 0, none⟩) := by have := e0; simp only [Array.getD_eq_getD_getElem?] at this; exact this
      clear hw hF
      simp only [Oper.wp, execOp]
      try simp only [e0e]
      go_simp
      exact hK _ x (by first | rfl | (simp only [Nat.add_zero]; done) | (congr 1; omega)) (Below.refl _ _) (fun h => by cases h)
    · simp only [wpOp, List.getElem?_toArray, List.getElem?_cons_succ, List.getElem?_cons_zero, Region.wanted, if_true]
      refine Or.inl ?_
      have e0 : av.tmps.getD 43 undef = .pointer (some ⟨w.heap.size, 1, none⟩) := (hw 2 (by kernel_rfl))
      have e0e : av.eval (.tmp 43) = .pointer (some ⟨w.heap.size, 1, none⟩) := e0
      have e0g : av.tmps[43]?.getD undef = .pointer (some ⟨w.heap.size, 1, none⟩) := by have := e0; simp only [Array.getD_eq_getD_getElem?] at this; exact this
      have fn := row_c (row_on RW.out hb') (i := 1) rfl
      clear hw hF
      simp only [Oper.wp, execOp]
      try simp only [e0e]
      go_simp
      exact hK _ x (by first | rfl | (simp only [Nat.add_zero]; done) | (congr 1; omega)) (Below.refl _ _) (fun h => by cases h)
    · simp only [wpOp, List.getElem?_toArray, List.getElem?_cons_succ, List.getElem?_cons_zero, Region.wanted, if_true]
      refine Or.inl ?_
      have e0 : av.tmps.getD 5 undef = .int .i64 (k : Int) := hF.2.2 5 (by decide)
      have e0e : av.eval (.tmp 5) = .int .i64 (k : Int) := e0
      have e0g : av.tmps[5]?.getD undef = .int .i64 (k : Int) := by have := e0; simp only [Array.getD_eq_getD_getElem?] at this; exact this
      clear hw hF
      simp only [Oper.wp, execOp]
      try simp only [e0e]
      go_simp
      exact hK _ x (by first | rfl | (simp only [Nat.add_zero]; done) | (congr 1; omega)) (Below.refl _ _) (fun h => by cases h)
    · simp only [wpOp, List.getElem?_toArray, List.getElem?_cons_succ, List.getElem?_cons_zero, Region.wanted, if_true]
      refine Or.inl ?_
      have e0 : av.tmps.getD 45 undef = .int .i64 (k : Int) := (hw 4 (by kernel_rfl))
      have e0e : av.eval (.tmp 45) = .int .i64 (k : Int) := e0
      have e0g : av.tmps[45]?.getD undef = .int .i64 (k : Int) := by have := e0; simp only [Array.getD_eq_getD_getElem?] at this; exact this
      clear hw hF
      simp only [Oper.wp, execOp]
      try simp only [e0e]
      go_simp
      exact hK _ x (by first | rfl | (simp only [Nat.add_zero]; done) | (congr 1; omega)) (Below.refl _ _) (fun h => by cases h)
    · simp only [wpOp, List.getElem?_toArray, List.getElem?_cons_succ, List.getElem?_cons_zero, Region.wanted, if_true]
      refine Or.inl ?_
      have e0 : av.tmps.getD 44 undef = .slice A ks.length c := (hw 3 (by kernel_rfl))
      have e0e : av.eval (.tmp 44) = .slice A ks.length c := e0
      have e0g : av.tmps[44]?.getD undef = .slice A ks.length c := by have := e0; simp only [Array.getD_eq_getD_getElem?] at this; exact this
      have e1 : av.tmps.getD 46 undef = .int .i64 (j1 : Int) := (hw 5 (by kernel_rfl))
      have e1e : av.eval (.tmp 46) = .int .i64 (j1 : Int) := e1
      have e1g : av.tmps[46]?.getD undef = .int .i64 (j1 : Int) := by have := e1; simp only [Array.getD_eq_getD_getElem?] at this; exact this
      clear hw hF
      simp only [Oper.wp, execOp]
      try simp only [e0e, e1e]
      go_simp
      exact hK _ x (by first | rfl | (simp only [Nat.add_zero]; done) | (congr 1; omega)) (Below.refl _ _) (fun h => by cases h)
  intro av x hF hb' hR _
  have e0 : av.tmps.getD 41 undef = .pointer (some ⟨w.heap.size + 2, 1, none⟩) := hR 0 (by decide)
  have e1 : av.tmps.getD 42 undef = .slice ABX1 Z1.length cBX1 := hR 1 (by decide)
  have e2 : av.tmps.getD 43 undef = .pointer (some ⟨w.heap.size, 1, none⟩) := hR 2 (by decide)
  have e3 : av.tmps.getD 44 undef = .slice A ks.length c := hR 3 (by decide)
  have e4 : av.tmps.getD 45 undef = .int .i64 (k : Int) := hR 4 (by decide)
  have e5 : av.tmps.getD 46 undef = .int .i64 (j1 : Int) := hR 5 (by decide)
  have e6 : av.tmps.getD 47 undef = .slice Kb (ks.length - j1) cb := hR 6 (by decide)
  rw [hF.fold (by kernel_rfl)]
  simp only [List.foldl_cons, List.foldl_nil, e0, e1, e2, e3, e4, e5, e6]
  simp only [Act.put, List.setIfInBounds_toArray, List.set_cons_zero, List.set_cons_succ]
  change wpOps _ _ _ [7, 8, 9] _ _
  simp only [wpOps_cons]
  clear e0 e1 e2 e3 e4 e5 e6 hR hF
  have BY := Lib.hid (BX.out.below hb')
  have RW := Lib.hid (row_on RW.out hb')
  have RR := Lib.hid (row_on RR.out hb')
  clear hb'
  simp only [wpOp, List.getElem?_toArray, List.getElem?_cons_succ, List.getElem?_cons_zero, Region.wanted, if_true]
  refine Or.inl ?_
  refine wp_append2 sv_one et_s (.tmp 42) (.tmp 47) rfl (w.heap.size + 3) (.slice ABX1 Z1.length cBX1) Z1 y2 Z2 Kb cb (ks.length - j1) rfl BY.out.o1 (RKB.out _ BY.out.kb) L3.out rfl EK.out.2 BN.out.2.1 BY.out.bz ?_
  intro A9 c9 x9 ho9 hg9 hn9
  obtain ⟨ABX2, hA2⟩ : ∃ z, A9 = z := ⟨_, rfl⟩
  obtain ⟨cBX2, hc2⟩ : ∃ z, c9 = z := ⟨_, rfl⟩
  rw [hA2, hc2] at ho9 hn9 ⊢
  have BN := Lib.hid (BY.out.push1 ho9 hg9 hn9)
  have N9 := Lib.hid (BY.out.row1 hg9 BY.out.lt.2 BY.out.row)
  obtain ⟨VBX2, hU⟩ : ∃ U : World, U = x9.setCell ⟨w.heap.size + 2, 1, none⟩ (.slice ABX2 Z2.length cBX2) := ⟨_, rfl⟩
  rw [← hU] at BN
  have RWz := Lib.hid (show VBX2.heap[w.heap.size]? = some _ by rw [hU]; exact row_far (BY.out.row1 hg9 (by omega) RW.out) (by omega) _)
  have RRz := Lib.hid (show VBX2.heap[w.heap.size + 1]? = some _ by rw [hU]; exact row_far (BY.out.row1 hg9 (by omega) RR.out) (by omega) _)
  have f9 := row_c N9.out (i := 1) rfl
  have q9 := frozen_of_row _ _ 1 _ _ N9.out
  clear ho9 hg9 hn9 hA2 hc2 BY N9 BX RW RR
  have BX := BN
  clear BN
  have RW := RWz
  clear RWz
  have RR := RRz
  clear RRz
  go_simp
  try rw [wpOps_cons]
  simp only [wpOp, List.getElem?_toArray, List.getElem?_cons_succ, List.getElem?_cons_zero, Region.wanted, if_true]
  refine Or.inl ?_
  simp only [Oper.wp, execOp]
  go_simp
  try rw [wpOps_cons]
  simp only [wpOp, List.getElem?_toArray, List.getElem?_cons_succ, List.getElem?_cons_zero, Region.wanted, if_true]
  refine Or.inl ?_
  simp only [Oper.wp, execOp]
  go_simp
  try simp only [wpOps]
  rw [← hU]
  clear hU f9 q9
  go_upto_region 9 with (fail)
  refine wp_operands (W := VBX2) rfl 6 [50, 51, 52, 53, 54, 55] (fun i u x => match i with | 0 => u = .pointer (some ⟨w.heap.size + 2, 2, none⟩) | 1 => u = .slice none 0 0 | 2 => u = .pointer (some ⟨w.heap.size, 2, none⟩) | 3 => u = .slice B ds.length d | 4 => u = .int .i64 (k : Int) | 5 => u = .slice Da (k) da | _ => True) (fun _ => false)
    (by decide) rfl (by kernel_rfl) (by kernel_rfl) (by decide) (by kernel_rfl) ?_ (fun _ _ _ h => by cases h) ?_ ?_
  · intro i u x x' hi hR hb'
    have hi' : i = 0 ∨ i = 1 ∨ i = 2 ∨ i = 3 ∨ i = 4 ∨ i = 5 := by omega
    rcases hi' with rfl | rfl | rfl | rfl | rfl | rfl
    · exact hR
    · exact hR
    · exact hR
    · exact hR
    · exact hR
    · exact hR
  · intro i av x K hi hF hb' hw hK
    have hi' : i = 0 ∨ i = 1 ∨ i = 2 ∨ i = 3 ∨ i = 4 ∨ i = 5 := by omega
    rcases hi' with rfl | rfl | rfl | rfl | rfl | rfl
    · simp only [wpOp, List.getElem?_toArray, List.getElem?_cons_zero, Region.wanted, if_true]
      refine Or.inl ?_
      have e0 : av.tmps.getD 6 undef = .pointer (some ⟨w.heap.size + 2, 0, none⟩) := hF.2.2 6 (by decide)
      have e0e : av.eval (.tmp 6) = .pointer (some ⟨w.heap.size + 2, 0, none⟩) := e0
      have e0g : av.tmps[6]?.getD undef = .pointer (some ⟨w.heap.size + 2, 0, none⟩) := by have := e0; simp only [Array.getD_eq_getD_getElem?] at this; exact this
      clear hw hF
      simp only [Oper.wp, execOp]
      try simp only [e0e]
      go_simp
      exact hK _ x (by first | rfl | (simp only [Nat.add_zero]; done) | (congr 1; omega)) (Below.refl _ _) (fun h => by cases h)
    · simp only [wpOp, List.getElem?_toArray, List.getElem?_cons_succ, List.getElem?_cons_zero, Region.wanted, if_true]
      refine Or.inl ?_
      have e0 : av.tmps.getD 50 undef = .pointer (some ⟨w.heap.size + 2, 2, none⟩) := (hw 0 (by kernel_rfl))
      have e0e : av.eval (.tmp 50) = .pointer (some ⟨w.heap.size + 2, 2, none⟩) := e0
      have e0g : av.tmps[50]?.getD undef = .pointer (some ⟨w.heap.size + 2, 2, none⟩) := by have := e0; simp only [Array.getD_eq_getD_getElem?] at this; exact this
      obtain ⟨fo0, fo1, fo2⟩ := BX.out.f hb'
      clear hw hF
      simp only [Oper.wp, execOp]
      try simp only [e0e]
      go_simp
      exact hK _ x (by first | rfl | (simp only [Nat.add_zero]; done) | (congr 1; omega)) (Below.refl _ _) (fun h => by cases h)
    · simp only [wpOp, List.getElem?_toArray, List.getElem?_cons_succ, List.getElem?_cons_zero, Region.wanted, if_true]
      refine Or.inl ?_
      have e0 : av.tmps.getD 2 undef = .pointer (some ⟨w.heap.size, 0, none⟩) := hF.2.2 2 (by decide)
      have e0e : av.eval (.tmp 2) = .pointer (some ⟨w.heap.size, 0, none⟩) := e0
      have e0g : av.tmps[2]?.getD undef = .pointer (some ⟨w.heap.size, 0, none⟩) := by have := e0; simp only [Array.getD_eq_getD_getElem?] at this; exact this
      clear hw hF
      simp only [Oper.wp, execOp]
      try simp only [e0e]
      go_simp
      exact hK _ x (by first | rfl | (simp only [Nat.add_zero]; done) | (congr 1; omega)) (Below.refl _ _) (fun h => by cases h)
    · simp only [wpOp, List.getElem?_toArray, List.getElem?_cons_succ, List.getElem?_cons_zero, Region.wanted, if_true]
      refine Or.inl ?_
      have e0 : av.tmps.getD 52 undef = .pointer (some ⟨w.heap.size, 2, none⟩) := (hw 2 (by kernel_rfl))
      have e0e : av.eval (.tmp 52) = .pointer (some ⟨w.heap.size, 2, none⟩) := e0
      have e0g : av.tmps[52]?.getD undef = .pointer (some ⟨w.heap.size, 2, none⟩) := by have := e0; simp only [Array.getD_eq_getD_getElem?] at this; exact this
      have fn := row_c (row_on RW.out hb') (i := 2) rfl
      clear hw hF
      simp only [Oper.wp, execOp]
      try simp only [e0e]
      go_simp
      exact hK _ x (by first | rfl | (simp only [Nat.add_zero]; done) | (congr 1; omega)) (Below.refl _ _) (fun h => by cases h)
    · simp only [wpOp, List.getElem?_toArray, List.getElem?_cons_succ, List.getElem?_cons_zero, Region.wanted, if_true]
      refine Or.inl ?_
      have e0 : av.tmps.getD 1 undef = .int .i64 (k : Int) := hF.2.2 1 (by decide)
      have e0e : av.eval (.tmp 1) = .int .i64 (k : Int) := e0
      have e0g : av.tmps[1]?.getD undef = .int .i64 (k : Int) := by have := e0; simp only [Array.getD_eq_getD_getElem?] at this; exact this
      clear hw hF
      simp only [Oper.wp, execOp]
      try simp only [e0e]
      go_simp
      exact hK _ x (by first | rfl | (simp only [Nat.add_zero]; done) | (congr 1; omega)) (Below.refl _ _) (fun h => by cases h)
    · simp only [wpOp, List.getElem?_toArray, List.getElem?_cons_succ, List.getElem?_cons_zero, Region.wanted, if_true]
      refine Or.inl ?_
      have e0 : av.tmps.getD 53 undef = .slice B ds.length d := (hw 3 (by kernel_rfl))
      have e0e : av.eval (.tmp 53) = .slice B ds.length d := e0
      have e0g : av.tmps[53]?.getD undef = .slice B ds.length d := by have := e0; simp only [Array.getD_eq_getD_getElem?] at this; exact this
      have e1 : av.tmps.getD 54 undef = .int .i64 (k : Int) := (hw 4 (by kernel_rfl))
      have e1e : av.eval (.tmp 54) = .int .i64 (k : Int) := e1
      have e1g : av.tmps[54]?.getD undef = .int .i64 (k : Int) := by have := e1; simp only [Array.getD_eq_getD_getElem?] at this; exact this
      clear hw hF
      simp only [Oper.wp, execOp]
      try simp only [e0e, e1e]
      go_simp
      exact hK _ x (by first | rfl | (simp only [Nat.add_zero]; done) | (congr 1; omega)) (Below.refl _ _) (fun h => by cases h)
  intro av x hF hb' hR _
  have e0 : av.tmps.getD 50 undef = .pointer (some ⟨w.heap.size + 2, 2, none⟩) := hR 0 (by decide)
  have e1 : av.tmps.getD 51 undef = .slice none 0 0 := hR 1 (by decide)
  have e2 : av.tmps.getD 52 undef = .pointer (some ⟨w.heap.size, 2, none⟩) := hR 2 (by decide)
  have e3 : av.tmps.getD 53 undef = .slice B ds.length d := hR 3 (by decide)
  have e4 : av.tmps.getD 54 undef = .int .i64 (k : Int) := hR 4 (by decide)
  have e5 : av.tmps.getD 55 undef = .slice Da (k) da := hR 5 (by decide)
  rw [hF.fold (by kernel_rfl)]
  simp only [List.foldl_cons, List.foldl_nil, e0, e1, e2, e3, e4, e5]
  simp only [Act.put, List.setIfInBounds_toArray, List.set_cons_zero, List.set_cons_succ]
  change wpOps _ _ _ [6, 7, 8] _ _
  simp only [wpOps_cons]
  clear e0 e1 e2 e3 e4 e5 hR hF
  have BY := Lib.hid (BX.out.below hb')
  have RW := Lib.hid (row_on RW.out hb')
  have RR := Lib.hid (row_on RR.out hb')
  clear hb'
  simp only [wpOp, List.getElem?_toArray, List.getElem?_cons_succ, List.getElem?_cons_zero, Region.wanted, if_true]
  refine Or.inl ?_
  refine wp_append2 nv_one et_i (.tmp 51) (.tmp 55) rfl (w.heap.size + 3) (.slice none 0 0) ([] : List Int) u1 X1 Da da (k) rfl BY.out.o2 (RDA.out _ BY.out.kb) L2.out rfl EQ.out.1 BN.out.2.2.1 BY.out.bz ?_
  intro A9 c9 x9 ho9 hg9 hn9
  obtain ⟨ABX3, hA2⟩ : ∃ z, A9 = z := ⟨_, rfl⟩
  obtain ⟨cBX3, hc2⟩ : ∃ z, c9 = z := ⟨_, rfl⟩
  rw [hA2, hc2] at ho9 hn9 ⊢
  have BN := Lib.hid (BY.out.push2 ho9 hg9 hn9)
  have N9 := Lib.hid (BY.out.row2 hg9 BY.out.lt.2 BY.out.row)
  obtain ⟨VBX3, hU⟩ : ∃ U : World, U = x9.setCell ⟨w.heap.size + 2, 2, none⟩ (.slice ABX3 X1.length cBX3) := ⟨_, rfl⟩
  rw [← hU] at BN
  have RWz := Lib.hid (show VBX3.heap[w.heap.size]? = some _ by rw [hU]; exact row_far (BY.out.row2 hg9 (by omega) RW.out) (by omega) _)
  have RRz := Lib.hid (show VBX3.heap[w.heap.size + 1]? = some _ by rw [hU]; exact row_far (BY.out.row2 hg9 (by omega) RR.out) (by omega) _)
  have f9 := row_c N9.out (i := 2) rfl
  have q9 := frozen_of_row _ _ 2 _ _ N9.out
  clear ho9 hg9 hn9 hA2 hc2 BY N9 BX RW RR
  have BX := BN
  clear BN
  have RW := RWz
  clear RWz
  have RR := RRz
  clear RRz
  go_simp
  try rw [wpOps_cons]
  simp only [wpOp, List.getElem?_toArray, List.getElem?_cons_succ, List.getElem?_cons_zero, Region.wanted, if_true]
  refine Or.inl ?_
  simp only [Oper.wp, execOp]
  go_simp
  try rw [wpOps_cons]
  simp only [wpOp, List.getElem?_toArray, List.getElem?_cons_succ, List.getElem?_cons_zero, Region.wanted, if_true]
  refine Or.inl ?_
  simp only [Oper.wp, execOp]
  go_simp
  try simp only [wpOps]
  rw [← hU]
  clear hU f9 q9
  go_upto_region 10 with (fail)
  refine wp_operands (W := VBX3) rfl 7 [58, 59, 60, 61, 62, 63, 64] (fun i u x => match i with | 0 => u = .pointer (some ⟨w.heap.size + 2, 2, none⟩) | 1 => u = .slice ABX3 X1.length cBX3 | 2 => u = .pointer (some ⟨w.heap.size, 2, none⟩) | 3 => u = .slice B ds.length d | 4 => u = .int .i64 (k : Int) | 5 => u = .int .i64 (k1 : Int) | 6 => u = .slice Db (ds.length - k1) db | _ => True) (fun _ => false)
    (by decide) rfl (by kernel_rfl) (by kernel_rfl) (by decide) (by kernel_rfl) ?_ (fun _ _ _ h => by cases h) ?_ ?_
  · intro i u x x' hi hR hb'
    have hi' : i = 0 ∨ i = 1 ∨ i = 2 ∨ i = 3 ∨ i = 4 ∨ i = 5 ∨ i = 6 := by omega
    rcases hi' with rfl | rfl | rfl | rfl | rfl | rfl | rfl
    · exact hR
    · exact hR
    · exact hR
    · exact hR
    · exact hR
    · exact hR
    · exact hR
  · intro i av x K hi hF hb' hw hK
    have hi' : i = 0 ∨ i = 1 ∨ i = 2 ∨ i = 3 ∨ i = 4 ∨ i = 5 ∨ i = 6 := by omega
    rcases hi' with rfl | rfl | rfl | rfl | rfl | rfl | rfl
    · simp only [wpOp, List.getElem?_toArray, List.getElem?_cons_zero, Region.wanted, if_true]
      refine Or.inl ?_
      have e0 : av.tmps.getD 6 undef = .pointer (some ⟨w.heap.size + 2, 0, none⟩) := hF.2.2 6 (by decide)
      have e0e : av.eval (.tmp 6) = .pointer (some ⟨w.heap.size + 2, 0, none⟩) := e0
      have e0g : av.tmps[6]?.getD undef = .pointer (some ⟨w.heap.size + 2, 0, none⟩) := by have := e0; simp only [Array.getD_eq_getD_getElem?] at this; exact this
      clear hw hF
      simp only [Oper.wp, execOp]
      try simp only [e0e]
      go_simp
      exact hK _ x (by first | rfl | (simp only [Nat.add_zero]; done) | (congr 1; omega)) (Below.refl _ _) (fun h => by cases h)
    · simp only [wpOp, List.getElem?_toArray, List.getElem?_cons_succ, List.getElem?_cons_zero, Region.wanted, if_true]
      refine Or.inl ?_
      have e0 : av.tmps.getD 58 undef = .pointer (some ⟨w.heap.size + 2, 2, none⟩) := (hw 0 (by kernel_rfl))
      have e0e : av.eval (.tmp 58) = .pointer (some ⟨w.heap.size + 2, 2, none⟩) := e0
      have e0g : av.tmps[58]?.getD undef = .pointer (some ⟨w.heap.size + 2, 2, none⟩) := by have := e0; simp only [Array.getD_eq_getD_getElem?] at this; exact this
      obtain ⟨fo0, fo1, fo2⟩ := BX.out.f hb'
      clear hw hF
      simp only [Oper.wp, execOp]
      try simp only [e0e]
      go_simp
      exact hK _ x (by first | rfl | (simp only [Nat.add_zero]; done) | (congr 1; omega)) (Below.refl _ _) (fun h => by cases h)
    · simp only [wpOp, List.getElem?_toArray, List.getElem?_cons_succ, List.getElem?_cons_zero, Region.wanted, if_true]
      refine Or.inl ?_
      have e0 : av.tmps.getD 2 undef = .pointer (some ⟨w.heap.size, 0, none⟩) := hF.2.2 2 (by decide)
      have e0e : av.eval (.tmp 2) = .pointer (some ⟨w.heap.size, 0, none⟩) := e0
      have e0g : av.tmps[2]?.getD undef = .pointer (some ⟨w.heap.size, 0, none⟩) := by have := e0; simp only [Array.getD_eq_getD_getElem?] at this; exact this
      clear hw hF
      simp only [Oper.wp, execOp]
      try simp only [e0e]
      go_simp
      exact hK _ x (by first | rfl | (simp only [Nat.add_zero]; done) | (congr 1; omega)) (Below.refl _ _) (fun h => by cases h)
    · simp only [wpOp, List.getElem?_toArray, List.getElem?_cons_succ, List.getElem?_cons_zero, Region.wanted, if_true]
      refine Or.inl ?_
      have e0 : av.tmps.getD 60 undef = .pointer (some ⟨w.heap.size, 2, none⟩) := (hw 2 (by kernel_rfl))
      have e0e : av.eval (.tmp 60) = .pointer (some ⟨w.heap.size, 2, none⟩) := e0
      have e0g : av.tmps[60]?.getD undef = .pointer (some ⟨w.heap.size, 2, none⟩) := by have := e0; simp only [Array.getD_eq_getD_getElem?] at this; exact this
      have fn := row_c (row_on RW.out hb') (i := 2) rfl
      clear hw hF
      simp only [Oper.wp, execOp]
      try simp only [e0e]
      go_simp
      exact hK _ x (by first | rfl | (simp only [Nat.add_zero]; done) | (congr 1; omega)) (Below.refl _ _) (fun h => by cases h)
    · simp only [wpOp, List.getElem?_toArray, List.getElem?_cons_succ, List.getElem?_cons_zero, Region.wanted, if_true]
      refine Or.inl ?_
      have e0 : av.tmps.getD 1 undef = .int .i64 (k : Int) := hF.2.2 1 (by decide)
      have e0e : av.eval (.tmp 1) = .int .i64 (k : Int) := e0
      have e0g : av.tmps[1]?.getD undef = .int .i64 (k : Int) := by have := e0; simp only [Array.getD_eq_getD_getElem?] at this; exact this
      clear hw hF
      simp only [Oper.wp, execOp]
      try simp only [e0e]
      go_simp
      exact hK _ x (by first | rfl | (simp only [Nat.add_zero]; done) | (congr 1; omega)) (Below.refl _ _) (fun h => by cases h)
    · simp only [wpOp, List.getElem?_toArray, List.getElem?_cons_succ, List.getElem?_cons_zero, Region.wanted, if_true]
      refine Or.inl ?_
      have e0 : av.tmps.getD 62 undef = .int .i64 (k : Int) := (hw 4 (by kernel_rfl))
      have e0e : av.eval (.tmp 62) = .int .i64 (k : Int) := e0
      have e0g : av.tmps[62]?.getD undef = .int .i64 (k : Int) := by have := e0; simp only [Array.getD_eq_getD_getElem?] at this; exact this
      clear hw hF
      simp only [Oper.wp, execOp]
      try simp only [e0e]
      go_simp
      exact hK _ x (by first | rfl | (simp only [Nat.add_zero]; done) | (congr 1; omega)) (Below.refl _ _) (fun h => by cases h)
    · simp only [wpOp, List.getElem?_toArray, List.getElem?_cons_succ, List.getElem?_cons_zero, Region.wanted, if_true]
      refine Or.inl ?_
      have e0 : av.tmps.getD 61 undef = .slice B ds.length d := (hw 3 (by kernel_rfl))
      have e0e : av.eval (.tmp 61) = .slice B ds.length d := e0
      have e0g : av.tmps[61]?.getD undef = .slice B ds.length d := by have := e0; simp only [Array.getD_eq_getD_getElem?] at this; exact this
      have e1 : av.tmps.getD 63 undef = .int .i64 (k1 : Int) := (hw 5 (by kernel_rfl))
      have e1e : av.eval (.tmp 63) = .int .i64 (k1 : Int) := e1
      have e1g : av.tmps[63]?.getD undef = .int .i64 (k1 : Int) := by have := e1; simp only [Array.getD_eq_getD_getElem?] at this; exact this
      clear hw hF
      simp only [Oper.wp, execOp]
      try simp only [e0e, e1e]
      go_simp
      exact hK _ x (by first | rfl | (simp only [Nat.add_zero]; done) | (congr 1; omega)) (Below.refl _ _) (fun h => by cases h)
  intro av x hF hb' hR _
  have e0 : av.tmps.getD 58 undef = .pointer (some ⟨w.heap.size + 2, 2, none⟩) := hR 0 (by decide)
  have e1 : av.tmps.getD 59 undef = .slice ABX3 X1.length cBX3 := hR 1 (by decide)
  have e2 : av.tmps.getD 60 undef = .pointer (some ⟨w.heap.size, 2, none⟩) := hR 2 (by decide)
  have e3 : av.tmps.getD 61 undef = .slice B ds.length d := hR 3 (by decide)
  have e4 : av.tmps.getD 62 undef = .int .i64 (k : Int) := hR 4 (by decide)
  have e5 : av.tmps.getD 63 undef = .int .i64 (k1 : Int) := hR 5 (by decide)
  have e6 : av.tmps.getD 64 undef = .slice Db (ds.length - k1) db := hR 6 (by decide)
  rw [hF.fold (by kernel_rfl)]
  simp only [List.foldl_cons, List.foldl_nil, e0, e1, e2, e3, e4, e5, e6]
  simp only [Act.put, List.setIfInBounds_toArray, List.set_cons_zero, List.set_cons_succ]
  change wpOps _ _ _ [7, 8, 9] _ _
  simp only [wpOps_cons]
  clear e0 e1 e2 e3 e4 e5 e6 hR hF
  have BY := Lib.hid (BX.out.below hb')
  have RW := Lib.hid (row_on RW.out hb')
  have RR := Lib.hid (row_on RR.out hb')
  clear hb'
  simp only [wpOp, List.getElem?_toArray, List.getElem?_cons_succ, List.getElem?_cons_zero, Region.wanted, if_true]
  refine Or.inl ?_
  refine wp_append2 nv_one et_i (.tmp 59) (.tmp 64) rfl (w.heap.size + 3) (.slice ABX3 X1.length cBX3) X1 u2 X2 Db db (ds.length - k1) rfl BY.out.o2 (RDB.out _ BY.out.kb) L4.out rfl EQ.out.2 BN.out.2.2.2 BY.out.bz ?_
  intro A9 c9 x9 ho9 hg9 hn9
  obtain ⟨ABX4, hA2⟩ : ∃ z, A9 = z := ⟨_, rfl⟩
  obtain ⟨cBX4, hc2⟩ : ∃ z, c9 = z := ⟨_, rfl⟩
  rw [hA2, hc2] at ho9 hn9 ⊢
  have BN := Lib.hid (BY.out.push2 ho9 hg9 hn9)
  have N9 := Lib.hid (BY.out.row2 hg9 BY.out.lt.2 BY.out.row)
  obtain ⟨VBX4, hU⟩ : ∃ U : World, U = x9.setCell ⟨w.heap.size + 2, 2, none⟩ (.slice ABX4 X2.length cBX4) := ⟨_, rfl⟩
  rw [← hU] at BN
  have RWz := Lib.hid (show VBX4.heap[w.heap.size]? = some _ by rw [hU]; exact row_far (BY.out.row2 hg9 (by omega) RW.out) (by omega) _)
  have RRz := Lib.hid (show VBX4.heap[w.heap.size + 1]? = some _ by rw [hU]; exact row_far (BY.out.row2 hg9 (by omega) RR.out) (by omega) _)
  have f9 := row_c N9.out (i := 2) rfl
  have q9 := frozen_of_row _ _ 2 _ _ N9.out
  clear ho9 hg9 hn9 hA2 hc2 BY N9 BX RW RR
  have BX := BN
  clear BN
  have RW := RWz
  clear RWz
  have RR := RRz
  clear RRz
  go_simp
  try rw [wpOps_cons]
  simp only [wpOp, List.getElem?_toArray, List.getElem?_cons_succ, List.getElem?_cons_zero, Region.wanted, if_true]
  refine Or.inl ?_
  simp only [Oper.wp, execOp]
  go_simp
  try rw [wpOps_cons]
  simp only [wpOp, List.getElem?_toArray, List.getElem?_cons_succ, List.getElem?_cons_zero, Region.wanted, if_true]
  refine Or.inl ?_
  simp only [Oper.wp, execOp]
  go_simp
  try simp only [wpOps]
  rw [← hU]
  clear hU f9 q9
  obtain ⟨fo0, fo1, fo2⟩ := BX.out.f (Below.refl _ _)
  have p0 := row_c RR.out (i := 0) rfl
  have p1 := row_c RR.out (i := 1) rfl
  have p2 := row_c RR.out (i := 2) rfl
  have y0 := frozen_of_row _ _ 0 _ _ RR.out
  have y1 := frozen_of_row _ _ 1 _ _ RR.out
  have y2 := frozen_of_row _ _ 2 _ _ RR.out
  go_wp2
  refine bodyPost_ret (v := .agg #[.bool true, .slice ABX2 Z2.length cBX2, .slice ABX4 X2.length cBX4]) (by simp [results, Try.results27, go_sem, p0, p1, p2]) rfl ⟨ABX2, cBX2, ABX4, cBX4, rfl, ?_, ?_, ?_⟩
  · exact ((BX.out.rl.1.set BX.out.rl.2.2.1 (by omega) _ _).set BX.out.rl.2.2.1 (by omega) _ _).set BX.out.rl.2.2.1 (by omega) _ _
  · exact ((BX.out.rl.2.1.set BX.out.rl.2.2.2 (by omega) _ _).set BX.out.rl.2.2.2 (by omega) _ _).set BX.out.rl.2.2.2 (by omega) _ _
  · exact ((BX.out.kb.setCell (by simp) _).setCell (by simp) _).setCell (by simp) _
set_option maxHeartbeats 4000000 in
set_option maxRecDepth 100000 in
/-- A node without a kid, and its key. -/
theorem rout_any (lf : Bool) (A : Option Addr) (c : Nat) (ks : List (List UInt8)) (B : Option Addr) (d : Nat) (ds : List Int) (k : Nat) (w : World) (h : Rl sv w A c ks) (h2 : Rl nv w B d ds) (hl : ks.length ≤ 3999990) (hs : shapedB lf ks ds = true) (hk : k < ds.length) (h0 : 0 < ks.length) :
    Calls Try.prog 27 #[.agg #[.bool lf, .slice A ks.length c, .slice B ds.length d], .int .i64 (k : Int)] w fun e w' => ∃ A' c' B' d', e = .returned (.agg #[.bool lf, .slice A' (ks.take (if lf then k else k - 1) ++ [] ++ ks.drop ((if lf then k else k - 1) + 1)).length c', .slice B' (ds.take k ++ [] ++ ds.drop (k + 1)).length d']) ∧ Rl sv w' A' c' (ks.take (if lf then k else k - 1) ++ [] ++ ks.drop ((if lf then k else k - 1) + 1)) ∧ Rl nv w' B' d' (ds.take k ++ [] ++ ds.drop (k + 1)) ∧ Below w.heap.size w w' := by
  have hsd : ds.length = if lf then ks.length else ks.length + 1 := by unfold shapedB at hs; cases lf <;> simpa using hs
  cases lf
  · have := rout_f A c ks B d ds k _ _ _ w h h2 hl (by simpa using hsd) hk h0 rfl rfl rfl _ _ _ _ _ _ _ _ rfl rfl rfl rfl rfl rfl rfl rfl
    simpa using this
  · have := rout_t A c ks B d ds k _ _ _ w h h2 hl (by simpa using hsd) hk h0 rfl rfl rfl _ _ _ _ _ _ _ _ rfl rfl rfl rfl rfl rfl rfl rfl
    simpa using this
end Go.Proofs.Ytkbdcbcjbgbglaa
