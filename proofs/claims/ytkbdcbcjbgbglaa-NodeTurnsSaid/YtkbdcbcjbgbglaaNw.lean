/-
  The document's Put.
-/
import Derived.Test.YtkbdcbcjbgbglaaNv
import Derived.Test.YtkbdcbcjbgbglaaNt
namespace Go.Proofs.Ytkbdcbcjbgbglaa
open Go.RowKit
set_option linter.unusedVariables false
set_option linter.unusedSimpArgs false
set_option maxHeartbeats 4000000 in
set_option maxRecDepth 100000 in
theorem rput_ff (A : Option Addr) (c : Nat) (ks : List (List UInt8)) (B : Option Addr) (d : Nat) (ds : List Int) (key : List UInt8) (kid : Int) (w : World) (h : Rl sv w A c ks) (h2 : Rl nv w B d ds) (hl : ks.length ≤ 3999990) (hsd : ds.length = ks.length + 1)
    (n0 n1 n2 : Nat) (hi : lbK key ks = n0) (ht : thereB key ks = false) (hj : n0 + 1 = n1) (hj1 : n1 + 1 = n2) (y1 y3 Z1 Z2 Z3 : List (List UInt8)) (u1 u3 X1 X2 X3 : List Int)
    (e1 : ks.take n0 = y1) (e3 : ks.drop n0 = y3) (E1 : [] ++ y1 = Z1) (E2 : Z1 ++ [key] = Z2) (E3 : Z2 ++ y3 = Z3) (q1 : ds.take n1 = u1) (q3 : ds.drop n1 = u3) (Q1 : [] ++ u1 = X1) (Q2 : X1 ++ [kid] = X2) (Q3 : X2 ++ u3 = X3) :
    Calls Try.prog 26 #[.agg #[.bool false, .slice A ks.length c, .slice B ds.length d], sv key, .int .i64 kid] w fun e w' => ∃ A' c' B' d', e = .returned (.agg #[.bool false, .slice A' Z3.length c', .slice B' X3.length d']) ∧ Rl sv w' A' c' Z3 ∧ Rl nv w' B' d' X3 ∧ Below w.heap.size w w' := by
  have hil : n0 ≤ ks.length := by rw [← hi]; exact lbK_le key ks
  have hit : false = true → n0 < ks.length := fun h => by
    have h3 : thereB key ks = true := ht.trans h
    rw [← hi]
    exact (List.getElem?_eq_some_iff.1 (there_spec.1 h3)).1
  obtain ⟨Ka, ca, hka, rka⟩ := cut_to et_s (g := sv) A c ks n0 (by omega) h.1
  obtain ⟨Da, da, hda, rda⟩ := cut_to et_i (g := nv) B d ds n1 (by omega) h2.1
  obtain ⟨Kb, cb, hkb, rkb⟩ := cut_from et_s (g := sv) A c ks n0 (by have := hit; simp at this; omega) h.1
  obtain ⟨Db, db, hdb, rdb⟩ := cut_from et_i (g := nv) B d ds n1 (by have := hit; simp at this; omega) h2.1
  rw [e1] at rka
  rw [q1] at rda
  rw [e3] at rkb
  rw [q3] at rdb
  have L1 := Lib.hid (show n0 = y1.length by rw [← e1, List.length_take]; omega)
  have L2 := Lib.hid (show n1 = u1.length by rw [← q1, List.length_take]; have := hit; simp at this; omega)
  have L3 := Lib.hid (show ks.length - n0 = y3.length by rw [← e3, List.length_drop])
  have L4 := Lib.hid (show ds.length - n1 = u3.length by rw [← q3, List.length_drop])
  have EK := Lib.hid (And.intro E1 (And.intro E2 E3))
  have EQ := Lib.hid (And.intro Q1 (And.intro Q2 Q3))
  have BN := Lib.hid (show Z1.length ≤ 4000000 ∧ Z2.length ≤ 4000000 ∧ Z3.length ≤ 4000000 ∧ X1.length ≤ 4000000 ∧ X2.length ≤ 4000000 ∧ X3.length ≤ 4000000 by
    have h1 := L1.out; have h2 := L2.out; have h3 := L3.out; have h4 := L4.out
    rw [← E3, ← E2, ← E1, ← Q3, ← Q2, ← Q1]
    simp only [List.length_append, List.length_nil, List.length_singleton]
    omega)
  have RKA := Lib.hid (fun V (hV : Below w.heap.size w V) => rka V (h.below hV))
  have RDA := Lib.hid (fun V (hV : Below w.heap.size w V) => rda V (h2.below hV))
  have RKB := Lib.hid (fun V (hV : Below w.heap.size w V) => rkb V (h.below hV))
  have RDB := Lib.hid (fun V (hV : Below w.heap.size w V) => rdb V (h2.below hV))
  have w1 : IntKind.i64.wrap ((n0 : Int) + 1) = (n1 : Int) := by rw [IntWalk.i64_in _ (by omega)]; omega
  have w2 : IntKind.i64.wrap ((n1 : Int) + 1) = (n2 : Int) := by rw [IntWalk.i64_in _ (by omega)]; omega
  have H := Lib.hid h
  have HI := Lib.hid hi
  have HT := Lib.hid ht
  clear h h2 hsd hi ht hj hj1 e1 e3 E1 E2 E3 q1 q3 Q1 Q2 Q3 rka rda rkb rdb hit hil
  obtain ⟨b1, hb1⟩ : ∃ x : Bool, x = false := ⟨_, rfl⟩
  clear b1 hb1
  unfold sv
  go_enter Try.func26, Try.ntmps26
  go_wp2_with fail
  obtain ⟨W, hW⟩ : ∃ W : World, W = ((w.alloc (.cells #[.bool false, .slice A ks.length c, .slice B ds.length d] 33)).alloc (.cells #[.bool false, .slice none 0 0, .slice none 0 0] 33)).alloc (.cells #[.bool false, .slice none 0 0, .slice none 0 0] 33) := ⟨_, rfl⟩
  have RW := Lib.hid (show W.heap[w.heap.size]? = some (.cells #[.bool false, .slice A ks.length c, .slice B ds.length d] 33 (0, 0)) by rw [hW]; exact row_on (row_on (heap_alloc_new w _) (bda _ _)) (bda _ _))
  have RR := Lib.hid (show W.heap[w.heap.size + 1]? = some (.cells #[.bool false, .slice none 0 0, .slice none 0 0] 33 (0, 0)) by rw [hW]; have := row_on (heap_alloc_new (w.alloc (.cells #[.bool false, .slice A ks.length c, .slice B ds.length d] 33)) (.cells #[.bool false, .slice none 0 0, .slice none 0 0] 33)) (bda _ (.cells #[.bool false, .slice none 0 0, .slice none 0 0] 33)); simpa using this)
  have RO := Lib.hid (show W.heap[w.heap.size + 2]? = some (.cells #[.bool false, .slice none 0 0, .slice none 0 0] 33 (0, 0)) by rw [hW]; have := heap_alloc_new ((w.alloc (.cells #[.bool false, .slice A ks.length c, .slice B ds.length d] 33)).alloc (.cells #[.bool false, .slice none 0 0, .slice none 0 0] 33)) (.cells #[.bool false, .slice none 0 0, .slice none 0 0] 33); simpa using this)
  have B1 := Lib.hid (show Below w.heap.size w W by rw [hW]; exact bon (bon (bda _ _) (bda _ _)) (bda _ _))
  rw [← hW]
  clear hW
  go_loopw [8] (fun i wr => ∃ k : Nat, k ≤ n0 ∧ i = .int .i64 k ∧ Hid (Below W.heap.size W wr)) (fun i _ => ks.length - (intOf i).toNat)
  case atStart => exact ⟨0, Nat.zero_le _, rfl, Lib.hid (Below.refl _ _)⟩
  case round =>
    obtain ⟨k, hk, rfl, hb⟩ := hrel
    have KW := Lib.hid (show Below w.heap.size w wr from B1.out.trans (hb.out.mono B1.out.size))
    have f0 := row_c (row_on RW.out hb.out) (i := 0) rfl
    have f1 := row_c (row_on RW.out hb.out) (i := 1) rfl
    have hkl : k ≤ ks.length := Nat.le_trans hk (by rw [← HI.out]; exact lbK_le key ks)
    by_cases hlt : k < n0
    · have k2 := Nat.lt_of_lt_of_le hlt (by rw [← HI.out]; exact lbK_le key ks)
      obtain ⟨x, hx⟩ := get_lt k2
      obtain ⟨b, off, hA, hbl, g2⟩ := (H.out.below KW.out).cell hx
      have LS := less_dec x key
      rw [decide_eq_true (lbK_below hx (by rw [HI.out]; exact hlt))] at LS
      have HLT := Lib.hid hlt
      unfold sv at g2
      have k0 : (0 : Int) ≤ (k : Int) := by omega
      have k1 : (k : Int) < (ks.length : Int) := by omega
      subst hA
      clear hx hlt hk
      go_wp2
      go_roundw
      case rel => exact ⟨k + 1, HLT.out, by go_num, hb⟩
      case measure => simp [intOf]; omega
    · obtain rfl : k = n0 := by omega
      clear hlt hk hl
      by_cases hn : k < ks.length
      · obtain ⟨x, hx⟩ := get_lt hn
        obtain ⟨bq, oq, hA, hbl, g2⟩ := (H.out.below KW.out).cell hx
        have LS := less_dec x key
        rw [decide_eq_false (lbK_stop (key := key) (by rw [HI.out]; exact hx))] at LS
        have k0 : (0 : Int) ≤ (k : Int) := by omega
        have k1 : (k : Int) < (ks.length : Int) := by omega
        have e1 : (x == key) = false := by
          have h := HT.out
          unfold thereB at h
          rw [HI.out, hx] at h
          simpa using h
        unfold sv at g2
        subst hA
        clear hx hn
        have BX := Lib.hid (Bx.fresh (base := w.heap.size + 3) (row_on RO.out hb.out) KW.out (heap_lt (row_on RO.out hb.out)) ⟨by omega, by omega⟩)
        have RWx := Lib.hid (row_on RW.out hb.out)
        have RRx := Lib.hid (row_on RR.out hb.out)
        clear RW RR RO hb KW B1
        have RW := RWx
        have RR := RRx
        clear RWx RRx
        obtain ⟨Vs, hVs⟩ : ∃ z, wr = z := ⟨_, rfl⟩
        rw [hVs] at BX RW RR f0 f1 g2 hbl ⊢
        clear hVs
        go_upto_region 9 with (fail)
        clear f0 f1 g2 LS k0 k1 e1 hbl
        refine wp_operands (W := Vs) rfl 6 [50, 51, 52, 53, 54, 55] (fun i u x => match i with | 0 => u = .pointer (some ⟨w.heap.size + 2, 1, none⟩) | 1 => u = .slice none 0 0 | 2 => u = .pointer (some ⟨w.heap.size, 1, none⟩) | 3 => u = .slice (some ⟨bq, oq, none⟩) ks.length c | 4 => u = .int .i64 (k : Int) | 5 => u = .slice Ka (k) ca | _ => True) (fun _ => false)
          (by decide) rfl (by kernel_rfl) (by kernel_rfl) (by decide) (by kernel_rfl) ?_ (fun _ _ _ h => by cases h) ?_ ?_
        · intro i u x x' hi hR hb'
          have hi' : i = 0 ∨ i = 1 ∨ i = 2 ∨ i = 3 ∨ i = 4 ∨ i = 5 := by omega
          rcases hi' with rfl | rfl | rfl | rfl | rfl | rfl
          · exact hR
          · exact hR
          · exact hR
          · exact hR
          · exact hR
          · exact hR
        · intro i av x K hi hF hb' hw hK
          have hi' : i = 0 ∨ i = 1 ∨ i = 2 ∨ i = 3 ∨ i = 4 ∨ i = 5 := by omega
          rcases hi' with rfl | rfl | rfl | rfl | rfl | rfl
          · simp only [wpOp, List.getElem?_toArray, List.getElem?_cons_zero, Region.wanted, if_true]
            refine Or.inl ?_
            have e0 : av.tmps.getD 7 undef = .pointer (some ⟨w.heap.size + 2, 0, none⟩) := hF.2.2 7 (by decide)
            have e0e : av.eval (.tmp 7) = .pointer (some ⟨w.heap.size + 2, 0, none⟩) := e0
            have e0g : av.tmps[7]?.getD undef = .pointer (some ⟨w.heap.size + 2, 0, none⟩) := by have := e0; simp only [Array.getD_eq_getD_getElem?] at this; exact this
            clear hw hF
            simp only [Oper.wp, execOp]
            try simp only [e0e]
            go_simp
            exact hK _ x (by first | rfl | (simp only [Nat.add_zero]; done) | (congr 1; omega)) (Below.refl _ _) (fun h => by cases h)
          · simp only [wpOp, List.getElem?_toArray, List.getElem?_cons_succ, List.getElem?_cons_zero, Region.wanted, if_true]
            refine Or.inl ?_
            have e0 : av.tmps.getD 50 undef = .pointer (some ⟨w.heap.size + 2, 1, none⟩) := (hw 0 (by kernel_rfl))
            have e0e : av.eval (.tmp 50) = .pointer (some ⟨w.heap.size + 2, 1, none⟩) := e0
            have e0g : av.tmps[50]?.getD undef = .pointer (some ⟨w.heap.size + 2, 1, none⟩) := by have := e0; simp only [Array.getD_eq_getD_getElem?] at this; exact this
            obtain ⟨fo0, fo1, fo2⟩ := BX.out.f hb'
            clear hw hF
            simp only [Oper.wp, execOp]
            try simp only [e0e]
            go_simp
            exact hK _ x (by first | rfl | (simp only [Nat.add_zero]; done) | (congr 1; omega)) (Below.refl _ _) (fun h => by cases h)
          · simp only [wpOp, List.getElem?_toArray, List.getElem?_cons_succ, List.getElem?_cons_zero, Region.wanted, if_true]
            refine Or.inl ?_
            have e0 : av.tmps.getD 3 undef = .pointer (some ⟨w.heap.size, 0, none⟩) := hF.2.2 3 (by decide)
            have e0e : av.eval (.tmp 3) = .pointer (some ⟨w.heap.size, 0, none⟩) := e0
            have e0g : av.tmps[3]?.getD undef = .pointer (some ⟨w.heap.size, 0, none⟩) := by have := e0; simp only [Array.getD_eq_getD_getElem?] at this; exact this
            clear hw hF
            simp only [Oper.wp, execOp]
            try simp only [e0e]
            go_simp
            exact hK _ x (by first | rfl | (simp only [Nat.add_zero]; done) | (congr 1; omega)) (Below.refl _ _) (fun h => by cases h)
          · simp only [wpOp, List.getElem?_toArray, List.getElem?_cons_succ, List.getElem?_cons_zero, Region.wanted, if_true]
            refine Or.inl ?_
            have e0 : av.tmps.getD 52 undef = .pointer (some ⟨w.heap.size, 1, none⟩) := (hw 2 (by kernel_rfl))
            have e0e : av.eval (.tmp 52) = .pointer (some ⟨w.heap.size, 1, none⟩) := e0
            have e0g : av.tmps[52]?.getD undef = .pointer (some ⟨w.heap.size, 1, none⟩) := by have := e0; simp only [Array.getD_eq_getD_getElem?] at this; exact this
            have fn := row_c (row_on RW.out hb') (i := 1) rfl
            clear hw hF
            simp only [Oper.wp, execOp]
            try simp only [e0e]
            go_simp
            exact hK _ x (by first | rfl | (simp only [Nat.add_zero]; done) | (congr 1; omega)) (Below.refl _ _) (fun h => by cases h)
          · simp only [wpOp, List.getElem?_toArray, List.getElem?_cons_succ, List.getElem?_cons_zero, Region.wanted, if_true]
            refine Or.inl ?_
            have e0 : av.tmps.getD 8 undef = .int .i64 (k : Int) := hF.2.2 8 (by decide)
            have e0e : av.eval (.tmp 8) = .int .i64 (k : Int) := e0
            have e0g : av.tmps[8]?.getD undef = .int .i64 (k : Int) := by have := e0; simp only [Array.getD_eq_getD_getElem?] at this; exact this
            clear hw hF
            simp only [Oper.wp, execOp]
            try simp only [e0e]
            go_simp
            exact hK _ x (by first | rfl | (simp only [Nat.add_zero]; done) | (congr 1; omega)) (Below.refl _ _) (fun h => by cases h)
          · simp only [wpOp, List.getElem?_toArray, List.getElem?_cons_succ, List.getElem?_cons_zero, Region.wanted, if_true]
            refine Or.inl ?_
            have e0 : av.tmps.getD 53 undef = .slice (some ⟨bq, oq, none⟩) ks.length c := (hw 3 (by kernel_rfl))
            have e0e : av.eval (.tmp 53) = .slice (some ⟨bq, oq, none⟩) ks.length c := e0
            have e0g : av.tmps[53]?.getD undef = .slice (some ⟨bq, oq, none⟩) ks.length c := by have := e0; simp only [Array.getD_eq_getD_getElem?] at this; exact this
            have e1 : av.tmps.getD 54 undef = .int .i64 (k : Int) := (hw 4 (by kernel_rfl))
            have e1e : av.eval (.tmp 54) = .int .i64 (k : Int) := e1
            have e1g : av.tmps[54]?.getD undef = .int .i64 (k : Int) := by have := e1; simp only [Array.getD_eq_getD_getElem?] at this; exact this
            clear hw hF
            simp only [Oper.wp, execOp]
            try simp only [e0e, e1e]
            go_simp
            exact hK _ x (by first | rfl | (simp only [Nat.add_zero]; done) | (congr 1; omega)) (Below.refl _ _) (fun h => by cases h)
        intro av x hF hb' hR _
        have e0 : av.tmps.getD 50 undef = .pointer (some ⟨w.heap.size + 2, 1, none⟩) := hR 0 (by decide)
        have e1 : av.tmps.getD 51 undef = .slice none 0 0 := hR 1 (by decide)
        have e2 : av.tmps.getD 52 undef = .pointer (some ⟨w.heap.size, 1, none⟩) := hR 2 (by decide)
        have e3 : av.tmps.getD 53 undef = .slice (some ⟨bq, oq, none⟩) ks.length c := hR 3 (by decide)
        have e4 : av.tmps.getD 54 undef = .int .i64 (k : Int) := hR 4 (by decide)
        have e5 : av.tmps.getD 55 undef = .slice Ka (k) ca := hR 5 (by decide)
        rw [hF.fold (by kernel_rfl)]
        simp only [List.foldl_cons, List.foldl_nil, e0, e1, e2, e3, e4, e5]
        simp only [Act.put, List.setIfInBounds_toArray, List.set_cons_zero, List.set_cons_succ]
        change wpOps _ _ _ [6, 7, 8] _ _
        simp only [wpOps_cons]
        clear e0 e1 e2 e3 e4 e5 hR hF
        have BY := Lib.hid (BX.out.below hb')
        have RW := Lib.hid (row_on RW.out hb')
        have RR := Lib.hid (row_on RR.out hb')
        clear hb'
        simp only [wpOp, List.getElem?_toArray, List.getElem?_cons_succ, List.getElem?_cons_zero, Region.wanted, if_true]
        refine Or.inl ?_
        refine wp_append2 sv_one et_s (.tmp 51) (.tmp 55) rfl (w.heap.size + 3) (.slice none 0 0) ([] : List (List UInt8)) y1 Z1 Ka ca (k) rfl BY.out.o1 (RKA.out _ BY.out.kb) L1.out rfl EK.out.1 BN.out.1 BY.out.bz ?_
        intro A9 c9 x9 ho9 hg9 hn9
        obtain ⟨ABX1, hA2⟩ : ∃ z, A9 = z := ⟨_, rfl⟩
        obtain ⟨cBX1, hc2⟩ : ∃ z, c9 = z := ⟨_, rfl⟩
        rw [hA2, hc2] at ho9 hn9 ⊢
        have BN := Lib.hid (BY.out.push1 ho9 hg9 hn9)
        have N9 := Lib.hid (BY.out.row1 hg9 BY.out.lt.2 BY.out.row)
        obtain ⟨VBX1, hU⟩ : ∃ U : World, U = x9.setCell ⟨w.heap.size + 2, 1, none⟩ (.slice ABX1 Z1.length cBX1) := ⟨_, rfl⟩
        rw [← hU] at BN
        have RWz := Lib.hid (show VBX1.heap[w.heap.size]? = some _ by rw [hU]; exact row_far (BY.out.row1 hg9 (by omega) RW.out) (by omega) _)
        have RRz := Lib.hid (show VBX1.heap[w.heap.size + 1]? = some _ by rw [hU]; exact row_far (BY.out.row1 hg9 (by omega) RR.out) (by omega) _)
        have f9 := row_c N9.out (i := 1) rfl
        have q9 := frozen_of_row _ _ 1 _ _ N9.out
        clear ho9 hg9 hn9 hA2 hc2 BY N9 BX RW RR
        have BX := BN
        clear BN
        have RW := RWz
        clear RWz
        have RR := RRz
        clear RRz
        go_simp
        try rw [wpOps_cons]
        simp only [wpOp, List.getElem?_toArray, List.getElem?_cons_succ, List.getElem?_cons_zero, Region.wanted, if_true]
        refine Or.inl ?_
        simp only [Oper.wp, execOp]
        go_simp
        try rw [wpOps_cons]
        simp only [wpOp, List.getElem?_toArray, List.getElem?_cons_succ, List.getElem?_cons_zero, Region.wanted, if_true]
        refine Or.inl ?_
        simp only [Oper.wp, execOp]
        go_simp
        try simp only [wpOps]
        rw [← hU]
        clear hU f9 q9
        obtain ⟨Y, hY⟩ : ∃ Y : World, Y = VBX1.alloc (.cells #[.string ⟨key.toArray⟩] 9) := ⟨_, rfl⟩
        have HY := Lib.hid hY
        have BY := Lib.hid (show Bx w Y _ _ _ _ _ _ _ _ _ _ by rw [hY]; exact BX.out.below (bda _ _))
        have RK := Lib.hid (show Rl sv Y (some ⟨VBX1.heap.size, 0, none⟩) 1 [key] by rw [hY]; exact rl_of_row (g := sv) (xs := [key]) (heap_alloc_new _ _) 1 (Nat.le_refl _))
        have RW := Lib.hid (show Y.heap[_]? = some _ by rw [hY]; exact row_on RW.out (bda _ _))
        have RR := Lib.hid (show Y.heap[_]? = some _ by rw [hY]; exact row_on RR.out (bda _ _))
        obtain ⟨fo0, fo1, fo2⟩ := BX.out.f (Below.refl _ _)
        have SY := Lib.hid (show Y.heap.size = VBX1.heap.size + 1 by rw [hY]; simp)
        clear hY
        go_wp2_with (at_builtin; refine wpList_append2 sv_one et_s rfl _ _ rfl (w.heap.size + 3) (.slice ABX1 Z1.length cBX1) Z1 [key] Z2 (some ⟨VBX1.heap.size, 0, none⟩) 1 1 rfl (by rw [← HY.out]; exact BY.out.o1) (by rw [← HY.out]; exact RK.out) rfl rfl EK.out.2.1 BN.out.2.1 (by rw [← HY.out]; exact BY.out.bz) ?_)
        rw [← HY.out]
        clear HY fo0 fo1 fo2
        intro A9 c9 x9 ho9 hg9 hn9
        rw [← SY.out] at hn9
        clear SY
        obtain ⟨ABX2, hA2⟩ : ∃ z, A9 = z := ⟨_, rfl⟩
        obtain ⟨cBX2, hc2⟩ : ∃ z, c9 = z := ⟨_, rfl⟩
        rw [hA2, hc2] at ho9 hn9 ⊢
        have BN := Lib.hid (BY.out.push1 ho9 hg9 hn9)
        have N9 := Lib.hid (BY.out.row1 hg9 BY.out.lt.2 BY.out.row)
        obtain ⟨VBX2, hU⟩ : ∃ U : World, U = x9.setCell ⟨w.heap.size + 2, 1, none⟩ (.slice ABX2 Z2.length cBX2) := ⟨_, rfl⟩
        rw [← hU] at BN
        have RWz := Lib.hid (show VBX2.heap[w.heap.size]? = some _ by rw [hU]; exact row_far (BY.out.row1 hg9 (by omega) RW.out) (by omega) _)
        have RRz := Lib.hid (show VBX2.heap[w.heap.size + 1]? = some _ by rw [hU]; exact row_far (BY.out.row1 hg9 (by omega) RR.out) (by omega) _)
        have f9 := row_c N9.out (i := 1) rfl
        have q9 := frozen_of_row _ _ 1 _ _ N9.out
        clear ho9 hg9 hn9 hA2 hc2 BY N9 BX RW RR
        have BX := BN
        clear BN
        have RW := RWz
        clear RWz
        have RR := RRz
        clear RRz
        have HU := Lib.hid hU
        clear hU RK
        go_upto_region 11 with (fail)
        rw [← HU.out]
        clear HU f9 q9
        refine wp_operands (W := VBX2) rfl 6 [64, 65, 66, 67, 68, 69] (fun i u x => match i with | 0 => u = .pointer (some ⟨w.heap.size + 2, 2, none⟩) | 1 => u = .slice none 0 0 | 2 => u = .pointer (some ⟨w.heap.size, 2, none⟩) | 3 => u = .slice B ds.length d | 4 => u = .int .i64 (n1 : Int) | 5 => u = .slice Da (n1) da | _ => True) (fun _ => false)
          (by decide) rfl (by kernel_rfl) (by kernel_rfl) (by decide) (by kernel_rfl) ?_ (fun _ _ _ h => by cases h) ?_ ?_
        · intro i u x x' hi hR hb'
          have hi' : i = 0 ∨ i = 1 ∨ i = 2 ∨ i = 3 ∨ i = 4 ∨ i = 5 := by omega
          rcases hi' with rfl | rfl | rfl | rfl | rfl | rfl
          · exact hR
          · exact hR
          · exact hR
          · exact hR
          · exact hR
          · exact hR
        · intro i av x K hi hF hb' hw hK
          have hi' : i = 0 ∨ i = 1 ∨ i = 2 ∨ i = 3 ∨ i = 4 ∨ i = 5 := by omega
          rcases hi' with rfl | rfl | rfl | rfl | rfl | rfl
          · simp only [wpOp, List.getElem?_toArray, List.getElem?_cons_zero, Region.wanted, if_true]
            refine Or.inl ?_
            have e0 : av.tmps.getD 7 undef = .pointer (some ⟨w.heap.size + 2, 0, none⟩) := hF.2.2 7 (by decide)
            have e0e : av.eval (.tmp 7) = .pointer (some ⟨w.heap.size + 2, 0, none⟩) := e0
            have e0g : av.tmps[7]?.getD undef = .pointer (some ⟨w.heap.size + 2, 0, none⟩) := by have := e0; simp only [Array.getD_eq_getD_getElem?] at this; exact this
            clear hw hF
            simp only [Oper.wp, execOp]
            try simp only [e0e]
            go_simp
            exact hK _ x (by first | rfl | (simp only [Nat.add_zero]; done) | (congr 1; omega)) (Below.refl _ _) (fun h => by cases h)
          · simp only [wpOp, List.getElem?_toArray, List.getElem?_cons_succ, List.getElem?_cons_zero, Region.wanted, if_true]
            refine Or.inl ?_
            have e0 : av.tmps.getD 64 undef = .pointer (some ⟨w.heap.size + 2, 2, none⟩) := (hw 0 (by kernel_rfl))
            have e0e : av.eval (.tmp 64) = .pointer (some ⟨w.heap.size + 2, 2, none⟩) := e0
            have e0g : av.tmps[64]?.getD undef = .pointer (some ⟨w.heap.size + 2, 2, none⟩) := by have := e0; simp only [Array.getD_eq_getD_getElem?] at this; exact this
            obtain ⟨fo0, fo1, fo2⟩ := BX.out.f hb'
            clear hw hF
            simp only [Oper.wp, execOp]
            try simp only [e0e]
            go_simp
            exact hK _ x (by first | rfl | (simp only [Nat.add_zero]; done) | (congr 1; omega)) (Below.refl _ _) (fun h => by cases h)
          · simp only [wpOp, List.getElem?_toArray, List.getElem?_cons_succ, List.getElem?_cons_zero, Region.wanted, if_true]
            refine Or.inl ?_
            have e0 : av.tmps.getD 3 undef = .pointer (some ⟨w.heap.size, 0, none⟩) := hF.2.2 3 (by decide)
            have e0e : av.eval (.tmp 3) = .pointer (some ⟨w.heap.size, 0, none⟩) := e0
            have e0g : av.tmps[3]?.getD undef = .pointer (some ⟨w.heap.size, 0, none⟩) := by have := e0; simp only [Array.getD_eq_getD_getElem?] at this; exact this
            clear hw hF
            simp only [Oper.wp, execOp]
            try simp only [e0e]
            go_simp
            exact hK _ x (by first | rfl | (simp only [Nat.add_zero]; done) | (congr 1; omega)) (Below.refl _ _) (fun h => by cases h)
          · simp only [wpOp, List.getElem?_toArray, List.getElem?_cons_succ, List.getElem?_cons_zero, Region.wanted, if_true]
            refine Or.inl ?_
            have e0 : av.tmps.getD 66 undef = .pointer (some ⟨w.heap.size, 2, none⟩) := (hw 2 (by kernel_rfl))
            have e0e : av.eval (.tmp 66) = .pointer (some ⟨w.heap.size, 2, none⟩) := e0
            have e0g : av.tmps[66]?.getD undef = .pointer (some ⟨w.heap.size, 2, none⟩) := by have := e0; simp only [Array.getD_eq_getD_getElem?] at this; exact this
            have fn := row_c (row_on RW.out hb') (i := 2) rfl
            clear hw hF
            simp only [Oper.wp, execOp]
            try simp only [e0e]
            go_simp
            exact hK _ x (by first | rfl | (simp only [Nat.add_zero]; done) | (congr 1; omega)) (Below.refl _ _) (fun h => by cases h)
          · simp only [wpOp, List.getElem?_toArray, List.getElem?_cons_succ, List.getElem?_cons_zero, Region.wanted, if_true]
            refine Or.inl ?_
            have e0 : av.tmps.getD 10 undef = .int .i64 (n1 : Int) := hF.2.2 10 (by decide)
            have e0e : av.eval (.tmp 10) = .int .i64 (n1 : Int) := e0
            have e0g : av.tmps[10]?.getD undef = .int .i64 (n1 : Int) := by have := e0; simp only [Array.getD_eq_getD_getElem?] at this; exact this
            clear hw hF
            simp only [Oper.wp, execOp]
            try simp only [e0e]
            go_simp
            exact hK _ x (by first | rfl | (simp only [Nat.add_zero]; done) | (congr 1; omega)) (Below.refl _ _) (fun h => by cases h)
          · simp only [wpOp, List.getElem?_toArray, List.getElem?_cons_succ, List.getElem?_cons_zero, Region.wanted, if_true]
            refine Or.inl ?_
            have e0 : av.tmps.getD 67 undef = .slice B ds.length d := (hw 3 (by kernel_rfl))
            have e0e : av.eval (.tmp 67) = .slice B ds.length d := e0
            have e0g : av.tmps[67]?.getD undef = .slice B ds.length d := by have := e0; simp only [Array.getD_eq_getD_getElem?] at this; exact this
            have e1 : av.tmps.getD 68 undef = .int .i64 (n1 : Int) := (hw 4 (by kernel_rfl))
            have e1e : av.eval (.tmp 68) = .int .i64 (n1 : Int) := e1
            have e1g : av.tmps[68]?.getD undef = .int .i64 (n1 : Int) := by have := e1; simp only [Array.getD_eq_getD_getElem?] at this; exact this
            clear hw hF
            simp only [Oper.wp, execOp]
            try simp only [e0e, e1e]
            go_simp
            exact hK _ x (by first | rfl | (simp only [Nat.add_zero]; done) | (congr 1; omega)) (Below.refl _ _) (fun h => by cases h)
        intro av x hF hb' hR _
        have e0 : av.tmps.getD 64 undef = .pointer (some ⟨w.heap.size + 2, 2, none⟩) := hR 0 (by decide)
        have e1 : av.tmps.getD 65 undef = .slice none 0 0 := hR 1 (by decide)
        have e2 : av.tmps.getD 66 undef = .pointer (some ⟨w.heap.size, 2, none⟩) := hR 2 (by decide)
        have e3 : av.tmps.getD 67 undef = .slice B ds.length d := hR 3 (by decide)
        have e4 : av.tmps.getD 68 undef = .int .i64 (n1 : Int) := hR 4 (by decide)
        have e5 : av.tmps.getD 69 undef = .slice Da (n1) da := hR 5 (by decide)
        rw [hF.fold (by kernel_rfl)]
        simp only [List.foldl_cons, List.foldl_nil, e0, e1, e2, e3, e4, e5]
        simp only [Act.put, List.setIfInBounds_toArray, List.set_cons_zero, List.set_cons_succ]
        change wpOps _ _ _ [6, 7, 8] _ _
        simp only [wpOps_cons]
        clear e0 e1 e2 e3 e4 e5 hR hF
        have BY := Lib.hid (BX.out.below hb')
        have RW := Lib.hid (row_on RW.out hb')
        have RR := Lib.hid (row_on RR.out hb')
        clear hb'
        simp only [wpOp, List.getElem?_toArray, List.getElem?_cons_succ, List.getElem?_cons_zero, Region.wanted, if_true]
        refine Or.inl ?_
        refine wp_append2 nv_one et_i (.tmp 65) (.tmp 69) rfl (w.heap.size + 3) (.slice none 0 0) ([] : List Int) u1 X1 Da da (n1) rfl BY.out.o2 (RDA.out _ BY.out.kb) L2.out rfl EQ.out.1 BN.out.2.2.2.1 BY.out.bz ?_
        intro A9 c9 x9 ho9 hg9 hn9
        obtain ⟨ABX3, hA2⟩ : ∃ z, A9 = z := ⟨_, rfl⟩
        obtain ⟨cBX3, hc2⟩ : ∃ z, c9 = z := ⟨_, rfl⟩
        rw [hA2, hc2] at ho9 hn9 ⊢
        have BN := Lib.hid (BY.out.push2 ho9 hg9 hn9)
        have N9 := Lib.hid (BY.out.row2 hg9 BY.out.lt.2 BY.out.row)
        obtain ⟨VBX3, hU⟩ : ∃ U : World, U = x9.setCell ⟨w.heap.size + 2, 2, none⟩ (.slice ABX3 X1.length cBX3) := ⟨_, rfl⟩
        rw [← hU] at BN
        have RWz := Lib.hid (show VBX3.heap[w.heap.size]? = some _ by rw [hU]; exact row_far (BY.out.row2 hg9 (by omega) RW.out) (by omega) _)
        have RRz := Lib.hid (show VBX3.heap[w.heap.size + 1]? = some _ by rw [hU]; exact row_far (BY.out.row2 hg9 (by omega) RR.out) (by omega) _)
        have f9 := row_c N9.out (i := 2) rfl
        have q9 := frozen_of_row _ _ 2 _ _ N9.out
        clear ho9 hg9 hn9 hA2 hc2 BY N9 BX RW RR
        have BX := BN
        clear BN
        have RW := RWz
        clear RWz
        have RR := RRz
        clear RRz
        go_simp
        try rw [wpOps_cons]
        simp only [wpOp, List.getElem?_toArray, List.getElem?_cons_succ, List.getElem?_cons_zero, Region.wanted, if_true]
        refine Or.inl ?_
        simp only [Oper.wp, execOp]
        go_simp
        try rw [wpOps_cons]
        simp only [wpOp, List.getElem?_toArray, List.getElem?_cons_succ, List.getElem?_cons_zero, Region.wanted, if_true]
        refine Or.inl ?_
        simp only [Oper.wp, execOp]
        go_simp
        try simp only [wpOps]
        rw [← hU]
        clear hU f9 q9
        obtain ⟨Y, hY⟩ : ∃ Y : World, Y = VBX3.alloc (.cells #[.int .i64 kid] 3) := ⟨_, rfl⟩
        have HY := Lib.hid hY
        have BY := Lib.hid (show Bx w Y _ _ _ _ _ _ _ _ _ _ by rw [hY]; exact BX.out.below (bda _ _))
        have RK := Lib.hid (show Rl nv Y (some ⟨VBX3.heap.size, 0, none⟩) 1 [kid] by rw [hY]; exact rl_of_row (g := nv) (xs := [kid]) (heap_alloc_new _ _) 1 (Nat.le_refl _))
        have RW := Lib.hid (show Y.heap[_]? = some _ by rw [hY]; exact row_on RW.out (bda _ _))
        have RR := Lib.hid (show Y.heap[_]? = some _ by rw [hY]; exact row_on RR.out (bda _ _))
        obtain ⟨fo0, fo1, fo2⟩ := BX.out.f (Below.refl _ _)
        have SY := Lib.hid (show Y.heap.size = VBX3.heap.size + 1 by rw [hY]; simp)
        clear hY
        go_wp2_with (at_builtin; refine wpList_append2 nv_one et_i rfl _ _ rfl (w.heap.size + 3) (.slice ABX3 X1.length cBX3) X1 [kid] X2 (some ⟨VBX3.heap.size, 0, none⟩) 1 1 rfl (by rw [← HY.out]; exact BY.out.o2) (by rw [← HY.out]; exact RK.out) rfl rfl EQ.out.2.1 BN.out.2.2.2.2.1 (by rw [← HY.out]; exact BY.out.bz) ?_)
        rw [← HY.out]
        clear HY fo0 fo1 fo2
        intro A9 c9 x9 ho9 hg9 hn9
        rw [← SY.out] at hn9
        clear SY
        obtain ⟨ABX4, hA2⟩ : ∃ z, A9 = z := ⟨_, rfl⟩
        obtain ⟨cBX4, hc2⟩ : ∃ z, c9 = z := ⟨_, rfl⟩
        rw [hA2, hc2] at ho9 hn9 ⊢
        have BN := Lib.hid (BY.out.push2 ho9 hg9 hn9)
        have N9 := Lib.hid (BY.out.row2 hg9 BY.out.lt.2 BY.out.row)
        obtain ⟨VBX4, hU⟩ : ∃ U : World, U = x9.setCell ⟨w.heap.size + 2, 2, none⟩ (.slice ABX4 X2.length cBX4) := ⟨_, rfl⟩
        rw [← hU] at BN
        have RWz := Lib.hid (show VBX4.heap[w.heap.size]? = some _ by rw [hU]; exact row_far (BY.out.row2 hg9 (by omega) RW.out) (by omega) _)
        have RRz := Lib.hid (show VBX4.heap[w.heap.size + 1]? = some _ by rw [hU]; exact row_far (BY.out.row2 hg9 (by omega) RR.out) (by omega) _)
        have f9 := row_c N9.out (i := 2) rfl
        have q9 := frozen_of_row _ _ 2 _ _ N9.out
        clear ho9 hg9 hn9 hA2 hc2 BY N9 BX RW RR
        have BX := BN
        clear BN
        have RW := RWz
        clear RWz
        have RR := RRz
        clear RRz
        have HU := Lib.hid hU
        clear hU RK
        go_upto_region 17 with (fail)
        rw [← HU.out]
        clear HU f9 q9
        refine wp_operands (W := VBX4) rfl 6 [98, 99, 100, 101, 102, 103] (fun i u x => match i with | 0 => u = .pointer (some ⟨w.heap.size + 2, 1, none⟩) | 1 => u = .slice ABX2 Z2.length cBX2 | 2 => u = .pointer (some ⟨w.heap.size, 1, none⟩) | 3 => u = .slice (some ⟨bq, oq, none⟩) ks.length c | 4 => u = .int .i64 (k : Int) | 5 => u = .slice Kb (ks.length - k) cb | _ => True) (fun _ => false)
          (by decide) rfl (by kernel_rfl) (by kernel_rfl) (by decide) (by kernel_rfl) ?_ (fun _ _ _ h => by cases h) ?_ ?_
        · intro i u x x' hi hR hb'
          have hi' : i = 0 ∨ i = 1 ∨ i = 2 ∨ i = 3 ∨ i = 4 ∨ i = 5 := by omega
          rcases hi' with rfl | rfl | rfl | rfl | rfl | rfl
          · exact hR
          · exact hR
          · exact hR
          · exact hR
          · exact hR
          · exact hR
        · intro i av x K hi hF hb' hw hK
          have hi' : i = 0 ∨ i = 1 ∨ i = 2 ∨ i = 3 ∨ i = 4 ∨ i = 5 := by omega
          rcases hi' with rfl | rfl | rfl | rfl | rfl | rfl
          · simp only [wpOp, List.getElem?_toArray, List.getElem?_cons_zero, Region.wanted, if_true]
            refine Or.inl ?_
            have e0 : av.tmps.getD 7 undef = .pointer (some ⟨w.heap.size + 2, 0, none⟩) := hF.2.2 7 (by decide)
            have e0e : av.eval (.tmp 7) = .pointer (some ⟨w.heap.size + 2, 0, none⟩) := e0
            have e0g : av.tmps[7]?.getD undef = .pointer (some ⟨w.heap.size + 2, 0, none⟩) := by have := e0; simp only [Array.getD_eq_getD_getElem?] at this; exact this
            clear hw hF
            simp only [Oper.wp, execOp]
            try simp only [e0e]
            go_simp
            exact hK _ x (by first | rfl | (simp only [Nat.add_zero]; done) | (congr 1; omega)) (Below.refl _ _) (fun h => by cases h)
          · simp only [wpOp, List.getElem?_toArray, List.getElem?_cons_succ, List.getElem?_cons_zero, Region.wanted, if_true]
            refine Or.inl ?_
            have e0 : av.tmps.getD 98 undef = .pointer (some ⟨w.heap.size + 2, 1, none⟩) := (hw 0 (by kernel_rfl))
            have e0e : av.eval (.tmp 98) = .pointer (some ⟨w.heap.size + 2, 1, none⟩) := e0
            have e0g : av.tmps[98]?.getD undef = .pointer (some ⟨w.heap.size + 2, 1, none⟩) := by have := e0; simp only [Array.getD_eq_getD_getElem?] at this; exact this
            obtain ⟨fo0, fo1, fo2⟩ := BX.out.f hb'
            clear hw hF
            simp only [Oper.wp, execOp]
            try simp only [e0e]
            go_simp
            exact hK _ x (by first | rfl | (simp only [Nat.add_zero]; done) | (congr 1; omega)) (Below.refl _ _) (fun h => by cases h)
          · simp only [wpOp, List.getElem?_toArray, List.getElem?_cons_succ, List.getElem?_cons_zero, Region.wanted, if_true]
            refine Or.inl ?_
            have e0 : av.tmps.getD 3 undef = .pointer (some ⟨w.heap.size, 0, none⟩) := hF.2.2 3 (by decide)
            have e0e : av.eval (.tmp 3) = .pointer (some ⟨w.heap.size, 0, none⟩) := e0
            have e0g : av.tmps[3]?.getD undef = .pointer (some ⟨w.heap.size, 0, none⟩) := by have := e0; simp only [Array.getD_eq_getD_getElem?] at this; exact this
            clear hw hF
            simp only [Oper.wp, execOp]
            try simp only [e0e]
            go_simp
            exact hK _ x (by first | rfl | (simp only [Nat.add_zero]; done) | (congr 1; omega)) (Below.refl _ _) (fun h => by cases h)
          · simp only [wpOp, List.getElem?_toArray, List.getElem?_cons_succ, List.getElem?_cons_zero, Region.wanted, if_true]
            refine Or.inl ?_
            have e0 : av.tmps.getD 100 undef = .pointer (some ⟨w.heap.size, 1, none⟩) := (hw 2 (by kernel_rfl))
            have e0e : av.eval (.tmp 100) = .pointer (some ⟨w.heap.size, 1, none⟩) := e0
            have e0g : av.tmps[100]?.getD undef = .pointer (some ⟨w.heap.size, 1, none⟩) := by have := e0; simp only [Array.getD_eq_getD_getElem?] at this; exact this
            have fn := row_c (row_on RW.out hb') (i := 1) rfl
            clear hw hF
            simp only [Oper.wp, execOp]
            try simp only [e0e]
            go_simp
            exact hK _ x (by first | rfl | (simp only [Nat.add_zero]; done) | (congr 1; omega)) (Below.refl _ _) (fun h => by cases h)
          · simp only [wpOp, List.getElem?_toArray, List.getElem?_cons_succ, List.getElem?_cons_zero, Region.wanted, if_true]
            refine Or.inl ?_
            have e0 : av.tmps.getD 8 undef = .int .i64 (k : Int) := hF.2.2 8 (by decide)
            have e0e : av.eval (.tmp 8) = .int .i64 (k : Int) := e0
            have e0g : av.tmps[8]?.getD undef = .int .i64 (k : Int) := by have := e0; simp only [Array.getD_eq_getD_getElem?] at this; exact this
            clear hw hF
            simp only [Oper.wp, execOp]
            try simp only [e0e]
            go_simp
            exact hK _ x (by first | rfl | (simp only [Nat.add_zero]; done) | (congr 1; omega)) (Below.refl _ _) (fun h => by cases h)
          · simp only [wpOp, List.getElem?_toArray, List.getElem?_cons_succ, List.getElem?_cons_zero, Region.wanted, if_true]
            refine Or.inl ?_
            have e0 : av.tmps.getD 101 undef = .slice (some ⟨bq, oq, none⟩) ks.length c := (hw 3 (by kernel_rfl))
            have e0e : av.eval (.tmp 101) = .slice (some ⟨bq, oq, none⟩) ks.length c := e0
            have e0g : av.tmps[101]?.getD undef = .slice (some ⟨bq, oq, none⟩) ks.length c := by have := e0; simp only [Array.getD_eq_getD_getElem?] at this; exact this
            have e1 : av.tmps.getD 102 undef = .int .i64 (k : Int) := (hw 4 (by kernel_rfl))
            have e1e : av.eval (.tmp 102) = .int .i64 (k : Int) := e1
            have e1g : av.tmps[102]?.getD undef = .int .i64 (k : Int) := by have := e1; simp only [Array.getD_eq_getD_getElem?] at this; exact this
            clear hw hF
            simp only [Oper.wp, execOp]
            try simp only [e0e, e1e]
            go_simp
            exact hK _ x (by first | rfl | (simp only [Nat.add_zero]; done) | (congr 1; omega)) (Below.refl _ _) (fun h => by cases h)
        intro av x hF hb' hR _
        have e0 : av.tmps.getD 98 undef = .pointer (some ⟨w.heap.size + 2, 1, none⟩) := hR 0 (by decide)
        have e1 : av.tmps.getD 99 undef = .slice ABX2 Z2.length cBX2 := hR 1 (by decide)
        have e2 : av.tmps.getD 100 undef = .pointer (some ⟨w.heap.size, 1, none⟩) := hR 2 (by decide)
        have e3 : av.tmps.getD 101 undef = .slice (some ⟨bq, oq, none⟩) ks.length c := hR 3 (by decide)
        have e4 : av.tmps.getD 102 undef = .int .i64 (k : Int) := hR 4 (by decide)
        have e5 : av.tmps.getD 103 undef = .slice Kb (ks.length - k) cb := hR 5 (by decide)
        rw [hF.fold (by kernel_rfl)]
        simp only [List.foldl_cons, List.foldl_nil, e0, e1, e2, e3, e4, e5]
        simp only [Act.put, List.setIfInBounds_toArray, List.set_cons_zero, List.set_cons_succ]
        change wpOps _ _ _ [6, 7, 8] _ _
        simp only [wpOps_cons]
        clear e0 e1 e2 e3 e4 e5 hR hF
        have BY := Lib.hid (BX.out.below hb')
        have RW := Lib.hid (row_on RW.out hb')
        have RR := Lib.hid (row_on RR.out hb')
        clear hb'
        simp only [wpOp, List.getElem?_toArray, List.getElem?_cons_succ, List.getElem?_cons_zero, Region.wanted, if_true]
        refine Or.inl ?_
        refine wp_append2 sv_one et_s (.tmp 99) (.tmp 103) rfl (w.heap.size + 3) (.slice ABX2 Z2.length cBX2) Z2 y3 Z3 Kb cb (ks.length - k) rfl BY.out.o1 (RKB.out _ BY.out.kb) L3.out rfl EK.out.2.2 BN.out.2.2.1 BY.out.bz ?_
        intro A9 c9 x9 ho9 hg9 hn9
        obtain ⟨ABX5, hA2⟩ : ∃ z, A9 = z := ⟨_, rfl⟩
        obtain ⟨cBX5, hc2⟩ : ∃ z, c9 = z := ⟨_, rfl⟩
        rw [hA2, hc2] at ho9 hn9 ⊢
        have BN := Lib.hid (BY.out.push1 ho9 hg9 hn9)
        have N9 := Lib.hid (BY.out.row1 hg9 BY.out.lt.2 BY.out.row)
        obtain ⟨VBX5, hU⟩ : ∃ U : World, U = x9.setCell ⟨w.heap.size + 2, 1, none⟩ (.slice ABX5 Z3.length cBX5) := ⟨_, rfl⟩
        rw [← hU] at BN
        have RWz := Lib.hid (show VBX5.heap[w.heap.size]? = some _ by rw [hU]; exact row_far (BY.out.row1 hg9 (by omega) RW.out) (by omega) _)
        have RRz := Lib.hid (show VBX5.heap[w.heap.size + 1]? = some _ by rw [hU]; exact row_far (BY.out.row1 hg9 (by omega) RR.out) (by omega) _)
        have f9 := row_c N9.out (i := 1) rfl
        have q9 := frozen_of_row _ _ 1 _ _ N9.out
        clear ho9 hg9 hn9 hA2 hc2 BY N9 BX RW RR
        have BX := BN
        clear BN
        have RW := RWz
        clear RWz
        have RR := RRz
        clear RRz
        go_simp
        try rw [wpOps_cons]
        simp only [wpOp, List.getElem?_toArray, List.getElem?_cons_succ, List.getElem?_cons_zero, Region.wanted, if_true]
        refine Or.inl ?_
        simp only [Oper.wp, execOp]
        go_simp
        try rw [wpOps_cons]
        simp only [wpOp, List.getElem?_toArray, List.getElem?_cons_succ, List.getElem?_cons_zero, Region.wanted, if_true]
        refine Or.inl ?_
        simp only [Oper.wp, execOp]
        go_simp
        try simp only [wpOps]
        rw [← hU]
        clear hU f9 q9
        go_upto_region 18 with (fail)
        refine wp_operands (W := VBX5) rfl 6 [106, 107, 108, 109, 110, 111] (fun i u x => match i with | 0 => u = .pointer (some ⟨w.heap.size + 2, 2, none⟩) | 1 => u = .slice ABX4 X2.length cBX4 | 2 => u = .pointer (some ⟨w.heap.size, 2, none⟩) | 3 => u = .slice B ds.length d | 4 => u = .int .i64 (n1 : Int) | 5 => u = .slice Db (ds.length - n1) db | _ => True) (fun _ => false)
          (by decide) rfl (by kernel_rfl) (by kernel_rfl) (by decide) (by kernel_rfl) ?_ (fun _ _ _ h => by cases h) ?_ ?_
        · intro i u x x' hi hR hb'
          have hi' : i = 0 ∨ i = 1 ∨ i = 2 ∨ i = 3 ∨ i = 4 ∨ i = 5 := by omega
          rcases hi' with rfl | rfl | rfl | rfl | rfl | rfl
          · exact hR
          · exact hR
          · exact hR
          · exact hR
          · exact hR
          · exact hR
        · intro i av x K hi hF hb' hw hK
          have hi' : i = 0 ∨ i = 1 ∨ i = 2 ∨ i = 3 ∨ i = 4 ∨ i = 5 := by omega
          rcases hi' with rfl | rfl | rfl | rfl | rfl | rfl
          · simp only [wpOp, List.getElem?_toArray, List.getElem?_cons_zero, Region.wanted, if_true]
            refine Or.inl ?_
            have e0 : av.tmps.getD 7 undef = .pointer (some ⟨w.heap.size + 2, 0, none⟩) := hF.2.2 7 (by decide)
            have e0e : av.eval (.tmp 7) = .pointer (some ⟨w.heap.size + 2, 0, none⟩) := e0
            have e0g : av.tmps[7]?.getD undef = .pointer (some ⟨w.heap.size + 2, 0, none⟩) := by have := e0; simp only [Array.getD_eq_getD_getElem?] at this; exact this
            clear hw hF
            simp only [Oper.wp, execOp]
            try simp only [e0e]
            go_simp
            exact hK _ x (by first | rfl | (simp only [Nat.add_zero]; done) | (congr 1; omega)) (Below.refl _ _) (fun h => by cases h)
          · simp only [wpOp, List.getElem?_toArray, List.getElem?_cons_succ, List.getElem?_cons_zero, Region.wanted, if_true]
            refine Or.inl ?_
            have e0 : av.tmps.getD 106 undef = .pointer (some ⟨w.heap.size + 2, 2, none⟩) := (hw 0 (by kernel_rfl))
            have e0e : av.eval (.tmp 106) = .pointer (some ⟨w.heap.size + 2, 2, none⟩) := e0
            have e0g : av.tmps[106]?.getD undef = .pointer (some ⟨w.heap.size + 2, 2, none⟩) := by have := e0; simp only [Array.getD_eq_getD_getElem?] at this; exact this
            obtain ⟨fo0, fo1, fo2⟩ := BX.out.f hb'
            clear hw hF
            simp only [Oper.wp, execOp]
            try simp only [e0e]
            go_simp
            exact hK _ x (by first | rfl | (simp only [Nat.add_zero]; done) | (congr 1; omega)) (Below.refl _ _) (fun h => by cases h)
          · simp only [wpOp, List.getElem?_toArray, List.getElem?_cons_succ, List.getElem?_cons_zero, Region.wanted, if_true]
            refine Or.inl ?_
            have e0 : av.tmps.getD 3 undef = .pointer (some ⟨w.heap.size, 0, none⟩) := hF.2.2 3 (by decide)
            have e0e : av.eval (.tmp 3) = .pointer (some ⟨w.heap.size, 0, none⟩) := e0
            have e0g : av.tmps[3]?.getD undef = .pointer (some ⟨w.heap.size, 0, none⟩) := by have := e0; simp only [Array.getD_eq_getD_getElem?] at this; exact this
            clear hw hF
            simp only [Oper.wp, execOp]
            try simp only [e0e]
            go_simp
            exact hK _ x (by first | rfl | (simp only [Nat.add_zero]; done) | (congr 1; omega)) (Below.refl _ _) (fun h => by cases h)
          · simp only [wpOp, List.getElem?_toArray, List.getElem?_cons_succ, List.getElem?_cons_zero, Region.wanted, if_true]
            refine Or.inl ?_
            have e0 : av.tmps.getD 108 undef = .pointer (some ⟨w.heap.size, 2, none⟩) := (hw 2 (by kernel_rfl))
            have e0e : av.eval (.tmp 108) = .pointer (some ⟨w.heap.size, 2, none⟩) := e0
            have e0g : av.tmps[108]?.getD undef = .pointer (some ⟨w.heap.size, 2, none⟩) := by have := e0; simp only [Array.getD_eq_getD_getElem?] at this; exact this
            have fn := row_c (row_on RW.out hb') (i := 2) rfl
            clear hw hF
            simp only [Oper.wp, execOp]
            try simp only [e0e]
            go_simp
            exact hK _ x (by first | rfl | (simp only [Nat.add_zero]; done) | (congr 1; omega)) (Below.refl _ _) (fun h => by cases h)
          · simp only [wpOp, List.getElem?_toArray, List.getElem?_cons_succ, List.getElem?_cons_zero, Region.wanted, if_true]
            refine Or.inl ?_
            have e0 : av.tmps.getD 10 undef = .int .i64 (n1 : Int) := hF.2.2 10 (by decide)
            have e0e : av.eval (.tmp 10) = .int .i64 (n1 : Int) := e0
            have e0g : av.tmps[10]?.getD undef = .int .i64 (n1 : Int) := by have := e0; simp only [Array.getD_eq_getD_getElem?] at this; exact this
            clear hw hF
            simp only [Oper.wp, execOp]
            try simp only [e0e]
            go_simp
            exact hK _ x (by first | rfl | (simp only [Nat.add_zero]; done) | (congr 1; omega)) (Below.refl _ _) (fun h => by cases h)
          · simp only [wpOp, List.getElem?_toArray, List.getElem?_cons_succ, List.getElem?_cons_zero, Region.wanted, if_true]
            refine Or.inl ?_
            have e0 : av.tmps.getD 109 undef = .slice B ds.length d := (hw 3 (by kernel_rfl))
            have e0e : av.eval (.tmp 109) = .slice B ds.length d := e0
            have e0g : av.tmps[109]?.getD undef = .slice B ds.length d := by have := e0; simp only [Array.getD_eq_getD_getElem?] at this; exact this
            have e1 : av.tmps.getD 110 undef = .int .i64 (n1 : Int) := (hw 4 (by kernel_rfl))
            have e1e : av.eval (.tmp 110) = .int .i64 (n1 : Int) := e1
            have e1g : av.tmps[110]?.getD undef = .int .i64 (n1 : Int) := by have := e1; simp only [Array.getD_eq_getD_getElem?] at this; exact this
            clear hw hF
            simp only [Oper.wp, execOp]
            try simp only [e0e, e1e]
            go_simp
            exact hK _ x (by first | rfl | (simp only [Nat.add_zero]; done) | (congr 1; omega)) (Below.refl _ _) (fun h => by cases h)
        intro av x hF hb' hR _
        have e0 : av.tmps.getD 106 undef = .pointer (some ⟨w.heap.size + 2, 2, none⟩) := hR 0 (by decide)
        have e1 : av.tmps.getD 107 undef = .slice ABX4 X2.length cBX4 := hR 1 (by decide)
        have e2 : av.tmps.getD 108 undef = .pointer (some ⟨w.heap.size, 2, none⟩) := hR 2 (by decide)
        have e3 : av.tmps.getD 109 undef = .slice B ds.length d := hR 3 (by decide)
        have e4 : av.tmps.getD 110 undef = .int .i64 (n1 : Int) := hR 4 (by decide)
        have e5 : av.tmps.getD 111 undef = .slice Db (ds.length - n1) db := hR 5 (by decide)
        rw [hF.fold (by kernel_rfl)]
        simp only [List.foldl_cons, List.foldl_nil, e0, e1, e2, e3, e4, e5]
        simp only [Act.put, List.setIfInBounds_toArray, List.set_cons_zero, List.set_cons_succ]
        change wpOps _ _ _ [6, 7, 8] _ _
        simp only [wpOps_cons]
        clear e0 e1 e2 e3 e4 e5 hR hF
        have BY := Lib.hid (BX.out.below hb')
        have RW := Lib.hid (row_on RW.out hb')
        have RR := Lib.hid (row_on RR.out hb')
        clear hb'
        simp only [wpOp, List.getElem?_toArray, List.getElem?_cons_succ, List.getElem?_cons_zero, Region.wanted, if_true]
        refine Or.inl ?_
        refine wp_append2 nv_one et_i (.tmp 107) (.tmp 111) rfl (w.heap.size + 3) (.slice ABX4 X2.length cBX4) X2 u3 X3 Db db (ds.length - n1) rfl BY.out.o2 (RDB.out _ BY.out.kb) L4.out rfl EQ.out.2.2 BN.out.2.2.2.2.2 BY.out.bz ?_
        intro A9 c9 x9 ho9 hg9 hn9
        obtain ⟨ABX6, hA2⟩ : ∃ z, A9 = z := ⟨_, rfl⟩
        obtain ⟨cBX6, hc2⟩ : ∃ z, c9 = z := ⟨_, rfl⟩
        rw [hA2, hc2] at ho9 hn9 ⊢
        have BN := Lib.hid (BY.out.push2 ho9 hg9 hn9)
        have N9 := Lib.hid (BY.out.row2 hg9 BY.out.lt.2 BY.out.row)
        obtain ⟨VBX6, hU⟩ : ∃ U : World, U = x9.setCell ⟨w.heap.size + 2, 2, none⟩ (.slice ABX6 X3.length cBX6) := ⟨_, rfl⟩
        rw [← hU] at BN
        have RWz := Lib.hid (show VBX6.heap[w.heap.size]? = some _ by rw [hU]; exact row_far (BY.out.row2 hg9 (by omega) RW.out) (by omega) _)
        have RRz := Lib.hid (show VBX6.heap[w.heap.size + 1]? = some _ by rw [hU]; exact row_far (BY.out.row2 hg9 (by omega) RR.out) (by omega) _)
        have f9 := row_c N9.out (i := 2) rfl
        have q9 := frozen_of_row _ _ 2 _ _ N9.out
        clear ho9 hg9 hn9 hA2 hc2 BY N9 BX RW RR
        have BX := BN
        clear BN
        have RW := RWz
        clear RWz
        have RR := RRz
        clear RRz
        go_simp
        try rw [wpOps_cons]
        simp only [wpOp, List.getElem?_toArray, List.getElem?_cons_succ, List.getElem?_cons_zero, Region.wanted, if_true]
        refine Or.inl ?_
        simp only [Oper.wp, execOp]
        go_simp
        try rw [wpOps_cons]
        simp only [wpOp, List.getElem?_toArray, List.getElem?_cons_succ, List.getElem?_cons_zero, Region.wanted, if_true]
        refine Or.inl ?_
        simp only [Oper.wp, execOp]
        go_simp
        try simp only [wpOps]
        rw [← hU]
        clear hU f9 q9
        obtain ⟨fo0, fo1, fo2⟩ := BX.out.f (Below.refl _ _)
        have p0 := row_c RR.out (i := 0) rfl
        have p1 := row_c RR.out (i := 1) rfl
        have p2 := row_c RR.out (i := 2) rfl
        have y0 := frozen_of_row _ _ 0 _ _ RR.out
        have y1 := frozen_of_row _ _ 1 _ _ RR.out
        have y2 := frozen_of_row _ _ 2 _ _ RR.out
        go_wp2
        refine bodyPost_ret (v := .agg #[.bool false, .slice ABX5 Z3.length cBX5, .slice ABX6 X3.length cBX6]) (by simp [results, Try.results26, go_sem, p0, p1, p2]) rfl ⟨ABX5, cBX5, ABX6, cBX6, rfl, ?_, ?_, ?_⟩
        · exact ((BX.out.rl.1.set BX.out.rl.2.2.1 (by omega) _ _).set BX.out.rl.2.2.1 (by omega) _ _).set BX.out.rl.2.2.1 (by omega) _ _
        · exact ((BX.out.rl.2.1.set BX.out.rl.2.2.2 (by omega) _ _).set BX.out.rl.2.2.2 (by omega) _ _).set BX.out.rl.2.2.2 (by omega) _ _
        · exact ((BX.out.kb.setCell (by simp) _).setCell (by simp) _).setCell (by simp) _
      · have k9 : decide (k < ks.length) = false := decide_eq_false hn
        have k8 : decide ((k : Int) < (ks.length : Int)) = false := decide_eq_false (by omega)
        clear hn
        have BX := Lib.hid (Bx.fresh (base := w.heap.size + 3) (row_on RO.out hb.out) KW.out (heap_lt (row_on RO.out hb.out)) ⟨by omega, by omega⟩)
        have RWx := Lib.hid (row_on RW.out hb.out)
        have RRx := Lib.hid (row_on RR.out hb.out)
        clear RW RR RO hb KW B1
        have RW := RWx
        have RR := RRx
        clear RWx RRx
        obtain ⟨Vs, hVs⟩ : ∃ z, wr = z := ⟨_, rfl⟩
        rw [hVs] at BX RW RR f0 f1 ⊢
        clear hVs
        go_upto_region 9 with (fail)
        clear f0 f1 k9 k8
        refine wp_operands (W := Vs) rfl 6 [50, 51, 52, 53, 54, 55] (fun i u x => match i with | 0 => u = .pointer (some ⟨w.heap.size + 2, 1, none⟩) | 1 => u = .slice none 0 0 | 2 => u = .pointer (some ⟨w.heap.size, 1, none⟩) | 3 => u = .slice A ks.length c | 4 => u = .int .i64 (k : Int) | 5 => u = .slice Ka (k) ca | _ => True) (fun _ => false)
          (by decide) rfl (by kernel_rfl) (by kernel_rfl) (by decide) (by kernel_rfl) ?_ (fun _ _ _ h => by cases h) ?_ ?_
        · intro i u x x' hi hR hb'
          have hi' : i = 0 ∨ i = 1 ∨ i = 2 ∨ i = 3 ∨ i = 4 ∨ i = 5 := by omega
          rcases hi' with rfl | rfl | rfl | rfl | rfl | rfl
          · exact hR
          · exact hR
          · exact hR
          · exact hR
          · exact hR
          · exact hR
        · intro i av x K hi hF hb' hw hK
          have hi' : i = 0 ∨ i = 1 ∨ i = 2 ∨ i = 3 ∨ i = 4 ∨ i = 5 := by omega
          rcases hi' with rfl | rfl | rfl | rfl | rfl | rfl
          · simp only [wpOp, List.getElem?_toArray, List.getElem?_cons_zero, Region.wanted, if_true]
            refine Or.inl ?_
            have e0 : av.tmps.getD 7 undef = .pointer (some ⟨w.heap.size + 2, 0, none⟩) := hF.2.2 7 (by decide)
            have e0e : av.eval (.tmp 7) = .pointer (some ⟨w.heap.size + 2, 0, none⟩) := e0
            have e0g : av.tmps[7]?.getD undef = .pointer (some ⟨w.heap.size + 2, 0, none⟩) := by have := e0; simp only [Array.getD_eq_getD_getElem?] at this; exact this
            clear hw hF
            simp only [Oper.wp, execOp]
            try simp only [e0e]
            go_simp
            exact hK _ x (by first | rfl | (simp only [Nat.add_zero]; done) | (congr 1; omega)) (Below.refl _ _) (fun h => by cases h)
          · simp only [wpOp, List.getElem?_toArray, List.getElem?_cons_succ, List.getElem?_cons_zero, Region.wanted, if_true]
            refine Or.inl ?_
            have e0 : av.tmps.getD 50 undef = .pointer (some ⟨w.heap.size + 2, 1, none⟩) := (hw 0 (by kernel_rfl))
            have e0e : av.eval (.tmp 50) = .pointer (some ⟨w.heap.size + 2, 1, none⟩) := e0
            have e0g : av.tmps[50]?.getD undef = .pointer (some ⟨w.heap.size + 2, 1, none⟩) := by have := e0; simp only [Array.getD_eq_getD_getElem?] at this; exact this
            obtain ⟨fo0, fo1, fo2⟩ := BX.out.f hb'
            clear hw hF
            simp only [Oper.wp, execOp]
            try simp only [e0e]
            go_simp
            exact hK _ x (by first | rfl | (simp only [Nat.add_zero]; done) | (congr 1; omega)) (Below.refl _ _) (fun h => by cases h)
          · simp only [wpOp, List.getElem?_toArray, List.getElem?_cons_succ, List.getElem?_cons_zero, Region.wanted, if_true]
            refine Or.inl ?_
            have e0 : av.tmps.getD 3 undef = .pointer (some ⟨w.heap.size, 0, none⟩) := hF.2.2 3 (by decide)
            have e0e : av.eval (.tmp 3) = .pointer (some ⟨w.heap.size, 0, none⟩) := e0
            have e0g : av.tmps[3]?.getD undef = .pointer (some ⟨w.heap.size, 0, none⟩) := by have := e0; simp only [Array.getD_eq_getD_getElem?] at this; exact this
            clear hw hF
            simp only [Oper.wp, execOp]
            try simp only [e0e]
            go_simp
            exact hK _ x (by first | rfl | (simp only [Nat.add_zero]; done) | (congr 1; omega)) (Below.refl _ _) (fun h => by cases h)
          · simp only [wpOp, List.getElem?_toArray, List.getElem?_cons_succ, List.getElem?_cons_zero, Region.wanted, if_true]
            refine Or.inl ?_
            have e0 : av.tmps.getD 52 undef = .pointer (some ⟨w.heap.size, 1, none⟩) := (hw 2 (by kernel_rfl))
            have e0e : av.eval (.tmp 52) = .pointer (some ⟨w.heap.size, 1, none⟩) := e0
            have e0g : av.tmps[52]?.getD undef = .pointer (some ⟨w.heap.size, 1, none⟩) := by have := e0; simp only [Array.getD_eq_getD_getElem?] at this; exact this
            have fn := row_c (row_on RW.out hb') (i := 1) rfl
            clear hw hF
            simp only [Oper.wp, execOp]
            try simp only [e0e]
            go_simp
            exact hK _ x (by first | rfl | (simp only [Nat.add_zero]; done) | (congr 1; omega)) (Below.refl _ _) (fun h => by cases h)
          · simp only [wpOp, List.getElem?_toArray, List.getElem?_cons_succ, List.getElem?_cons_zero, Region.wanted, if_true]
            refine Or.inl ?_
            have e0 : av.tmps.getD 8 undef = .int .i64 (k : Int) := hF.2.2 8 (by decide)
            have e0e : av.eval (.tmp 8) = .int .i64 (k : Int) := e0
            have e0g : av.tmps[8]?.getD undef = .int .i64 (k : Int) := by have := e0; simp only [Array.getD_eq_getD_getElem?] at this; exact this
            clear hw hF
            simp only [Oper.wp, execOp]
            try simp only [e0e]
            go_simp
            exact hK _ x (by first | rfl | (simp only [Nat.add_zero]; done) | (congr 1; omega)) (Below.refl _ _) (fun h => by cases h)
          · simp only [wpOp, List.getElem?_toArray, List.getElem?_cons_succ, List.getElem?_cons_zero, Region.wanted, if_true]
            refine Or.inl ?_
            have e0 : av.tmps.getD 53 undef = .slice A ks.length c := (hw 3 (by kernel_rfl))
            have e0e : av.eval (.tmp 53) = .slice A ks.length c := e0
            have e0g : av.tmps[53]?.getD undef = .slice A ks.length c := by have := e0; simp only [Array.getD_eq_getD_getElem?] at this; exact this
            have e1 : av.tmps.getD 54 undef = .int .i64 (k : Int) := (hw 4 (by kernel_rfl))
            have e1e : av.eval (.tmp 54) = .int .i64 (k : Int) := e1
            have e1g : av.tmps[54]?.getD undef = .int .i64 (k : Int) := by have := e1; simp only [Array.getD_eq_getD_getElem?] at this; exact this
            clear hw hF
            simp only [Oper.wp, execOp]
            try simp only [e0e, e1e]
            go_simp
            exact hK _ x (by first | rfl | (simp only [Nat.add_zero]; done) | (congr 1; omega)) (Below.refl _ _) (fun h => by cases h)
        intro av x hF hb' hR _
        have e0 : av.tmps.getD 50 undef = .pointer (some ⟨w.heap.size + 2, 1, none⟩) := hR 0 (by decide)
        have e1 : av.tmps.getD 51 undef = .slice none 0 0 := hR 1 (by decide)
        have e2 : av.tmps.getD 52 undef = .pointer (some ⟨w.heap.size, 1, none⟩) := hR 2 (by decide)
        have e3 : av.tmps.getD 53 undef = .slice A ks.length c := hR 3 (by decide)
        have e4 : av.tmps.getD 54 undef = .int .i64 (k : Int) := hR 4 (by decide)
        have e5 : av.tmps.getD 55 undef = .slice Ka (k) ca := hR 5 (by decide)
        rw [hF.fold (by kernel_rfl)]
        simp only [List.foldl_cons, List.foldl_nil, e0, e1, e2, e3, e4, e5]
        simp only [Act.put, List.setIfInBounds_toArray, List.set_cons_zero, List.set_cons_succ]
        change wpOps _ _ _ [6, 7, 8] _ _
        simp only [wpOps_cons]
        clear e0 e1 e2 e3 e4 e5 hR hF
        have BY := Lib.hid (BX.out.below hb')
        have RW := Lib.hid (row_on RW.out hb')
        have RR := Lib.hid (row_on RR.out hb')
        clear hb'
        simp only [wpOp, List.getElem?_toArray, List.getElem?_cons_succ, List.getElem?_cons_zero, Region.wanted, if_true]
        refine Or.inl ?_
        refine wp_append2 sv_one et_s (.tmp 51) (.tmp 55) rfl (w.heap.size + 3) (.slice none 0 0) ([] : List (List UInt8)) y1 Z1 Ka ca (k) rfl BY.out.o1 (RKA.out _ BY.out.kb) L1.out rfl EK.out.1 BN.out.1 BY.out.bz ?_
        intro A9 c9 x9 ho9 hg9 hn9
        obtain ⟨ABX1, hA2⟩ : ∃ z, A9 = z := ⟨_, rfl⟩
        obtain ⟨cBX1, hc2⟩ : ∃ z, c9 = z := ⟨_, rfl⟩
        rw [hA2, hc2] at ho9 hn9 ⊢
        have BN := Lib.hid (BY.out.push1 ho9 hg9 hn9)
        have N9 := Lib.hid (BY.out.row1 hg9 BY.out.lt.2 BY.out.row)
        obtain ⟨VBX1, hU⟩ : ∃ U : World, U = x9.setCell ⟨w.heap.size + 2, 1, none⟩ (.slice ABX1 Z1.length cBX1) := ⟨_, rfl⟩
        rw [← hU] at BN
        have RWz := Lib.hid (show VBX1.heap[w.heap.size]? = some _ by rw [hU]; exact row_far (BY.out.row1 hg9 (by omega) RW.out) (by omega) _)
        have RRz := Lib.hid (show VBX1.heap[w.heap.size + 1]? = some _ by rw [hU]; exact row_far (BY.out.row1 hg9 (by omega) RR.out) (by omega) _)
        have f9 := row_c N9.out (i := 1) rfl
        have q9 := frozen_of_row _ _ 1 _ _ N9.out
        clear ho9 hg9 hn9 hA2 hc2 BY N9 BX RW RR
        have BX := BN
        clear BN
        have RW := RWz
        clear RWz
        have RR := RRz
        clear RRz
        go_simp
        try rw [wpOps_cons]
        simp only [wpOp, List.getElem?_toArray, List.getElem?_cons_succ, List.getElem?_cons_zero, Region.wanted, if_true]
        refine Or.inl ?_
        simp only [Oper.wp, execOp]
        go_simp
        try rw [wpOps_cons]
        simp only [wpOp, List.getElem?_toArray, List.getElem?_cons_succ, List.getElem?_cons_zero, Region.wanted, if_true]
        refine Or.inl ?_
        simp only [Oper.wp, execOp]
        go_simp
        try simp only [wpOps]
        rw [← hU]
        clear hU f9 q9
        obtain ⟨Y, hY⟩ : ∃ Y : World, Y = VBX1.alloc (.cells #[.string ⟨key.toArray⟩] 9) := ⟨_, rfl⟩
        have HY := Lib.hid hY
        have BY := Lib.hid (show Bx w Y _ _ _ _ _ _ _ _ _ _ by rw [hY]; exact BX.out.below (bda _ _))
        have RK := Lib.hid (show Rl sv Y (some ⟨VBX1.heap.size, 0, none⟩) 1 [key] by rw [hY]; exact rl_of_row (g := sv) (xs := [key]) (heap_alloc_new _ _) 1 (Nat.le_refl _))
        have RW := Lib.hid (show Y.heap[_]? = some _ by rw [hY]; exact row_on RW.out (bda _ _))
        have RR := Lib.hid (show Y.heap[_]? = some _ by rw [hY]; exact row_on RR.out (bda _ _))
        obtain ⟨fo0, fo1, fo2⟩ := BX.out.f (Below.refl _ _)
        have SY := Lib.hid (show Y.heap.size = VBX1.heap.size + 1 by rw [hY]; simp)
        clear hY
        go_wp2_with (at_builtin; refine wpList_append2 sv_one et_s rfl _ _ rfl (w.heap.size + 3) (.slice ABX1 Z1.length cBX1) Z1 [key] Z2 (some ⟨VBX1.heap.size, 0, none⟩) 1 1 rfl (by rw [← HY.out]; exact BY.out.o1) (by rw [← HY.out]; exact RK.out) rfl rfl EK.out.2.1 BN.out.2.1 (by rw [← HY.out]; exact BY.out.bz) ?_)
        rw [← HY.out]
        clear HY fo0 fo1 fo2
        intro A9 c9 x9 ho9 hg9 hn9
        rw [← SY.out] at hn9
        clear SY
        obtain ⟨ABX2, hA2⟩ : ∃ z, A9 = z := ⟨_, rfl⟩
        obtain ⟨cBX2, hc2⟩ : ∃ z, c9 = z := ⟨_, rfl⟩
        rw [hA2, hc2] at ho9 hn9 ⊢
        have BN := Lib.hid (BY.out.push1 ho9 hg9 hn9)
        have N9 := Lib.hid (BY.out.row1 hg9 BY.out.lt.2 BY.out.row)
        obtain ⟨VBX2, hU⟩ : ∃ U : World, U = x9.setCell ⟨w.heap.size + 2, 1, none⟩ (.slice ABX2 Z2.length cBX2) := ⟨_, rfl⟩
        rw [← hU] at BN
        have RWz := Lib.hid (show VBX2.heap[w.heap.size]? = some _ by rw [hU]; exact row_far (BY.out.row1 hg9 (by omega) RW.out) (by omega) _)
        have RRz := Lib.hid (show VBX2.heap[w.heap.size + 1]? = some _ by rw [hU]; exact row_far (BY.out.row1 hg9 (by omega) RR.out) (by omega) _)
        have f9 := row_c N9.out (i := 1) rfl
        have q9 := frozen_of_row _ _ 1 _ _ N9.out
        clear ho9 hg9 hn9 hA2 hc2 BY N9 BX RW RR
        have BX := BN
        clear BN
        have RW := RWz
        clear RWz
        have RR := RRz
        clear RRz
        have HU := Lib.hid hU
        clear hU RK
        go_upto_region 11 with (fail)
        rw [← HU.out]
        clear HU f9 q9
        refine wp_operands (W := VBX2) rfl 6 [64, 65, 66, 67, 68, 69] (fun i u x => match i with | 0 => u = .pointer (some ⟨w.heap.size + 2, 2, none⟩) | 1 => u = .slice none 0 0 | 2 => u = .pointer (some ⟨w.heap.size, 2, none⟩) | 3 => u = .slice B ds.length d | 4 => u = .int .i64 (n1 : Int) | 5 => u = .slice Da (n1) da | _ => True) (fun _ => false)
          (by decide) rfl (by kernel_rfl) (by kernel_rfl) (by decide) (by kernel_rfl) ?_ (fun _ _ _ h => by cases h) ?_ ?_
        · intro i u x x' hi hR hb'
          have hi' : i = 0 ∨ i = 1 ∨ i = 2 ∨ i = 3 ∨ i = 4 ∨ i = 5 := by omega
          rcases hi' with rfl | rfl | rfl | rfl | rfl | rfl
          · exact hR
          · exact hR
          · exact hR
          · exact hR
          · exact hR
          · exact hR
        · intro i av x K hi hF hb' hw hK
          have hi' : i = 0 ∨ i = 1 ∨ i = 2 ∨ i = 3 ∨ i = 4 ∨ i = 5 := by omega
          rcases hi' with rfl | rfl | rfl | rfl | rfl | rfl
          · simp only [wpOp, List.getElem?_toArray, List.getElem?_cons_zero, Region.wanted, if_true]
            refine Or.inl ?_
            have e0 : av.tmps.getD 7 undef = .pointer (some ⟨w.heap.size + 2, 0, none⟩) := hF.2.2 7 (by decide)
            have e0e : av.eval (.tmp 7) = .pointer (some ⟨w.heap.size + 2, 0, none⟩) := e0
            have e0g : av.tmps[7]?.getD undef = .pointer (some ⟨w.heap.size + 2, 0, none⟩) := by have := e0; simp only [Array.getD_eq_getD_getElem?] at this; exact this
            clear hw hF
            simp only [Oper.wp, execOp]
            try simp only [e0e]
            go_simp
            exact hK _ x (by first | rfl | (simp only [Nat.add_zero]; done) | (congr 1; omega)) (Below.refl _ _) (fun h => by cases h)
          · simp only [wpOp, List.getElem?_toArray, List.getElem?_cons_succ, List.getElem?_cons_zero, Region.wanted, if_true]
            refine Or.inl ?_
            have e0 : av.tmps.getD 64 undef = .pointer (some ⟨w.heap.size + 2, 2, none⟩) := (hw 0 (by kernel_rfl))
            have e0e : av.eval (.tmp 64) = .pointer (some ⟨w.heap.size + 2, 2, none⟩) := e0
            have e0g : av.tmps[64]?.getD undef = .pointer (some ⟨w.heap.size + 2, 2, none⟩) := by have := e0; simp only [Array.getD_eq_getD_getElem?] at this; exact this
            obtain ⟨fo0, fo1, fo2⟩ := BX.out.f hb'
            clear hw hF
            simp only [Oper.wp, execOp]
            try simp only [e0e]
            go_simp
            exact hK _ x (by first | rfl | (simp only [Nat.add_zero]; done) | (congr 1; omega)) (Below.refl _ _) (fun h => by cases h)
          · simp only [wpOp, List.getElem?_toArray, List.getElem?_cons_succ, List.getElem?_cons_zero, Region.wanted, if_true]
            refine Or.inl ?_
            have e0 : av.tmps.getD 3 undef = .pointer (some ⟨w.heap.size, 0, none⟩) := hF.2.2 3 (by decide)
            have e0e : av.eval (.tmp 3) = .pointer (some ⟨w.heap.size, 0, none⟩) := e0
            have e0g : av.tmps[3]?.getD undef = .pointer (some ⟨w.heap.size, 0, none⟩) := by have := e0; simp only [Array.getD_eq_getD_getElem?] at this; exact this
            clear hw hF
            simp only [Oper.wp, execOp]
            try simp only [e0e]
            go_simp
            exact hK _ x (by first | rfl | (simp only [Nat.add_zero]; done) | (congr 1; omega)) (Below.refl _ _) (fun h => by cases h)
          · simp only [wpOp, List.getElem?_toArray, List.getElem?_cons_succ, List.getElem?_cons_zero, Region.wanted, if_true]
            refine Or.inl ?_
            have e0 : av.tmps.getD 66 undef = .pointer (some ⟨w.heap.size, 2, none⟩) := (hw 2 (by kernel_rfl))
            have e0e : av.eval (.tmp 66) = .pointer (some ⟨w.heap.size, 2, none⟩) := e0
            have e0g : av.tmps[66]?.getD undef = .pointer (some ⟨w.heap.size, 2, none⟩) := by have := e0; simp only [Array.getD_eq_getD_getElem?] at this; exact this
            have fn := row_c (row_on RW.out hb') (i := 2) rfl
            clear hw hF
            simp only [Oper.wp, execOp]
            try simp only [e0e]
            go_simp
            exact hK _ x (by first | rfl | (simp only [Nat.add_zero]; done) | (congr 1; omega)) (Below.refl _ _) (fun h => by cases h)
          · simp only [wpOp, List.getElem?_toArray, List.getElem?_cons_succ, List.getElem?_cons_zero, Region.wanted, if_true]
            refine Or.inl ?_
            have e0 : av.tmps.getD 10 undef = .int .i64 (n1 : Int) := hF.2.2 10 (by decide)
            have e0e : av.eval (.tmp 10) = .int .i64 (n1 : Int) := e0
            have e0g : av.tmps[10]?.getD undef = .int .i64 (n1 : Int) := by have := e0; simp only [Array.getD_eq_getD_getElem?] at this; exact this
            clear hw hF
            simp only [Oper.wp, execOp]
            try simp only [e0e]
            go_simp
            exact hK _ x (by first | rfl | (simp only [Nat.add_zero]; done) | (congr 1; omega)) (Below.refl _ _) (fun h => by cases h)
          · simp only [wpOp, List.getElem?_toArray, List.getElem?_cons_succ, List.getElem?_cons_zero, Region.wanted, if_true]
            refine Or.inl ?_
            have e0 : av.tmps.getD 67 undef = .slice B ds.length d := (hw 3 (by kernel_rfl))
            have e0e : av.eval (.tmp 67) = .slice B ds.length d := e0
            have e0g : av.tmps[67]?.getD undef = .slice B ds.length d := by have := e0; simp only [Array.getD_eq_getD_getElem?] at this; exact this
            have e1 : av.tmps.getD 68 undef = .int .i64 (n1 : Int) := (hw 4 (by kernel_rfl))
            have e1e : av.eval (.tmp 68) = .int .i64 (n1 : Int) := e1
            have e1g : av.tmps[68]?.getD undef = .int .i64 (n1 : Int) := by have := e1; simp only [Array.getD_eq_getD_getElem?] at this; exact this
            clear hw hF
            simp only [Oper.wp, execOp]
            try simp only [e0e, e1e]
            go_simp
            exact hK _ x (by first | rfl | (simp only [Nat.add_zero]; done) | (congr 1; omega)) (Below.refl _ _) (fun h => by cases h)
        intro av x hF hb' hR _
        have e0 : av.tmps.getD 64 undef = .pointer (some ⟨w.heap.size + 2, 2, none⟩) := hR 0 (by decide)
        have e1 : av.tmps.getD 65 undef = .slice none 0 0 := hR 1 (by decide)
        have e2 : av.tmps.getD 66 undef = .pointer (some ⟨w.heap.size, 2, none⟩) := hR 2 (by decide)
        have e3 : av.tmps.getD 67 undef = .slice B ds.length d := hR 3 (by decide)
        have e4 : av.tmps.getD 68 undef = .int .i64 (n1 : Int) := hR 4 (by decide)
        have e5 : av.tmps.getD 69 undef = .slice Da (n1) da := hR 5 (by decide)
        rw [hF.fold (by kernel_rfl)]
        simp only [List.foldl_cons, List.foldl_nil, e0, e1, e2, e3, e4, e5]
        simp only [Act.put, List.setIfInBounds_toArray, List.set_cons_zero, List.set_cons_succ]
        change wpOps _ _ _ [6, 7, 8] _ _
        simp only [wpOps_cons]
        clear e0 e1 e2 e3 e4 e5 hR hF
        have BY := Lib.hid (BX.out.below hb')
        have RW := Lib.hid (row_on RW.out hb')
        have RR := Lib.hid (row_on RR.out hb')
        clear hb'
        simp only [wpOp, List.getElem?_toArray, List.getElem?_cons_succ, List.getElem?_cons_zero, Region.wanted, if_true]
        refine Or.inl ?_
        refine wp_append2 nv_one et_i (.tmp 65) (.tmp 69) rfl (w.heap.size + 3) (.slice none 0 0) ([] : List Int) u1 X1 Da da (n1) rfl BY.out.o2 (RDA.out _ BY.out.kb) L2.out rfl EQ.out.1 BN.out.2.2.2.1 BY.out.bz ?_
        intro A9 c9 x9 ho9 hg9 hn9
        obtain ⟨ABX3, hA2⟩ : ∃ z, A9 = z := ⟨_, rfl⟩
        obtain ⟨cBX3, hc2⟩ : ∃ z, c9 = z := ⟨_, rfl⟩
        rw [hA2, hc2] at ho9 hn9 ⊢
        have BN := Lib.hid (BY.out.push2 ho9 hg9 hn9)
        have N9 := Lib.hid (BY.out.row2 hg9 BY.out.lt.2 BY.out.row)
        obtain ⟨VBX3, hU⟩ : ∃ U : World, U = x9.setCell ⟨w.heap.size + 2, 2, none⟩ (.slice ABX3 X1.length cBX3) := ⟨_, rfl⟩
        rw [← hU] at BN
        have RWz := Lib.hid (show VBX3.heap[w.heap.size]? = some _ by rw [hU]; exact row_far (BY.out.row2 hg9 (by omega) RW.out) (by omega) _)
        have RRz := Lib.hid (show VBX3.heap[w.heap.size + 1]? = some _ by rw [hU]; exact row_far (BY.out.row2 hg9 (by omega) RR.out) (by omega) _)
        have f9 := row_c N9.out (i := 2) rfl
        have q9 := frozen_of_row _ _ 2 _ _ N9.out
        clear ho9 hg9 hn9 hA2 hc2 BY N9 BX RW RR
        have BX := BN
        clear BN
        have RW := RWz
        clear RWz
        have RR := RRz
        clear RRz
        go_simp
        try rw [wpOps_cons]
        simp only [wpOp, List.getElem?_toArray, List.getElem?_cons_succ, List.getElem?_cons_zero, Region.wanted, if_true]
        refine Or.inl ?_
        simp only [Oper.wp, execOp]
        go_simp
        try rw [wpOps_cons]
        simp only [wpOp, List.getElem?_toArray, List.getElem?_cons_succ, List.getElem?_cons_zero, Region.wanted, if_true]
        refine Or.inl ?_
        simp only [Oper.wp, execOp]
        go_simp
        try simp only [wpOps]
        rw [← hU]
        clear hU f9 q9
        obtain ⟨Y, hY⟩ : ∃ Y : World, Y = VBX3.alloc (.cells #[.int .i64 kid] 3) := ⟨_, rfl⟩
        have HY := Lib.hid hY
        have BY := Lib.hid (show Bx w Y _ _ _ _ _ _ _ _ _ _ by rw [hY]; exact BX.out.below (bda _ _))
        have RK := Lib.hid (show Rl nv Y (some ⟨VBX3.heap.size, 0, none⟩) 1 [kid] by rw [hY]; exact rl_of_row (g := nv) (xs := [kid]) (heap_alloc_new _ _) 1 (Nat.le_refl _))
        have RW := Lib.hid (show Y.heap[_]? = some _ by rw [hY]; exact row_on RW.out (bda _ _))
        have RR := Lib.hid (show Y.heap[_]? = some _ by rw [hY]; exact row_on RR.out (bda _ _))
        obtain ⟨fo0, fo1, fo2⟩ := BX.out.f (Below.refl _ _)
        have SY := Lib.hid (show Y.heap.size = VBX3.heap.size + 1 by rw [hY]; simp)
        clear hY
        go_wp2_with (at_builtin; refine wpList_append2 nv_one et_i rfl _ _ rfl (w.heap.size + 3) (.slice ABX3 X1.length cBX3) X1 [kid] X2 (some ⟨VBX3.heap.size, 0, none⟩) 1 1 rfl (by rw [← HY.out]; exact BY.out.o2) (by rw [← HY.out]; exact RK.out) rfl rfl EQ.out.2.1 BN.out.2.2.2.2.1 (by rw [← HY.out]; exact BY.out.bz) ?_)
        rw [← HY.out]
        clear HY fo0 fo1 fo2
        intro A9 c9 x9 ho9 hg9 hn9
        rw [← SY.out] at hn9
        clear SY
        obtain ⟨ABX4, hA2⟩ : ∃ z, A9 = z := ⟨_, rfl⟩
        obtain ⟨cBX4, hc2⟩ : ∃ z, c9 = z := ⟨_, rfl⟩
        rw [hA2, hc2] at ho9 hn9 ⊢
        have BN := Lib.hid (BY.out.push2 ho9 hg9 hn9)
        have N9 := Lib.hid (BY.out.row2 hg9 BY.out.lt.2 BY.out.row)
        obtain ⟨VBX4, hU⟩ : ∃ U : World, U = x9.setCell ⟨w.heap.size + 2, 2, none⟩ (.slice ABX4 X2.length cBX4) := ⟨_, rfl⟩
        rw [← hU] at BN
        have RWz := Lib.hid (show VBX4.heap[w.heap.size]? = some _ by rw [hU]; exact row_far (BY.out.row2 hg9 (by omega) RW.out) (by omega) _)
        have RRz := Lib.hid (show VBX4.heap[w.heap.size + 1]? = some _ by rw [hU]; exact row_far (BY.out.row2 hg9 (by omega) RR.out) (by omega) _)
        have f9 := row_c N9.out (i := 2) rfl
        have q9 := frozen_of_row _ _ 2 _ _ N9.out
        clear ho9 hg9 hn9 hA2 hc2 BY N9 BX RW RR
        have BX := BN
        clear BN
        have RW := RWz
        clear RWz
        have RR := RRz
        clear RRz
        have HU := Lib.hid hU
        clear hU RK
        go_upto_region 17 with (fail)
        rw [← HU.out]
        clear HU f9 q9
        refine wp_operands (W := VBX4) rfl 6 [98, 99, 100, 101, 102, 103] (fun i u x => match i with | 0 => u = .pointer (some ⟨w.heap.size + 2, 1, none⟩) | 1 => u = .slice ABX2 Z2.length cBX2 | 2 => u = .pointer (some ⟨w.heap.size, 1, none⟩) | 3 => u = .slice A ks.length c | 4 => u = .int .i64 (k : Int) | 5 => u = .slice Kb (ks.length - k) cb | _ => True) (fun _ => false)
          (by decide) rfl (by kernel_rfl) (by kernel_rfl) (by decide) (by kernel_rfl) ?_ (fun _ _ _ h => by cases h) ?_ ?_
        · intro i u x x' hi hR hb'
          have hi' : i = 0 ∨ i = 1 ∨ i = 2 ∨ i = 3 ∨ i = 4 ∨ i = 5 := by omega
          rcases hi' with rfl | rfl | rfl | rfl | rfl | rfl
          · exact hR
          · exact hR
          · exact hR
          · exact hR
          · exact hR
          · exact hR
        · intro i av x K hi hF hb' hw hK
          have hi' : i = 0 ∨ i = 1 ∨ i = 2 ∨ i = 3 ∨ i = 4 ∨ i = 5 := by omega
          rcases hi' with rfl | rfl | rfl | rfl | rfl | rfl
          · simp only [wpOp, List.getElem?_toArray, List.getElem?_cons_zero, Region.wanted, if_true]
            refine Or.inl ?_
            have e0 : av.tmps.getD 7 undef = .pointer (some ⟨w.heap.size + 2, 0, none⟩) := hF.2.2 7 (by decide)
            have e0e : av.eval (.tmp 7) = .pointer (some ⟨w.heap.size + 2, 0, none⟩) := e0
            have e0g : av.tmps[7]?.getD undef = .pointer (some ⟨w.heap.size + 2, 0, none⟩) := by have := e0; simp only [Array.getD_eq_getD_getElem?] at this; exact this
            clear hw hF
            simp only [Oper.wp, execOp]
            try simp only [e0e]
            go_simp
            exact hK _ x (by first | rfl | (simp only [Nat.add_zero]; done) | (congr 1; omega)) (Below.refl _ _) (fun h => by cases h)
          · simp only [wpOp, List.getElem?_toArray, List.getElem?_cons_succ, List.getElem?_cons_zero, Region.wanted, if_true]
            refine Or.inl ?_
            have e0 : av.tmps.getD 98 undef = .pointer (some ⟨w.heap.size + 2, 1, none⟩) := (hw 0 (by kernel_rfl))
            have e0e : av.eval (.tmp 98) = .pointer (some ⟨w.heap.size + 2, 1, none⟩) := e0
            have e0g : av.tmps[98]?.getD undef = .pointer (some ⟨w.heap.size + 2, 1, none⟩) := by have := e0; simp only [Array.getD_eq_getD_getElem?] at this; exact this
            obtain ⟨fo0, fo1, fo2⟩ := BX.out.f hb'
            clear hw hF
            simp only [Oper.wp, execOp]
            try simp only [e0e]
            go_simp
            exact hK _ x (by first | rfl | (simp only [Nat.add_zero]; done) | (congr 1; omega)) (Below.refl _ _) (fun h => by cases h)
          · simp only [wpOp, List.getElem?_toArray, List.getElem?_cons_succ, List.getElem?_cons_zero, Region.wanted, if_true]
            refine Or.inl ?_
            have e0 : av.tmps.getD 3 undef = .pointer (some ⟨w.heap.size, 0, none⟩) := hF.2.2 3 (by decide)
            have e0e : av.eval (.tmp 3) = .pointer (some ⟨w.heap.size, 0, none⟩) := e0
            have e0g : av.tmps[3]?.getD undef = .pointer (some ⟨w.heap.size, 0, none⟩) := by have := e0; simp only [Array.getD_eq_getD_getElem?] at this; exact this
            clear hw hF
            simp only [Oper.wp, execOp]
            try simp only [e0e]
            go_simp
            exact hK _ x (by first | rfl | (simp only [Nat.add_zero]; done) | (congr 1; omega)) (Below.refl _ _) (fun h => by cases h)
          · simp only [wpOp, List.getElem?_toArray, List.getElem?_cons_succ, List.getElem?_cons_zero, Region.wanted, if_true]
            refine Or.inl ?_
            have e0 : av.tmps.getD 100 undef = .pointer (some ⟨w.heap.size, 1, none⟩) := (hw 2 (by kernel_rfl))
            have e0e : av.eval (.tmp 100) = .pointer (some ⟨w.heap.size, 1, none⟩) := e0
            have e0g : av.tmps[100]?.getD undef = .pointer (some ⟨w.heap.size, 1, none⟩) := by have := e0; simp only [Array.getD_eq_getD_getElem?] at this; exact this
            have fn := row_c (row_on RW.out hb') (i := 1) rfl
            clear hw hF
            simp only [Oper.wp, execOp]
            try simp only [e0e]
            go_simp
            exact hK _ x (by first | rfl | (simp only [Nat.add_zero]; done) | (congr 1; omega)) (Below.refl _ _) (fun h => by cases h)
          · simp only [wpOp, List.getElem?_toArray, List.getElem?_cons_succ, List.getElem?_cons_zero, Region.wanted, if_true]
            refine Or.inl ?_
            have e0 : av.tmps.getD 8 undef = .int .i64 (k : Int) := hF.2.2 8 (by decide)
            have e0e : av.eval (.tmp 8) = .int .i64 (k : Int) := e0
            have e0g : av.tmps[8]?.getD undef = .int .i64 (k : Int) := by have := e0; simp only [Array.getD_eq_getD_getElem?] at this; exact this
            clear hw hF
            simp only [Oper.wp, execOp]
            try simp only [e0e]
            go_simp
            exact hK _ x (by first | rfl | (simp only [Nat.add_zero]; done) | (congr 1; omega)) (Below.refl _ _) (fun h => by cases h)
          · simp only [wpOp, List.getElem?_toArray, List.getElem?_cons_succ, List.getElem?_cons_zero, Region.wanted, if_true]
            refine Or.inl ?_
            have e0 : av.tmps.getD 101 undef = .slice A ks.length c := (hw 3 (by kernel_rfl))
            have e0e : av.eval (.tmp 101) = .slice A ks.length c := e0
            have e0g : av.tmps[101]?.getD undef = .slice A ks.length c := by have := e0; simp only [Array.getD_eq_getD_getElem?] at this; exact this
            have e1 : av.tmps.getD 102 undef = .int .i64 (k : Int) := (hw 4 (by kernel_rfl))
            have e1e : av.eval (.tmp 102) = .int .i64 (k : Int) := e1
            have e1g : av.tmps[102]?.getD undef = .int .i64 (k : Int) := by have := e1; simp only [Array.getD_eq_getD_getElem?] at this; exact this
            clear hw hF
            simp only [Oper.wp, execOp]
            try simp only [e0e, e1e]
            go_simp
            exact hK _ x (by first | rfl | (simp only [Nat.add_zero]; done) | (congr 1; omega)) (Below.refl _ _) (fun h => by cases h)
        intro av x hF hb' hR _
        have e0 : av.tmps.getD 98 undef = .pointer (some ⟨w.heap.size + 2, 1, none⟩) := hR 0 (by decide)
        have e1 : av.tmps.getD 99 undef = .slice ABX2 Z2.length cBX2 := hR 1 (by decide)
        have e2 : av.tmps.getD 100 undef = .pointer (some ⟨w.heap.size, 1, none⟩) := hR 2 (by decide)
        have e3 : av.tmps.getD 101 undef = .slice A ks.length c := hR 3 (by decide)
        have e4 : av.tmps.getD 102 undef = .int .i64 (k : Int) := hR 4 (by decide)
        have e5 : av.tmps.getD 103 undef = .slice Kb (ks.length - k) cb := hR 5 (by decide)
        rw [hF.fold (by kernel_rfl)]
        simp only [List.foldl_cons, List.foldl_nil, e0, e1, e2, e3, e4, e5]
        simp only [Act.put, List.setIfInBounds_toArray, List.set_cons_zero, List.set_cons_succ]
        change wpOps _ _ _ [6, 7, 8] _ _
        simp only [wpOps_cons]
        clear e0 e1 e2 e3 e4 e5 hR hF
        have BY := Lib.hid (BX.out.below hb')
        have RW := Lib.hid (row_on RW.out hb')
        have RR := Lib.hid (row_on RR.out hb')
        clear hb'
        simp only [wpOp, List.getElem?_toArray, List.getElem?_cons_succ, List.getElem?_cons_zero, Region.wanted, if_true]
        refine Or.inl ?_
        refine wp_append2 sv_one et_s (.tmp 99) (.tmp 103) rfl (w.heap.size + 3) (.slice ABX2 Z2.length cBX2) Z2 y3 Z3 Kb cb (ks.length - k) rfl BY.out.o1 (RKB.out _ BY.out.kb) L3.out rfl EK.out.2.2 BN.out.2.2.1 BY.out.bz ?_
        intro A9 c9 x9 ho9 hg9 hn9
        obtain ⟨ABX5, hA2⟩ : ∃ z, A9 = z := ⟨_, rfl⟩
        obtain ⟨cBX5, hc2⟩ : ∃ z, c9 = z := ⟨_, rfl⟩
        rw [hA2, hc2] at ho9 hn9 ⊢
        have BN := Lib.hid (BY.out.push1 ho9 hg9 hn9)
        have N9 := Lib.hid (BY.out.row1 hg9 BY.out.lt.2 BY.out.row)
        obtain ⟨VBX5, hU⟩ : ∃ U : World, U = x9.setCell ⟨w.heap.size + 2, 1, none⟩ (.slice ABX5 Z3.length cBX5) := ⟨_, rfl⟩
        rw [← hU] at BN
        have RWz := Lib.hid (show VBX5.heap[w.heap.size]? = some _ by rw [hU]; exact row_far (BY.out.row1 hg9 (by omega) RW.out) (by omega) _)
        have RRz := Lib.hid (show VBX5.heap[w.heap.size + 1]? = some _ by rw [hU]; exact row_far (BY.out.row1 hg9 (by omega) RR.out) (by omega) _)
        have f9 := row_c N9.out (i := 1) rfl
        have q9 := frozen_of_row _ _ 1 _ _ N9.out
        clear ho9 hg9 hn9 hA2 hc2 BY N9 BX RW RR
        have BX := BN
        clear BN
        have RW := RWz
        clear RWz
        have RR := RRz
        clear RRz
        go_simp
        try rw [wpOps_cons]
        simp only [wpOp, List.getElem?_toArray, List.getElem?_cons_succ, List.getElem?_cons_zero, Region.wanted, if_true]
        refine Or.inl ?_
        simp only [Oper.wp, execOp]
        go_simp
        try rw [wpOps_cons]
        simp only [wpOp, List.getElem?_toArray, List.getElem?_cons_succ, List.getElem?_cons_zero, Region.wanted, if_true]
        refine Or.inl ?_
        simp only [Oper.wp, execOp]
        go_simp
        try simp only [wpOps]
        rw [← hU]
        clear hU f9 q9
        go_upto_region 18 with (fail)
        refine wp_operands (W := VBX5) rfl 6 [106, 107, 108, 109, 110, 111] (fun i u x => match i with | 0 => u = .pointer (some ⟨w.heap.size + 2, 2, none⟩) | 1 => u = .slice ABX4 X2.length cBX4 | 2 => u = .pointer (some ⟨w.heap.size, 2, none⟩) | 3 => u = .slice B ds.length d | 4 => u = .int .i64 (n1 : Int) | 5 => u = .slice Db (ds.length - n1) db | _ => True) (fun _ => false)
          (by decide) rfl (by kernel_rfl) (by kernel_rfl) (by decide) (by kernel_rfl) ?_ (fun _ _ _ h => by cases h) ?_ ?_
        · intro i u x x' hi hR hb'
          have hi' : i = 0 ∨ i = 1 ∨ i = 2 ∨ i = 3 ∨ i = 4 ∨ i = 5 := by omega
          rcases hi' with rfl | rfl | rfl | rfl | rfl | rfl
          · exact hR
          · exact hR
          · exact hR
          · exact hR
          · exact hR
          · exact hR
        · intro i av x K hi hF hb' hw hK
          have hi' : i = 0 ∨ i = 1 ∨ i = 2 ∨ i = 3 ∨ i = 4 ∨ i = 5 := by omega
          rcases hi' with rfl | rfl | rfl | rfl | rfl | rfl
          · simp only [wpOp, List.getElem?_toArray, List.getElem?_cons_zero, Region.wanted, if_true]
            refine Or.inl ?_
            have e0 : av.tmps.getD 7 undef = .pointer (some ⟨w.heap.size + 2, 0, none⟩) := hF.2.2 7 (by decide)
            have e0e : av.eval (.tmp 7) = .pointer (some ⟨w.heap.size + 2, 0, none⟩) := e0
            have e0g : av.tmps[7]?.getD undef = .pointer (some ⟨w.heap.size + 2, 0, none⟩) := by have := e0; simp only [Array.getD_eq_getD_getElem?] at this; exact this
            clear hw hF
            simp only [Oper.wp, execOp]
            try simp only [e0e]
            go_simp
            exact hK _ x (by first | rfl | (simp only [Nat.add_zero]; done) | (congr 1; omega)) (Below.refl _ _) (fun h => by cases h)
          · simp only [wpOp, List.getElem?_toArray, List.getElem?_cons_succ, List.getElem?_cons_zero, Region.wanted, if_true]
            refine Or.inl ?_
            have e0 : av.tmps.getD 106 undef = .pointer (some ⟨w.heap.size + 2, 2, none⟩) := (hw 0 (by kernel_rfl))
            have e0e : av.eval (.tmp 106) = .pointer (some ⟨w.heap.size + 2, 2, none⟩) := e0
            have e0g : av.tmps[106]?.getD undef = .pointer (some ⟨w.heap.size + 2, 2, none⟩) := by have := e0; simp only [Array.getD_eq_getD_getElem?] at this; exact this
            obtain ⟨fo0, fo1, fo2⟩ := BX.out.f hb'
            clear hw hF
            simp only [Oper.wp, execOp]
            try simp only [e0e]
            go_simp
            exact hK _ x (by first | rfl | (simp only [Nat.add_zero]; done) | (congr 1; omega)) (Below.refl _ _) (fun h => by cases h)
          · simp only [wpOp, List.getElem?_toArray, List.getElem?_cons_succ, List.getElem?_cons_zero, Region.wanted, if_true]
            refine Or.inl ?_
            have e0 : av.tmps.getD 3 undef = .pointer (some ⟨w.heap.size, 0, none⟩) := hF.2.2 3 (by decide)
            have e0e : av.eval (.tmp 3) = .pointer (some ⟨w.heap.size, 0, none⟩) := e0
            have e0g : av.tmps[3]?.getD undef = .pointer (some ⟨w.heap.size, 0, none⟩) := by have := e0; simp only [Array.getD_eq_getD_getElem?] at this; exact this
            clear hw hF
            simp only [Oper.wp, execOp]
            try simp only [e0e]
            go_simp
            exact hK _ x (by first | rfl | (simp only [Nat.add_zero]; done) | (congr 1; omega)) (Below.refl _ _) (fun h => by cases h)
          · simp only [wpOp, List.getElem?_toArray, List.getElem?_cons_succ, List.getElem?_cons_zero, Region.wanted, if_true]
            refine Or.inl ?_
            have e0 : av.tmps.getD 108 undef = .pointer (some ⟨w.heap.size, 2, none⟩) := (hw 2 (by kernel_rfl))
            have e0e : av.eval (.tmp 108) = .pointer (some ⟨w.heap.size, 2, none⟩) := e0
            have e0g : av.tmps[108]?.getD undef = .pointer (some ⟨w.heap.size, 2, none⟩) := by have := e0; simp only [Array.getD_eq_getD_getElem?] at this; exact this
            have fn := row_c (row_on RW.out hb') (i := 2) rfl
            clear hw hF
            simp only [Oper.wp, execOp]
            try simp only [e0e]
            go_simp
            exact hK _ x (by first | rfl | (simp only [Nat.add_zero]; done) | (congr 1; omega)) (Below.refl _ _) (fun h => by cases h)
          · simp only [wpOp, List.getElem?_toArray, List.getElem?_cons_succ, List.getElem?_cons_zero, Region.wanted, if_true]
            refine Or.inl ?_
            have e0 : av.tmps.getD 10 undef = .int .i64 (n1 : Int) := hF.2.2 10 (by decide)
            have e0e : av.eval (.tmp 10) = .int .i64 (n1 : Int) := e0
            have e0g : av.tmps[10]?.getD undef = .int .i64 (n1 : Int) := by have := e0; simp only [Array.getD_eq_getD_getElem?] at this; exact this
            clear hw hF
            simp only [Oper.wp, execOp]
            try simp only [e0e]
            go_simp
            exact hK _ x (by first | rfl | (simp only [Nat.add_zero]; done) | (congr 1; omega)) (Below.refl _ _) (fun h => by cases h)
          · simp only [wpOp, List.getElem?_toArray, List.getElem?_cons_succ, List.getElem?_cons_zero, Region.wanted, if_true]
            refine Or.inl ?_
            have e0 : av.tmps.getD 109 undef = .slice B ds.length d := (hw 3 (by kernel_rfl))
            have e0e : av.eval (.tmp 109) = .slice B ds.length d := e0
            have e0g : av.tmps[109]?.getD undef = .slice B ds.length d := by have := e0; simp only [Array.getD_eq_getD_getElem?] at this; exact this
            have e1 : av.tmps.getD 110 undef = .int .i64 (n1 : Int) := (hw 4 (by kernel_rfl))
            have e1e : av.eval (.tmp 110) = .int .i64 (n1 : Int) := e1
            have e1g : av.tmps[110]?.getD undef = .int .i64 (n1 : Int) := by have := e1; simp only [Array.getD_eq_getD_getElem?] at this; exact this
            clear hw hF
            simp only [Oper.wp, execOp]
            try simp only [e0e, e1e]
            go_simp
            exact hK _ x (by first | rfl | (simp only [Nat.add_zero]; done) | (congr 1; omega)) (Below.refl _ _) (fun h => by cases h)
        intro av x hF hb' hR _
        have e0 : av.tmps.getD 106 undef = .pointer (some ⟨w.heap.size + 2, 2, none⟩) := hR 0 (by decide)
        have e1 : av.tmps.getD 107 undef = .slice ABX4 X2.length cBX4 := hR 1 (by decide)
        have e2 : av.tmps.getD 108 undef = .pointer (some ⟨w.heap.size, 2, none⟩) := hR 2 (by decide)
        have e3 : av.tmps.getD 109 undef = .slice B ds.length d := hR 3 (by decide)
        have e4 : av.tmps.getD 110 undef = .int .i64 (n1 : Int) := hR 4 (by decide)
        have e5 : av.tmps.getD 111 undef = .slice Db (ds.length - n1) db := hR 5 (by decide)
        rw [hF.fold (by kernel_rfl)]
        simp only [List.foldl_cons, List.foldl_nil, e0, e1, e2, e3, e4, e5]
        simp only [Act.put, List.setIfInBounds_toArray, List.set_cons_zero, List.set_cons_succ]
        change wpOps _ _ _ [6, 7, 8] _ _
        simp only [wpOps_cons]
        clear e0 e1 e2 e3 e4 e5 hR hF
        have BY := Lib.hid (BX.out.below hb')
        have RW := Lib.hid (row_on RW.out hb')
        have RR := Lib.hid (row_on RR.out hb')
        clear hb'
        simp only [wpOp, List.getElem?_toArray, List.getElem?_cons_succ, List.getElem?_cons_zero, Region.wanted, if_true]
        refine Or.inl ?_
        refine wp_append2 nv_one et_i (.tmp 107) (.tmp 111) rfl (w.heap.size + 3) (.slice ABX4 X2.length cBX4) X2 u3 X3 Db db (ds.length - n1) rfl BY.out.o2 (RDB.out _ BY.out.kb) L4.out rfl EQ.out.2.2 BN.out.2.2.2.2.2 BY.out.bz ?_
        intro A9 c9 x9 ho9 hg9 hn9
        obtain ⟨ABX6, hA2⟩ : ∃ z, A9 = z := ⟨_, rfl⟩
        obtain ⟨cBX6, hc2⟩ : ∃ z, c9 = z := ⟨_, rfl⟩
        rw [hA2, hc2] at ho9 hn9 ⊢
        have BN := Lib.hid (BY.out.push2 ho9 hg9 hn9)
        have N9 := Lib.hid (BY.out.row2 hg9 BY.out.lt.2 BY.out.row)
        obtain ⟨VBX6, hU⟩ : ∃ U : World, U = x9.setCell ⟨w.heap.size + 2, 2, none⟩ (.slice ABX6 X3.length cBX6) := ⟨_, rfl⟩
        rw [← hU] at BN
        have RWz := Lib.hid (show VBX6.heap[w.heap.size]? = some _ by rw [hU]; exact row_far (BY.out.row2 hg9 (by omega) RW.out) (by omega) _)
        have RRz := Lib.hid (show VBX6.heap[w.heap.size + 1]? = some _ by rw [hU]; exact row_far (BY.out.row2 hg9 (by omega) RR.out) (by omega) _)
        have f9 := row_c N9.out (i := 2) rfl
        have q9 := frozen_of_row _ _ 2 _ _ N9.out
        clear ho9 hg9 hn9 hA2 hc2 BY N9 BX RW RR
        have BX := BN
        clear BN
        have RW := RWz
        clear RWz
        have RR := RRz
        clear RRz
        go_simp
        try rw [wpOps_cons]
        simp only [wpOp, List.getElem?_toArray, List.getElem?_cons_succ, List.getElem?_cons_zero, Region.wanted, if_true]
        refine Or.inl ?_
        simp only [Oper.wp, execOp]
        go_simp
        try rw [wpOps_cons]
        simp only [wpOp, List.getElem?_toArray, List.getElem?_cons_succ, List.getElem?_cons_zero, Region.wanted, if_true]
        refine Or.inl ?_
        simp only [Oper.wp, execOp]
        go_simp
        try simp only [wpOps]
        rw [← hU]
        clear hU f9 q9
        obtain ⟨fo0, fo1, fo2⟩ := BX.out.f (Below.refl _ _)
        have p0 := row_c RR.out (i := 0) rfl
        have p1 := row_c RR.out (i := 1) rfl
        have p2 := row_c RR.out (i := 2) rfl
        have y0 := frozen_of_row _ _ 0 _ _ RR.out
        have y1 := frozen_of_row _ _ 1 _ _ RR.out
        have y2 := frozen_of_row _ _ 2 _ _ RR.out
        go_wp2
        refine bodyPost_ret (v := .agg #[.bool false, .slice ABX5 Z3.length cBX5, .slice ABX6 X3.length cBX6]) (by simp [results, Try.results26, go_sem, p0, p1, p2]) rfl ⟨ABX5, cBX5, ABX6, cBX6, rfl, ?_, ?_, ?_⟩
        · exact ((BX.out.rl.1.set BX.out.rl.2.2.1 (by omega) _ _).set BX.out.rl.2.2.1 (by omega) _ _).set BX.out.rl.2.2.1 (by omega) _ _
        · exact ((BX.out.rl.2.1.set BX.out.rl.2.2.2 (by omega) _ _).set BX.out.rl.2.2.2 (by omega) _ _).set BX.out.rl.2.2.2 (by omega) _ _
        · exact ((BX.out.kb.setCell (by simp) _).setCell (by simp) _).setCell (by simp) _
set_option maxHeartbeats 4000000 in
set_option maxRecDepth 100000 in
theorem rput_ft (A : Option Addr) (c : Nat) (ks : List (List UInt8)) (B : Option Addr) (d : Nat) (ds : List Int) (key : List UInt8) (kid : Int) (w : World) (h : Rl sv w A c ks) (h2 : Rl nv w B d ds) (hl : ks.length ≤ 3999990) (hsd : ds.length = ks.length + 1)
    (n0 n1 n2 : Nat) (hi : lbK key ks = n0) (ht : thereB key ks = true) (hj : n0 + 1 = n1) (hj1 : n1 + 1 = n2) (y1 y3 Z1 Z2 Z3 : List (List UInt8)) (u1 u3 X1 X2 X3 : List Int)
    (e1 : ks.take n0 = y1) (e3 : ks.drop n1 = y3) (E1 : [] ++ y1 = Z1) (E2 : Z1 ++ [key] = Z2) (E3 : Z2 ++ y3 = Z3) (q1 : ds.take n1 = u1) (q3 : ds.drop n2 = u3) (Q1 : [] ++ u1 = X1) (Q2 : X1 ++ [kid] = X2) (Q3 : X2 ++ u3 = X3) :
    Calls Try.prog 26 #[.agg #[.bool false, .slice A ks.length c, .slice B ds.length d], sv key, .int .i64 kid] w fun e w' => ∃ A' c' B' d', e = .returned (.agg #[.bool false, .slice A' Z3.length c', .slice B' X3.length d']) ∧ Rl sv w' A' c' Z3 ∧ Rl nv w' B' d' X3 ∧ Below w.heap.size w w' := by
  have hil : n0 ≤ ks.length := by rw [← hi]; exact lbK_le key ks
  have hit : true = true → n0 < ks.length := fun h => by
    have h3 : thereB key ks = true := ht.trans h
    rw [← hi]
    exact (List.getElem?_eq_some_iff.1 (there_spec.1 h3)).1
  obtain ⟨Ka, ca, hka, rka⟩ := cut_to et_s (g := sv) A c ks n0 (by omega) h.1
  obtain ⟨Da, da, hda, rda⟩ := cut_to et_i (g := nv) B d ds n1 (by omega) h2.1
  obtain ⟨Kb, cb, hkb, rkb⟩ := cut_from et_s (g := sv) A c ks n1 (by have := hit; simp at this; omega) h.1
  obtain ⟨Db, db, hdb, rdb⟩ := cut_from et_i (g := nv) B d ds n2 (by have := hit; simp at this; omega) h2.1
  rw [e1] at rka
  rw [q1] at rda
  rw [e3] at rkb
  rw [q3] at rdb
  have L1 := Lib.hid (show n0 = y1.length by rw [← e1, List.length_take]; omega)
  have L2 := Lib.hid (show n1 = u1.length by rw [← q1, List.length_take]; have := hit; simp at this; omega)
  have L3 := Lib.hid (show ks.length - n1 = y3.length by rw [← e3, List.length_drop])
  have L4 := Lib.hid (show ds.length - n2 = u3.length by rw [← q3, List.length_drop])
  have EK := Lib.hid (And.intro E1 (And.intro E2 E3))
  have EQ := Lib.hid (And.intro Q1 (And.intro Q2 Q3))
  have BN := Lib.hid (show Z1.length ≤ 4000000 ∧ Z2.length ≤ 4000000 ∧ Z3.length ≤ 4000000 ∧ X1.length ≤ 4000000 ∧ X2.length ≤ 4000000 ∧ X3.length ≤ 4000000 by
    have h1 := L1.out; have h2 := L2.out; have h3 := L3.out; have h4 := L4.out
    rw [← E3, ← E2, ← E1, ← Q3, ← Q2, ← Q1]
    simp only [List.length_append, List.length_nil, List.length_singleton]
    omega)
  have RKA := Lib.hid (fun V (hV : Below w.heap.size w V) => rka V (h.below hV))
  have RDA := Lib.hid (fun V (hV : Below w.heap.size w V) => rda V (h2.below hV))
  have RKB := Lib.hid (fun V (hV : Below w.heap.size w V) => rkb V (h.below hV))
  have RDB := Lib.hid (fun V (hV : Below w.heap.size w V) => rdb V (h2.below hV))
  have w1 : IntKind.i64.wrap ((n0 : Int) + 1) = (n1 : Int) := by rw [IntWalk.i64_in _ (by omega)]; omega
  have w2 : IntKind.i64.wrap ((n1 : Int) + 1) = (n2 : Int) := by rw [IntWalk.i64_in _ (by omega)]; omega
  have H := Lib.hid h
  have HI := Lib.hid hi
  have HT := Lib.hid ht
  clear h h2 hsd hi ht hj hj1 e1 e3 E1 E2 E3 q1 q3 Q1 Q2 Q3 rka rda rkb rdb hit hil
  obtain ⟨b1, hb1⟩ : ∃ x : Bool, x = false := ⟨_, rfl⟩
  clear b1 hb1
  unfold sv
  go_enter Try.func26, Try.ntmps26
  go_wp2_with fail
  obtain ⟨W, hW⟩ : ∃ W : World, W = ((w.alloc (.cells #[.bool false, .slice A ks.length c, .slice B ds.length d] 33)).alloc (.cells #[.bool false, .slice none 0 0, .slice none 0 0] 33)).alloc (.cells #[.bool false, .slice none 0 0, .slice none 0 0] 33) := ⟨_, rfl⟩
  have RW := Lib.hid (show W.heap[w.heap.size]? = some (.cells #[.bool false, .slice A ks.length c, .slice B ds.length d] 33 (0, 0)) by rw [hW]; exact row_on (row_on (heap_alloc_new w _) (bda _ _)) (bda _ _))
  have RR := Lib.hid (show W.heap[w.heap.size + 1]? = some (.cells #[.bool false, .slice none 0 0, .slice none 0 0] 33 (0, 0)) by rw [hW]; have := row_on (heap_alloc_new (w.alloc (.cells #[.bool false, .slice A ks.length c, .slice B ds.length d] 33)) (.cells #[.bool false, .slice none 0 0, .slice none 0 0] 33)) (bda _ (.cells #[.bool false, .slice none 0 0, .slice none 0 0] 33)); simpa using this)
  have RO := Lib.hid (show W.heap[w.heap.size + 2]? = some (.cells #[.bool false, .slice none 0 0, .slice none 0 0] 33 (0, 0)) by rw [hW]; have := heap_alloc_new ((w.alloc (.cells #[.bool false, .slice A ks.length c, .slice B ds.length d] 33)).alloc (.cells #[.bool false, .slice none 0 0, .slice none 0 0] 33)) (.cells #[.bool false, .slice none 0 0, .slice none 0 0] 33); simpa using this)
  have B1 := Lib.hid (show Below w.heap.size w W by rw [hW]; exact bon (bon (bda _ _) (bda _ _)) (bda _ _))
  rw [← hW]
  clear hW
  go_loopw [8] (fun i wr => ∃ k : Nat, k ≤ n0 ∧ i = .int .i64 k ∧ Hid (Below W.heap.size W wr)) (fun i _ => ks.length - (intOf i).toNat)
  case atStart => exact ⟨0, Nat.zero_le _, rfl, Lib.hid (Below.refl _ _)⟩
  case round =>
    obtain ⟨k, hk, rfl, hb⟩ := hrel
    have KW := Lib.hid (show Below w.heap.size w wr from B1.out.trans (hb.out.mono B1.out.size))
    have f0 := row_c (row_on RW.out hb.out) (i := 0) rfl
    have f1 := row_c (row_on RW.out hb.out) (i := 1) rfl
    have hkl : k ≤ ks.length := Nat.le_trans hk (by rw [← HI.out]; exact lbK_le key ks)
    by_cases hlt : k < n0
    · have k2 := Nat.lt_of_lt_of_le hlt (by rw [← HI.out]; exact lbK_le key ks)
      obtain ⟨x, hx⟩ := get_lt k2
      obtain ⟨b, off, hA, hbl, g2⟩ := (H.out.below KW.out).cell hx
      have LS := less_dec x key
      rw [decide_eq_true (lbK_below hx (by rw [HI.out]; exact hlt))] at LS
      have HLT := Lib.hid hlt
      unfold sv at g2
      have k0 : (0 : Int) ≤ (k : Int) := by omega
      have k1 : (k : Int) < (ks.length : Int) := by omega
      subst hA
      clear hx hlt hk
      go_wp2
      go_roundw
      case rel => exact ⟨k + 1, HLT.out, by go_num, hb⟩
      case measure => simp [intOf]; omega
    · obtain rfl : k = n0 := by omega
      clear hlt hk hl
      have hxx := there_spec.1 HT.out
      rw [HI.out] at hxx
      have hn := (List.getElem?_eq_some_iff.1 hxx).1
      obtain ⟨bq, oq, hA, hbl, g2⟩ := (H.out.below KW.out).cell hxx
      have LS := less_dec key key
      rw [decide_eq_false (lt_ir key)] at LS
      have k0 : (0 : Int) ≤ (k : Int) := by omega
      have k1 : (k : Int) < (ks.length : Int) := by omega
      have e1 : (key == key) = true := beq_self_eq_true key
      unfold sv at g2
      subst hA
      clear hxx hn
      have BX := Lib.hid (Bx.fresh (base := w.heap.size + 3) (row_on RO.out hb.out) KW.out (heap_lt (row_on RO.out hb.out)) ⟨by omega, by omega⟩)
      have RWx := Lib.hid (row_on RW.out hb.out)
      have RRx := Lib.hid (row_on RR.out hb.out)
      clear RW RR RO hb KW B1
      have RW := RWx
      have RR := RRx
      clear RWx RRx
      obtain ⟨Vs, hVs⟩ : ∃ z, wr = z := ⟨_, rfl⟩
      rw [hVs] at BX RW RR f0 f1 g2 hbl ⊢
      clear hVs
      go_upto_region 9 with (fail)
      clear f0 f1 g2 LS k0 k1 e1 hbl
      refine wp_operands (W := Vs) rfl 6 [50, 51, 52, 53, 54, 55] (fun i u x => match i with | 0 => u = .pointer (some ⟨w.heap.size + 2, 1, none⟩) | 1 => u = .slice none 0 0 | 2 => u = .pointer (some ⟨w.heap.size, 1, none⟩) | 3 => u = .slice (some ⟨bq, oq, none⟩) ks.length c | 4 => u = .int .i64 (k : Int) | 5 => u = .slice Ka (k) ca | _ => True) (fun _ => false)
        (by decide) rfl (by kernel_rfl) (by kernel_rfl) (by decide) (by kernel_rfl) ?_ (fun _ _ _ h => by cases h) ?_ ?_
      · intro i u x x' hi hR hb'
        have hi' : i = 0 ∨ i = 1 ∨ i = 2 ∨ i = 3 ∨ i = 4 ∨ i = 5 := by omega
        rcases hi' with rfl | rfl | rfl | rfl | rfl | rfl
        · exact hR
        · exact hR
        · exact hR
        · exact hR
        · exact hR
        · exact hR
      · intro i av x K hi hF hb' hw hK
        have hi' : i = 0 ∨ i = 1 ∨ i = 2 ∨ i = 3 ∨ i = 4 ∨ i = 5 := by omega
        rcases hi' with rfl | rfl | rfl | rfl | rfl | rfl
        · simp only [wpOp, List.getElem?_toArray, List.getElem?_cons_zero, Region.wanted, if_true]
          refine Or.inl ?_
          have e0 : av.tmps.getD 7 undef = .pointer (some ⟨w.heap.size + 2, 0, none⟩) := hF.2.2 7 (by decide)
          have e0e : av.eval (.tmp 7) = .pointer (some ⟨w.heap.size + 2, 0, none⟩) := e0
          have e0g : av.tmps[7]?.getD undef = .pointer (some ⟨w.heap.size + 2, 0, none⟩) := by have := e0; simp only [Array.getD_eq_getD_getElem?] at this; exact this
          clear hw hF
          simp only [Oper.wp, execOp]
          try simp only [e0e]
          go_simp
          exact hK _ x (by first | rfl | (simp only [Nat.add_zero]; done) | (congr 1; omega)) (Below.refl _ _) (fun h => by cases h)
        · simp only [wpOp, List.getElem?_toArray, List.getElem?_cons_succ, List.getElem?_cons_zero, Region.wanted, if_true]
          refine Or.inl ?_
          have e0 : av.tmps.getD 50 undef = .pointer (some ⟨w.heap.size + 2, 1, none⟩) := (hw 0 (by kernel_rfl))
          have e0e : av.eval (.tmp 50) = .pointer (some ⟨w.heap.size + 2, 1, none⟩) := e0
          have e0g : av.tmps[50]?.getD undef = .pointer (some ⟨w.heap.size + 2, 1, none⟩) := by have := e0; simp only [Array.getD_eq_getD_getElem?] at this; exact this
          obtain ⟨fo0, fo1, fo2⟩ := BX.out.f hb'
          clear hw hF
          simp only [Oper.wp, execOp]
          try simp only [e0e]
          go_simp
          exact hK _ x (by first | rfl | (simp only [Nat.add_zero]; done) | (congr 1; omega)) (Below.refl _ _) (fun h => by cases h)
        · simp only [wpOp, List.getElem?_toArray, List.getElem?_cons_succ, List.getElem?_cons_zero, Region.wanted, if_true]
          refine Or.inl ?_
          have e0 : av.tmps.getD 3 undef = .pointer (some ⟨w.heap.size, 0, none⟩) := hF.2.2 3 (by decide)
          have e0e : av.eval (.tmp 3) = .pointer (some ⟨w.heap.size, 0, none⟩) := e0
          have e0g : av.tmps[3]?.getD undef = .pointer (some ⟨w.heap.size, 0, none⟩) := by have := e0; simp only [Array.getD_eq_getD_getElem?] at this; exact this
          clear hw hF
          simp only [Oper.wp, execOp]
          try simp only [e0e]
          go_simp
          exact hK _ x (by first | rfl | (simp only [Nat.add_zero]; done) | (congr 1; omega)) (Below.refl _ _) (fun h => by cases h)
        · simp only [wpOp, List.getElem?_toArray, List.getElem?_cons_succ, List.getElem?_cons_zero, Region.wanted, if_true]
          refine Or.inl ?_
          have e0 : av.tmps.getD 52 undef = .pointer (some ⟨w.heap.size, 1, none⟩) := (hw 2 (by kernel_rfl))
          have e0e : av.eval (.tmp 52) = .pointer (some ⟨w.heap.size, 1, none⟩) := e0
          have e0g : av.tmps[52]?.getD undef = .pointer (some ⟨w.heap.size, 1, none⟩) := by have := e0; simp only [Array.getD_eq_getD_getElem?] at this; exact this
          have fn := row_c (row_on RW.out hb') (i := 1) rfl
          clear hw hF
          simp only [Oper.wp, execOp]
          try simp only [e0e]
          go_simp
          exact hK _ x (by first | rfl | (simp only [Nat.add_zero]; done) | (congr 1; omega)) (Below.refl _ _) (fun h => by cases h)
        · simp only [wpOp, List.getElem?_toArray, List.getElem?_cons_succ, List.getElem?_cons_zero, Region.wanted, if_true]
          refine Or.inl ?_
          have e0 : av.tmps.getD 8 undef = .int .i64 (k : Int) := hF.2.2 8 (by decide)
          have e0e : av.eval (.tmp 8) = .int .i64 (k : Int) := e0
          have e0g : av.tmps[8]?.getD undef = .int .i64 (k : Int) := by have := e0; simp only [Array.getD_eq_getD_getElem?] at this; exact this
          clear hw hF
          simp only [Oper.wp, execOp]
          try simp only [e0e]
          go_simp
          exact hK _ x (by first | rfl | (simp only [Nat.add_zero]; done) | (congr 1; omega)) (Below.refl _ _) (fun h => by cases h)
        · simp only [wpOp, List.getElem?_toArray, List.getElem?_cons_succ, List.getElem?_cons_zero, Region.wanted, if_true]
          refine Or.inl ?_
          have e0 : av.tmps.getD 53 undef = .slice (some ⟨bq, oq, none⟩) ks.length c := (hw 3 (by kernel_rfl))
          have e0e : av.eval (.tmp 53) = .slice (some ⟨bq, oq, none⟩) ks.length c := e0
          have e0g : av.tmps[53]?.getD undef = .slice (some ⟨bq, oq, none⟩) ks.length c := by have := e0; simp only [Array.getD_eq_getD_getElem?] at this; exact this
          have e1 : av.tmps.getD 54 undef = .int .i64 (k : Int) := (hw 4 (by kernel_rfl))
          have e1e : av.eval (.tmp 54) = .int .i64 (k : Int) := e1
          have e1g : av.tmps[54]?.getD undef = .int .i64 (k : Int) := by have := e1; simp only [Array.getD_eq_getD_getElem?] at this; exact this
          clear hw hF
          simp only [Oper.wp, execOp]
          try simp only [e0e, e1e]
          go_simp
          exact hK _ x (by first | rfl | (simp only [Nat.add_zero]; done) | (congr 1; omega)) (Below.refl _ _) (fun h => by cases h)
      intro av x hF hb' hR _
      have e0 : av.tmps.getD 50 undef = .pointer (some ⟨w.heap.size + 2, 1, none⟩) := hR 0 (by decide)
      have e1 : av.tmps.getD 51 undef = .slice none 0 0 := hR 1 (by decide)
      have e2 : av.tmps.getD 52 undef = .pointer (some ⟨w.heap.size, 1, none⟩) := hR 2 (by decide)
      have e3 : av.tmps.getD 53 undef = .slice (some ⟨bq, oq, none⟩) ks.length c := hR 3 (by decide)
      have e4 : av.tmps.getD 54 undef = .int .i64 (k : Int) := hR 4 (by decide)
      have e5 : av.tmps.getD 55 undef = .slice Ka (k) ca := hR 5 (by decide)
      rw [hF.fold (by kernel_rfl)]
      simp only [List.foldl_cons, List.foldl_nil, e0, e1, e2, e3, e4, e5]
      simp only [Act.put, List.setIfInBounds_toArray, List.set_cons_zero, List.set_cons_succ]
      change wpOps _ _ _ [6, 7, 8] _ _
      simp only [wpOps_cons]
      clear e0 e1 e2 e3 e4 e5 hR hF
      have BY := Lib.hid (BX.out.below hb')
      have RW := Lib.hid (row_on RW.out hb')
      have RR := Lib.hid (row_on RR.out hb')
      clear hb'
      simp only [wpOp, List.getElem?_toArray, List.getElem?_cons_succ, List.getElem?_cons_zero, Region.wanted, if_true]
      refine Or.inl ?_
      refine wp_append2 sv_one et_s (.tmp 51) (.tmp 55) rfl (w.heap.size + 3) (.slice none 0 0) ([] : List (List UInt8)) y1 Z1 Ka ca (k) rfl BY.out.o1 (RKA.out _ BY.out.kb) L1.out rfl EK.out.1 BN.out.1 BY.out.bz ?_
      intro A9 c9 x9 ho9 hg9 hn9
      obtain ⟨ABX1, hA2⟩ : ∃ z, A9 = z := ⟨_, rfl⟩
      obtain ⟨cBX1, hc2⟩ : ∃ z, c9 = z := ⟨_, rfl⟩
      rw [hA2, hc2] at ho9 hn9 ⊢
      have BN := Lib.hid (BY.out.push1 ho9 hg9 hn9)
      have N9 := Lib.hid (BY.out.row1 hg9 BY.out.lt.2 BY.out.row)
      obtain ⟨VBX1, hU⟩ : ∃ U : World, U = x9.setCell ⟨w.heap.size + 2, 1, none⟩ (.slice ABX1 Z1.length cBX1) := ⟨_, rfl⟩
      rw [← hU] at BN
      have RWz := Lib.hid (show VBX1.heap[w.heap.size]? = some _ by rw [hU]; exact row_far (BY.out.row1 hg9 (by omega) RW.out) (by omega) _)
      have RRz := Lib.hid (show VBX1.heap[w.heap.size + 1]? = some _ by rw [hU]; exact row_far (BY.out.row1 hg9 (by omega) RR.out) (by omega) _)
      have f9 := row_c N9.out (i := 1) rfl
      have q9 := frozen_of_row _ _ 1 _ _ N9.out
      clear ho9 hg9 hn9 hA2 hc2 BY N9 BX RW RR
      have BX := BN
      clear BN
      have RW := RWz
      clear RWz
      have RR := RRz
      clear RRz
      go_simp
      try rw [wpOps_cons]
      simp only [wpOp, List.getElem?_toArray, List.getElem?_cons_succ, List.getElem?_cons_zero, Region.wanted, if_true]
      refine Or.inl ?_
      simp only [Oper.wp, execOp]
      go_simp
      try rw [wpOps_cons]
      simp only [wpOp, List.getElem?_toArray, List.getElem?_cons_succ, List.getElem?_cons_zero, Region.wanted, if_true]
      refine Or.inl ?_
      simp only [Oper.wp, execOp]
      go_simp
      try simp only [wpOps]
      rw [← hU]
      clear hU f9 q9
      obtain ⟨Y, hY⟩ : ∃ Y : World, Y = VBX1.alloc (.cells #[.string ⟨key.toArray⟩] 9) := ⟨_, rfl⟩
      have HY := Lib.hid hY
      have BY := Lib.hid (show Bx w Y _ _ _ _ _ _ _ _ _ _ by rw [hY]; exact BX.out.below (bda _ _))
      have RK := Lib.hid (show Rl sv Y (some ⟨VBX1.heap.size, 0, none⟩) 1 [key] by rw [hY]; exact rl_of_row (g := sv) (xs := [key]) (heap_alloc_new _ _) 1 (Nat.le_refl _))
      have RW := Lib.hid (show Y.heap[_]? = some _ by rw [hY]; exact row_on RW.out (bda _ _))
      have RR := Lib.hid (show Y.heap[_]? = some _ by rw [hY]; exact row_on RR.out (bda _ _))
      obtain ⟨fo0, fo1, fo2⟩ := BX.out.f (Below.refl _ _)
      have SY := Lib.hid (show Y.heap.size = VBX1.heap.size + 1 by rw [hY]; simp)
      clear hY
      go_wp2_with (at_builtin; refine wpList_append2 sv_one et_s rfl _ _ rfl (w.heap.size + 3) (.slice ABX1 Z1.length cBX1) Z1 [key] Z2 (some ⟨VBX1.heap.size, 0, none⟩) 1 1 rfl (by rw [← HY.out]; exact BY.out.o1) (by rw [← HY.out]; exact RK.out) rfl rfl EK.out.2.1 BN.out.2.1 (by rw [← HY.out]; exact BY.out.bz) ?_)
      rw [← HY.out]
      clear HY fo0 fo1 fo2
      intro A9 c9 x9 ho9 hg9 hn9
      rw [← SY.out] at hn9
      clear SY
      obtain ⟨ABX2, hA2⟩ : ∃ z, A9 = z := ⟨_, rfl⟩
      obtain ⟨cBX2, hc2⟩ : ∃ z, c9 = z := ⟨_, rfl⟩
      rw [hA2, hc2] at ho9 hn9 ⊢
      have BN := Lib.hid (BY.out.push1 ho9 hg9 hn9)
      have N9 := Lib.hid (BY.out.row1 hg9 BY.out.lt.2 BY.out.row)
      obtain ⟨VBX2, hU⟩ : ∃ U : World, U = x9.setCell ⟨w.heap.size + 2, 1, none⟩ (.slice ABX2 Z2.length cBX2) := ⟨_, rfl⟩
      rw [← hU] at BN
      have RWz := Lib.hid (show VBX2.heap[w.heap.size]? = some _ by rw [hU]; exact row_far (BY.out.row1 hg9 (by omega) RW.out) (by omega) _)
      have RRz := Lib.hid (show VBX2.heap[w.heap.size + 1]? = some _ by rw [hU]; exact row_far (BY.out.row1 hg9 (by omega) RR.out) (by omega) _)
      have f9 := row_c N9.out (i := 1) rfl
      have q9 := frozen_of_row _ _ 1 _ _ N9.out
      clear ho9 hg9 hn9 hA2 hc2 BY N9 BX RW RR
      have BX := BN
      clear BN
      have RW := RWz
      clear RWz
      have RR := RRz
      clear RRz
      have HU := Lib.hid hU
      clear hU RK
      go_upto_region 11 with (fail)
      rw [← HU.out]
      clear HU f9 q9
      refine wp_operands (W := VBX2) rfl 6 [64, 65, 66, 67, 68, 69] (fun i u x => match i with | 0 => u = .pointer (some ⟨w.heap.size + 2, 2, none⟩) | 1 => u = .slice none 0 0 | 2 => u = .pointer (some ⟨w.heap.size, 2, none⟩) | 3 => u = .slice B ds.length d | 4 => u = .int .i64 (n1 : Int) | 5 => u = .slice Da (n1) da | _ => True) (fun _ => false)
        (by decide) rfl (by kernel_rfl) (by kernel_rfl) (by decide) (by kernel_rfl) ?_ (fun _ _ _ h => by cases h) ?_ ?_
      · intro i u x x' hi hR hb'
        have hi' : i = 0 ∨ i = 1 ∨ i = 2 ∨ i = 3 ∨ i = 4 ∨ i = 5 := by omega
        rcases hi' with rfl | rfl | rfl | rfl | rfl | rfl
        · exact hR
        · exact hR
        · exact hR
        · exact hR
        · exact hR
        · exact hR
      · intro i av x K hi hF hb' hw hK
        have hi' : i = 0 ∨ i = 1 ∨ i = 2 ∨ i = 3 ∨ i = 4 ∨ i = 5 := by omega
        rcases hi' with rfl | rfl | rfl | rfl | rfl | rfl
        · simp only [wpOp, List.getElem?_toArray, List.getElem?_cons_zero, Region.wanted, if_true]
          refine Or.inl ?_
          have e0 : av.tmps.getD 7 undef = .pointer (some ⟨w.heap.size + 2, 0, none⟩) := hF.2.2 7 (by decide)
          have e0e : av.eval (.tmp 7) = .pointer (some ⟨w.heap.size + 2, 0, none⟩) := e0
          have e0g : av.tmps[7]?.getD undef = .pointer (some ⟨w.heap.size + 2, 0, none⟩) := by have := e0; simp only [Array.getD_eq_getD_getElem?] at this; exact this
          clear hw hF
          simp only [Oper.wp, execOp]
          try simp only [e0e]
          go_simp
          exact hK _ x (by first | rfl | (simp only [Nat.add_zero]; done) | (congr 1; omega)) (Below.refl _ _) (fun h => by cases h)
        · simp only [wpOp, List.getElem?_toArray, List.getElem?_cons_succ, List.getElem?_cons_zero, Region.wanted, if_true]
          refine Or.inl ?_
          have e0 : av.tmps.getD 64 undef = .pointer (some ⟨w.heap.size + 2, 2, none⟩) := (hw 0 (by kernel_rfl))
          have e0e : av.eval (.tmp 64) = .pointer (some ⟨w.heap.size + 2, 2, none⟩) := e0
          have e0g : av.tmps[64]?.getD undef = .pointer (some ⟨w.heap.size + 2, 2, none⟩) := by have := e0; simp only [Array.getD_eq_getD_getElem?] at this; exact this
          obtain ⟨fo0, fo1, fo2⟩ := BX.out.f hb'
          clear hw hF
          simp only [Oper.wp, execOp]
          try simp only [e0e]
          go_simp
          exact hK _ x (by first | rfl | (simp only [Nat.add_zero]; done) | (congr 1; omega)) (Below.refl _ _) (fun h => by cases h)
        · simp only [wpOp, List.getElem?_toArray, List.getElem?_cons_succ, List.getElem?_cons_zero, Region.wanted, if_true]
          refine Or.inl ?_
          have e0 : av.tmps.getD 3 undef = .pointer (some ⟨w.heap.size, 0, none⟩) := hF.2.2 3 (by decide)
          have e0e : av.eval (.tmp 3) = .pointer (some ⟨w.heap.size, 0, none⟩) := e0
          have e0g : av.tmps[3]?.getD undef = .pointer (some ⟨w.heap.size, 0, none⟩) := by have := e0; simp only [Array.getD_eq_getD_getElem?] at this; exact this
          clear hw hF
          simp only [Oper.wp, execOp]
          try simp only [e0e]
          go_simp
          exact hK _ x (by first | rfl | (simp only [Nat.add_zero]; done) | (congr 1; omega)) (Below.refl _ _) (fun h => by cases h)
        · simp only [wpOp, List.getElem?_toArray, List.getElem?_cons_succ, List.getElem?_cons_zero, Region.wanted, if_true]
          refine Or.inl ?_
          have e0 : av.tmps.getD 66 undef = .pointer (some ⟨w.heap.size, 2, none⟩) := (hw 2 (by kernel_rfl))
          have e0e : av.eval (.tmp 66) = .pointer (some ⟨w.heap.size, 2, none⟩) := e0
          have e0g : av.tmps[66]?.getD undef = .pointer (some ⟨w.heap.size, 2, none⟩) := by have := e0; simp only [Array.getD_eq_getD_getElem?] at this; exact this
          have fn := row_c (row_on RW.out hb') (i := 2) rfl
          clear hw hF
          simp only [Oper.wp, execOp]
          try simp only [e0e]
          go_simp
          exact hK _ x (by first | rfl | (simp only [Nat.add_zero]; done) | (congr 1; omega)) (Below.refl _ _) (fun h => by cases h)
        · simp only [wpOp, List.getElem?_toArray, List.getElem?_cons_succ, List.getElem?_cons_zero, Region.wanted, if_true]
          refine Or.inl ?_
          have e0 : av.tmps.getD 10 undef = .int .i64 (n1 : Int) := hF.2.2 10 (by decide)
          have e0e : av.eval (.tmp 10) = .int .i64 (n1 : Int) := e0
          have e0g : av.tmps[10]?.getD undef = .int .i64 (n1 : Int) := by have := e0; simp only [Array.getD_eq_getD_getElem?] at this; exact this
          clear hw hF
          simp only [Oper.wp, execOp]
          try simp only [e0e]
          go_simp
          exact hK _ x (by first | rfl | (simp only [Nat.add_zero]; done) | (congr 1; omega)) (Below.refl _ _) (fun h => by cases h)
        · simp only [wpOp, List.getElem?_toArray, List.getElem?_cons_succ, List.getElem?_cons_zero, Region.wanted, if_true]
          refine Or.inl ?_
          have e0 : av.tmps.getD 67 undef = .slice B ds.length d := (hw 3 (by kernel_rfl))
          have e0e : av.eval (.tmp 67) = .slice B ds.length d := e0
          have e0g : av.tmps[67]?.getD undef = .slice B ds.length d := by have := e0; simp only [Array.getD_eq_getD_getElem?] at this; exact this
          have e1 : av.tmps.getD 68 undef = .int .i64 (n1 : Int) := (hw 4 (by kernel_rfl))
          have e1e : av.eval (.tmp 68) = .int .i64 (n1 : Int) := e1
          have e1g : av.tmps[68]?.getD undef = .int .i64 (n1 : Int) := by have := e1; simp only [Array.getD_eq_getD_getElem?] at this; exact this
          clear hw hF
          simp only [Oper.wp, execOp]
          try simp only [e0e, e1e]
          go_simp
          exact hK _ x (by first | rfl | (simp only [Nat.add_zero]; done) | (congr 1; omega)) (Below.refl _ _) (fun h => by cases h)
      intro av x hF hb' hR _
      have e0 : av.tmps.getD 64 undef = .pointer (some ⟨w.heap.size + 2, 2, none⟩) := hR 0 (by decide)
      have e1 : av.tmps.getD 65 undef = .slice none 0 0 := hR 1 (by decide)
      have e2 : av.tmps.getD 66 undef = .pointer (some ⟨w.heap.size, 2, none⟩) := hR 2 (by decide)
      have e3 : av.tmps.getD 67 undef = .slice B ds.length d := hR 3 (by decide)
      have e4 : av.tmps.getD 68 undef = .int .i64 (n1 : Int) := hR 4 (by decide)
      have e5 : av.tmps.getD 69 undef = .slice Da (n1) da := hR 5 (by decide)
      rw [hF.fold (by kernel_rfl)]
      simp only [List.foldl_cons, List.foldl_nil, e0, e1, e2, e3, e4, e5]
      simp only [Act.put, List.setIfInBounds_toArray, List.set_cons_zero, List.set_cons_succ]
      change wpOps _ _ _ [6, 7, 8] _ _
      simp only [wpOps_cons]
      clear e0 e1 e2 e3 e4 e5 hR hF
      have BY := Lib.hid (BX.out.below hb')
      have RW := Lib.hid (row_on RW.out hb')
      have RR := Lib.hid (row_on RR.out hb')
      clear hb'
      simp only [wpOp, List.getElem?_toArray, List.getElem?_cons_succ, List.getElem?_cons_zero, Region.wanted, if_true]
      refine Or.inl ?_
      refine wp_append2 nv_one et_i (.tmp 65) (.tmp 69) rfl (w.heap.size + 3) (.slice none 0 0) ([] : List Int) u1 X1 Da da (n1) rfl BY.out.o2 (RDA.out _ BY.out.kb) L2.out rfl EQ.out.1 BN.out.2.2.2.1 BY.out.bz ?_
      intro A9 c9 x9 ho9 hg9 hn9
      obtain ⟨ABX3, hA2⟩ : ∃ z, A9 = z := ⟨_, rfl⟩
      obtain ⟨cBX3, hc2⟩ : ∃ z, c9 = z := ⟨_, rfl⟩
      rw [hA2, hc2] at ho9 hn9 ⊢
      have BN := Lib.hid (BY.out.push2 ho9 hg9 hn9)
      have N9 := Lib.hid (BY.out.row2 hg9 BY.out.lt.2 BY.out.row)
      obtain ⟨VBX3, hU⟩ : ∃ U : World, U = x9.setCell ⟨w.heap.size + 2, 2, none⟩ (.slice ABX3 X1.length cBX3) := ⟨_, rfl⟩
      rw [← hU] at BN
      have RWz := Lib.hid (show VBX3.heap[w.heap.size]? = some _ by rw [hU]; exact row_far (BY.out.row2 hg9 (by omega) RW.out) (by omega) _)
      have RRz := Lib.hid (show VBX3.heap[w.heap.size + 1]? = some _ by rw [hU]; exact row_far (BY.out.row2 hg9 (by omega) RR.out) (by omega) _)
      have f9 := row_c N9.out (i := 2) rfl
      have q9 := frozen_of_row _ _ 2 _ _ N9.out
      clear ho9 hg9 hn9 hA2 hc2 BY N9 BX RW RR
      have BX := BN
      clear BN
      have RW := RWz
      clear RWz
      have RR := RRz
      clear RRz
      go_simp
      try rw [wpOps_cons]
      simp only [wpOp, List.getElem?_toArray, List.getElem?_cons_succ, List.getElem?_cons_zero, Region.wanted, if_true]
      refine Or.inl ?_
      simp only [Oper.wp, execOp]
      go_simp
      try rw [wpOps_cons]
      simp only [wpOp, List.getElem?_toArray, List.getElem?_cons_succ, List.getElem?_cons_zero, Region.wanted, if_true]
      refine Or.inl ?_
      simp only [Oper.wp, execOp]
      go_simp
      try simp only [wpOps]
      rw [← hU]
      clear hU f9 q9
      obtain ⟨Y, hY⟩ : ∃ Y : World, Y = VBX3.alloc (.cells #[.int .i64 kid] 3) := ⟨_, rfl⟩
      have HY := Lib.hid hY
      have BY := Lib.hid (show Bx w Y _ _ _ _ _ _ _ _ _ _ by rw [hY]; exact BX.out.below (bda _ _))
      have RK := Lib.hid (show Rl nv Y (some ⟨VBX3.heap.size, 0, none⟩) 1 [kid] by rw [hY]; exact rl_of_row (g := nv) (xs := [kid]) (heap_alloc_new _ _) 1 (Nat.le_refl _))
      have RW := Lib.hid (show Y.heap[_]? = some _ by rw [hY]; exact row_on RW.out (bda _ _))
      have RR := Lib.hid (show Y.heap[_]? = some _ by rw [hY]; exact row_on RR.out (bda _ _))
      obtain ⟨fo0, fo1, fo2⟩ := BX.out.f (Below.refl _ _)
      have SY := Lib.hid (show Y.heap.size = VBX3.heap.size + 1 by rw [hY]; simp)
      clear hY
      go_wp2_with (at_builtin; refine wpList_append2 nv_one et_i rfl _ _ rfl (w.heap.size + 3) (.slice ABX3 X1.length cBX3) X1 [kid] X2 (some ⟨VBX3.heap.size, 0, none⟩) 1 1 rfl (by rw [← HY.out]; exact BY.out.o2) (by rw [← HY.out]; exact RK.out) rfl rfl EQ.out.2.1 BN.out.2.2.2.2.1 (by rw [← HY.out]; exact BY.out.bz) ?_)
      rw [← HY.out]
      clear HY fo0 fo1 fo2
      intro A9 c9 x9 ho9 hg9 hn9
      rw [← SY.out] at hn9
      clear SY
      obtain ⟨ABX4, hA2⟩ : ∃ z, A9 = z := ⟨_, rfl⟩
      obtain ⟨cBX4, hc2⟩ : ∃ z, c9 = z := ⟨_, rfl⟩
      rw [hA2, hc2] at ho9 hn9 ⊢
      have BN := Lib.hid (BY.out.push2 ho9 hg9 hn9)
      have N9 := Lib.hid (BY.out.row2 hg9 BY.out.lt.2 BY.out.row)
      obtain ⟨VBX4, hU⟩ : ∃ U : World, U = x9.setCell ⟨w.heap.size + 2, 2, none⟩ (.slice ABX4 X2.length cBX4) := ⟨_, rfl⟩
      rw [← hU] at BN
      have RWz := Lib.hid (show VBX4.heap[w.heap.size]? = some _ by rw [hU]; exact row_far (BY.out.row2 hg9 (by omega) RW.out) (by omega) _)
      have RRz := Lib.hid (show VBX4.heap[w.heap.size + 1]? = some _ by rw [hU]; exact row_far (BY.out.row2 hg9 (by omega) RR.out) (by omega) _)
      have f9 := row_c N9.out (i := 2) rfl
      have q9 := frozen_of_row _ _ 2 _ _ N9.out
      clear ho9 hg9 hn9 hA2 hc2 BY N9 BX RW RR
      have BX := BN
      clear BN
      have RW := RWz
      clear RWz
      have RR := RRz
      clear RRz
      have HU := Lib.hid hU
      clear hU RK
      go_upto_region 14 with (fail)
      rw [← HU.out]
      clear HU f9 q9
      refine wp_operands (W := VBX4) rfl 7 [79, 80, 81, 82, 83, 84, 85] (fun i u x => match i with | 0 => u = .pointer (some ⟨w.heap.size + 2, 1, none⟩) | 1 => u = .slice ABX2 Z2.length cBX2 | 2 => u = .pointer (some ⟨w.heap.size, 1, none⟩) | 3 => u = .slice (some ⟨bq, oq, none⟩) ks.length c | 4 => u = .int .i64 (k : Int) | 5 => u = .int .i64 (n1 : Int) | 6 => u = .slice Kb (ks.length - n1) cb | _ => True) (fun _ => false)
        (by decide) rfl (by kernel_rfl) (by kernel_rfl) (by decide) (by kernel_rfl) ?_ (fun _ _ _ h => by cases h) ?_ ?_
      · intro i u x x' hi hR hb'
        have hi' : i = 0 ∨ i = 1 ∨ i = 2 ∨ i = 3 ∨ i = 4 ∨ i = 5 ∨ i = 6 := by omega
        rcases hi' with rfl | rfl | rfl | rfl | rfl | rfl | rfl
        · exact hR
        · exact hR
        · exact hR
        · exact hR
        · exact hR
        · exact hR
        · exact hR
      · intro i av x K hi hF hb' hw hK
        have hi' : i = 0 ∨ i = 1 ∨ i = 2 ∨ i = 3 ∨ i = 4 ∨ i = 5 ∨ i = 6 := by omega
        rcases hi' with rfl | rfl | rfl | rfl | rfl | rfl | rfl
        · simp only [wpOp, List.getElem?_toArray, List.getElem?_cons_zero, Region.wanted, if_true]
          refine Or.inl ?_
          have e0 : av.tmps.getD 7 undef = .pointer (some ⟨w.heap.size + 2, 0, none⟩) := hF.2.2 7 (by decide)
          have e0e : av.eval (.tmp 7) = .pointer (some ⟨w.heap.size + 2, 0, none⟩) := e0
          have e0g : av.tmps[7]?.getD undef = .pointer (some ⟨w.heap.size + 2, 0, none⟩) := by have := e0; simp only [Array.getD_eq_getD_getElem?] at this; exact this
          clear hw hF
          simp only [Oper.wp, execOp]
          try simp only [e0e]
          go_simp
          exact hK _ x (by first | rfl | (simp only [Nat.add_zero]; done) | (congr 1; omega)) (Below.refl _ _) (fun h => by cases h)
        · simp only [wpOp, List.getElem?_toArray, List.getElem?_cons_succ, List.getElem?_cons_zero, Region.wanted, if_true]
          refine Or.inl ?_
          have e0 : av.tmps.getD 79 undef = .pointer (some ⟨w.heap.size + 2, 1, none⟩) := (hw 0 (by kernel_rfl))
          have e0e : av.eval (.tmp 79) = .pointer (some ⟨w.heap.size + 2, 1, none⟩) := e0
          have e0g : av.tmps[79]?.getD undef = .pointer (some ⟨w.heap.size + 2, 1, none⟩) := by have := e0; simp only [Array.getD_eq_getD_getElem?] at this; exact this
          obtain ⟨fo0, fo1, fo2⟩ := BX.out.f hb'
          clear hw hF
          simp only [Oper.wp, execOp]
          try simp only [e0e]
          go_simp
          exact hK _ x (by first | rfl | (simp only [Nat.add_zero]; done) | (congr 1; omega)) (Below.refl _ _) (fun h => by cases h)
        · simp only [wpOp, List.getElem?_toArray, List.getElem?_cons_succ, List.getElem?_cons_zero, Region.wanted, if_true]
          refine Or.inl ?_
          have e0 : av.tmps.getD 3 undef = .pointer (some ⟨w.heap.size, 0, none⟩) := hF.2.2 3 (by decide)
          have e0e : av.eval (.tmp 3) = .pointer (some ⟨w.heap.size, 0, none⟩) := e0
          have e0g : av.tmps[3]?.getD undef = .pointer (some ⟨w.heap.size, 0, none⟩) := by have := e0; simp only [Array.getD_eq_getD_getElem?] at this; exact this
          clear hw hF
          simp only [Oper.wp, execOp]
          try simp only [e0e]
          go_simp
          exact hK _ x (by first | rfl | (simp only [Nat.add_zero]; done) | (congr 1; omega)) (Below.refl _ _) (fun h => by cases h)
        · simp only [wpOp, List.getElem?_toArray, List.getElem?_cons_succ, List.getElem?_cons_zero, Region.wanted, if_true]
          refine Or.inl ?_
          have e0 : av.tmps.getD 81 undef = .pointer (some ⟨w.heap.size, 1, none⟩) := (hw 2 (by kernel_rfl))
          have e0e : av.eval (.tmp 81) = .pointer (some ⟨w.heap.size, 1, none⟩) := e0
          have e0g : av.tmps[81]?.getD undef = .pointer (some ⟨w.heap.size, 1, none⟩) := by have := e0; simp only [Array.getD_eq_getD_getElem?] at this; exact this
          have fn := row_c (row_on RW.out hb') (i := 1) rfl
          clear hw hF
          simp only [Oper.wp, execOp]
          try simp only [e0e]
          go_simp
          exact hK _ x (by first | rfl | (simp only [Nat.add_zero]; done) | (congr 1; omega)) (Below.refl _ _) (fun h => by cases h)
        · simp only [wpOp, List.getElem?_toArray, List.getElem?_cons_succ, List.getElem?_cons_zero, Region.wanted, if_true]
          refine Or.inl ?_
          have e0 : av.tmps.getD 8 undef = .int .i64 (k : Int) := hF.2.2 8 (by decide)
          have e0e : av.eval (.tmp 8) = .int .i64 (k : Int) := e0
          have e0g : av.tmps[8]?.getD undef = .int .i64 (k : Int) := by have := e0; simp only [Array.getD_eq_getD_getElem?] at this; exact this
          clear hw hF
          simp only [Oper.wp, execOp]
          try simp only [e0e]
          go_simp
          exact hK _ x (by first | rfl | (simp only [Nat.add_zero]; done) | (congr 1; omega)) (Below.refl _ _) (fun h => by cases h)
        · simp only [wpOp, List.getElem?_toArray, List.getElem?_cons_succ, List.getElem?_cons_zero, Region.wanted, if_true]
          refine Or.inl ?_
          have e0 : av.tmps.getD 83 undef = .int .i64 (k : Int) := (hw 4 (by kernel_rfl))
          have e0e : av.eval (.tmp 83) = .int .i64 (k : Int) := e0
          have e0g : av.tmps[83]?.getD undef = .int .i64 (k : Int) := by have := e0; simp only [Array.getD_eq_getD_getElem?] at this; exact this
          clear hw hF
          simp only [Oper.wp, execOp]
          try simp only [e0e]
          go_simp
          exact hK _ x (by first | rfl | (simp only [Nat.add_zero]; done) | (congr 1; omega)) (Below.refl _ _) (fun h => by cases h)
        · simp only [wpOp, List.getElem?_toArray, List.getElem?_cons_succ, List.getElem?_cons_zero, Region.wanted, if_true]
          refine Or.inl ?_
          have e0 : av.tmps.getD 82 undef = .slice (some ⟨bq, oq, none⟩) ks.length c := (hw 3 (by kernel_rfl))
          have e0e : av.eval (.tmp 82) = .slice (some ⟨bq, oq, none⟩) ks.length c := e0
          have e0g : av.tmps[82]?.getD undef = .slice (some ⟨bq, oq, none⟩) ks.length c := by have := e0; simp only [Array.getD_eq_getD_getElem?] at this; exact this
          have e1 : av.tmps.getD 84 undef = .int .i64 (n1 : Int) := (hw 5 (by kernel_rfl))
          have e1e : av.eval (.tmp 84) = .int .i64 (n1 : Int) := e1
          have e1g : av.tmps[84]?.getD undef = .int .i64 (n1 : Int) := by have := e1; simp only [Array.getD_eq_getD_getElem?] at this; exact this
          clear hw hF
          simp only [Oper.wp, execOp]
          try simp only [e0e, e1e]
          go_simp
          exact hK _ x (by first | rfl | (simp only [Nat.add_zero]; done) | (congr 1; omega)) (Below.refl _ _) (fun h => by cases h)
      intro av x hF hb' hR _
      have e0 : av.tmps.getD 79 undef = .pointer (some ⟨w.heap.size + 2, 1, none⟩) := hR 0 (by decide)
      have e1 : av.tmps.getD 80 undef = .slice ABX2 Z2.length cBX2 := hR 1 (by decide)
      have e2 : av.tmps.getD 81 undef = .pointer (some ⟨w.heap.size, 1, none⟩) := hR 2 (by decide)
      have e3 : av.tmps.getD 82 undef = .slice (some ⟨bq, oq, none⟩) ks.length c := hR 3 (by decide)
      have e4 : av.tmps.getD 83 undef = .int .i64 (k : Int) := hR 4 (by decide)
      have e5 : av.tmps.getD 84 undef = .int .i64 (n1 : Int) := hR 5 (by decide)
      have e6 : av.tmps.getD 85 undef = .slice Kb (ks.length - n1) cb := hR 6 (by decide)
      rw [hF.fold (by kernel_rfl)]
      simp only [List.foldl_cons, List.foldl_nil, e0, e1, e2, e3, e4, e5, e6]
      simp only [Act.put, List.setIfInBounds_toArray, List.set_cons_zero, List.set_cons_succ]
      change wpOps _ _ _ [7, 8, 9] _ _
      simp only [wpOps_cons]
      clear e0 e1 e2 e3 e4 e5 e6 hR hF
      have BY := Lib.hid (BX.out.below hb')
      have RW := Lib.hid (row_on RW.out hb')
      have RR := Lib.hid (row_on RR.out hb')
      clear hb'
      simp only [wpOp, List.getElem?_toArray, List.getElem?_cons_succ, List.getElem?_cons_zero, Region.wanted, if_true]
      refine Or.inl ?_
      refine wp_append2 sv_one et_s (.tmp 80) (.tmp 85) rfl (w.heap.size + 3) (.slice ABX2 Z2.length cBX2) Z2 y3 Z3 Kb cb (ks.length - n1) rfl BY.out.o1 (RKB.out _ BY.out.kb) L3.out rfl EK.out.2.2 BN.out.2.2.1 BY.out.bz ?_
      intro A9 c9 x9 ho9 hg9 hn9
      obtain ⟨ABX5, hA2⟩ : ∃ z, A9 = z := ⟨_, rfl⟩
      obtain ⟨cBX5, hc2⟩ : ∃ z, c9 = z := ⟨_, rfl⟩
      rw [hA2, hc2] at ho9 hn9 ⊢
      have BN := Lib.hid (BY.out.push1 ho9 hg9 hn9)
      have N9 := Lib.hid (BY.out.row1 hg9 BY.out.lt.2 BY.out.row)
      obtain ⟨VBX5, hU⟩ : ∃ U : World, U = x9.setCell ⟨w.heap.size + 2, 1, none⟩ (.slice ABX5 Z3.length cBX5) := ⟨_, rfl⟩
      rw [← hU] at BN
      have RWz := Lib.hid (show VBX5.heap[w.heap.size]? = some _ by rw [hU]; exact row_far (BY.out.row1 hg9 (by omega) RW.out) (by omega) _)
      have RRz := Lib.hid (show VBX5.heap[w.heap.size + 1]? = some _ by rw [hU]; exact row_far (BY.out.row1 hg9 (by omega) RR.out) (by omega) _)
      have f9 := row_c N9.out (i := 1) rfl
      have q9 := frozen_of_row _ _ 1 _ _ N9.out
      clear ho9 hg9 hn9 hA2 hc2 BY N9 BX RW RR
      have BX := BN
      clear BN
      have RW := RWz
      clear RWz
      have RR := RRz
      clear RRz
      go_simp
      try rw [wpOps_cons]
      simp only [wpOp, List.getElem?_toArray, List.getElem?_cons_succ, List.getElem?_cons_zero, Region.wanted, if_true]
      refine Or.inl ?_
      simp only [Oper.wp, execOp]
      go_simp
      try rw [wpOps_cons]
      simp only [wpOp, List.getElem?_toArray, List.getElem?_cons_succ, List.getElem?_cons_zero, Region.wanted, if_true]
      refine Or.inl ?_
      simp only [Oper.wp, execOp]
      go_simp
      try simp only [wpOps]
      rw [← hU]
      clear hU f9 q9
      go_upto_region 15 with (fail)
      refine wp_operands (W := VBX5) rfl 7 [88, 89, 90, 91, 92, 93, 94] (fun i u x => match i with | 0 => u = .pointer (some ⟨w.heap.size + 2, 2, none⟩) | 1 => u = .slice ABX4 X2.length cBX4 | 2 => u = .pointer (some ⟨w.heap.size, 2, none⟩) | 3 => u = .slice B ds.length d | 4 => u = .int .i64 (n1 : Int) | 5 => u = .int .i64 (n2 : Int) | 6 => u = .slice Db (ds.length - n2) db | _ => True) (fun _ => false)
        (by decide) rfl (by kernel_rfl) (by kernel_rfl) (by decide) (by kernel_rfl) ?_ (fun _ _ _ h => by cases h) ?_ ?_
      · intro i u x x' hi hR hb'
        have hi' : i = 0 ∨ i = 1 ∨ i = 2 ∨ i = 3 ∨ i = 4 ∨ i = 5 ∨ i = 6 := by omega
        rcases hi' with rfl | rfl | rfl | rfl | rfl | rfl | rfl
        · exact hR
        · exact hR
        · exact hR
        · exact hR
        · exact hR
        · exact hR
        · exact hR
      · intro i av x K hi hF hb' hw hK
        have hi' : i = 0 ∨ i = 1 ∨ i = 2 ∨ i = 3 ∨ i = 4 ∨ i = 5 ∨ i = 6 := by omega
        rcases hi' with rfl | rfl | rfl | rfl | rfl | rfl | rfl
        · simp only [wpOp, List.getElem?_toArray, List.getElem?_cons_zero, Region.wanted, if_true]
          refine Or.inl ?_
          have e0 : av.tmps.getD 7 undef = .pointer (some ⟨w.heap.size + 2, 0, none⟩) := hF.2.2 7 (by decide)
          have e0e : av.eval (.tmp 7) = .pointer (some ⟨w.heap.size + 2, 0, none⟩) := e0
          have e0g : av.tmps[7]?.getD undef = .pointer (some ⟨w.heap.size + 2, 0, none⟩) := by have := e0; simp only [Array.getD_eq_getD_getElem?] at this; exact this
          clear hw hF
          simp only [Oper.wp, execOp]
          try simp only [e0e]
          go_simp
          exact hK _ x (by first | rfl | (simp only [Nat.add_zero]; done) | (congr 1; omega)) (Below.refl _ _) (fun h => by cases h)
        · simp only [wpOp, List.getElem?_toArray, List.getElem?_cons_succ, List.getElem?_cons_zero, Region.wanted, if_true]
          refine Or.inl ?_
          have e0 : av.tmps.getD 88 undef = .pointer (some ⟨w.heap.size + 2, 2, none⟩) := (hw 0 (by kernel_rfl))
          have e0e : av.eval (.tmp 88) = .pointer (some ⟨w.heap.size + 2, 2, none⟩) := e0
          have e0g : av.tmps[88]?.getD undef = .pointer (some ⟨w.heap.size + 2, 2, none⟩) := by have := e0; simp only [Array.getD_eq_getD_getElem?] at this; exact this
          obtain ⟨fo0, fo1, fo2⟩ := BX.out.f hb'
          clear hw hF
          simp only [Oper.wp, execOp]
          try simp only [e0e]
          go_simp
          exact hK _ x (by first | rfl | (simp only [Nat.add_zero]; done) | (congr 1; omega)) (Below.refl _ _) (fun h => by cases h)
        · simp only [wpOp, List.getElem?_toArray, List.getElem?_cons_succ, List.getElem?_cons_zero, Region.wanted, if_true]
          refine Or.inl ?_
          have e0 : av.tmps.getD 3 undef = .pointer (some ⟨w.heap.size, 0, none⟩) := hF.2.2 3 (by decide)
          have e0e : av.eval (.tmp 3) = .pointer (some ⟨w.heap.size, 0, none⟩) := e0
          have e0g : av.tmps[3]?.getD undef = .pointer (some ⟨w.heap.size, 0, none⟩) := by have := e0; simp only [Array.getD_eq_getD_getElem?] at this; exact this
          clear hw hF
          simp only [Oper.wp, execOp]
          try simp only [e0e]
          go_simp
          exact hK _ x (by first | rfl | (simp only [Nat.add_zero]; done) | (congr 1; omega)) (Below.refl _ _) (fun h => by cases h)
        · simp only [wpOp, List.getElem?_toArray, List.getElem?_cons_succ, List.getElem?_cons_zero, Region.wanted, if_true]
          refine Or.inl ?_
          have e0 : av.tmps.getD 90 undef = .pointer (some ⟨w.heap.size, 2, none⟩) := (hw 2 (by kernel_rfl))
          have e0e : av.eval (.tmp 90) = .pointer (some ⟨w.heap.size, 2, none⟩) := e0
          have e0g : av.tmps[90]?.getD undef = .pointer (some ⟨w.heap.size, 2, none⟩) := by have := e0; simp only [Array.getD_eq_getD_getElem?] at this; exact this
          have fn := row_c (row_on RW.out hb') (i := 2) rfl
          clear hw hF
          simp only [Oper.wp, execOp]
          try simp only [e0e]
          go_simp
          exact hK _ x (by first | rfl | (simp only [Nat.add_zero]; done) | (congr 1; omega)) (Below.refl _ _) (fun h => by cases h)
        · simp only [wpOp, List.getElem?_toArray, List.getElem?_cons_succ, List.getElem?_cons_zero, Region.wanted, if_true]
          refine Or.inl ?_
          have e0 : av.tmps.getD 10 undef = .int .i64 (n1 : Int) := hF.2.2 10 (by decide)
          have e0e : av.eval (.tmp 10) = .int .i64 (n1 : Int) := e0
          have e0g : av.tmps[10]?.getD undef = .int .i64 (n1 : Int) := by have := e0; simp only [Array.getD_eq_getD_getElem?] at this; exact this
          clear hw hF
          simp only [Oper.wp, execOp]
          try simp only [e0e]
          go_simp
          exact hK _ x (by first | rfl | (simp only [Nat.add_zero]; done) | (congr 1; omega)) (Below.refl _ _) (fun h => by cases h)
        · simp only [wpOp, List.getElem?_toArray, List.getElem?_cons_succ, List.getElem?_cons_zero, Region.wanted, if_true]
          refine Or.inl ?_
          have e0 : av.tmps.getD 92 undef = .int .i64 (n1 : Int) := (hw 4 (by kernel_rfl))
          have e0e : av.eval (.tmp 92) = .int .i64 (n1 : Int) := e0
          have e0g : av.tmps[92]?.getD undef = .int .i64 (n1 : Int) := by have := e0; simp only [Array.getD_eq_getD_getElem?] at this; exact this
          clear hw hF
          simp only [Oper.wp, execOp]
          try simp only [e0e]
          go_simp
          exact hK _ x (by first | rfl | (simp only [Nat.add_zero]; done) | (congr 1; omega)) (Below.refl _ _) (fun h => by cases h)
        · simp only [wpOp, List.getElem?_toArray, List.getElem?_cons_succ, List.getElem?_cons_zero, Region.wanted, if_true]
          refine Or.inl ?_
          have e0 : av.tmps.getD 91 undef = .slice B ds.length d := (hw 3 (by kernel_rfl))
          have e0e : av.eval (.tmp 91) = .slice B ds.length d := e0
          have e0g : av.tmps[91]?.getD undef = .slice B ds.length d := by have := e0; simp only [Array.getD_eq_getD_getElem?] at this; exact this
          have e1 : av.tmps.getD 93 undef = .int .i64 (n2 : Int) := (hw 5 (by kernel_rfl))
          have e1e : av.eval (.tmp 93) = .int .i64 (n2 : Int) := e1
          have e1g : av.tmps[93]?.getD undef = .int .i64 (n2 : Int) := by have := e1; simp only [Array.getD_eq_getD_getElem?] at this; exact this
          clear hw hF
          simp only [Oper.wp, execOp]
          try simp only [e0e, e1e]
          go_simp
          exact hK _ x (by first | rfl | (simp only [Nat.add_zero]; done) | (congr 1; omega)) (Below.refl _ _) (fun h => by cases h)
      intro av x hF hb' hR _
      have e0 : av.tmps.getD 88 undef = .pointer (some ⟨w.heap.size + 2, 2, none⟩) := hR 0 (by decide)
      have e1 : av.tmps.getD 89 undef = .slice ABX4 X2.length cBX4 := hR 1 (by decide)
      have e2 : av.tmps.getD 90 undef = .pointer (some ⟨w.heap.size, 2, none⟩) := hR 2 (by decide)
      have e3 : av.tmps.getD 91 undef = .slice B ds.length d := hR 3 (by decide)
      have e4 : av.tmps.getD 92 undef = .int .i64 (n1 : Int) := hR 4 (by decide)
      have e5 : av.tmps.getD 93 undef = .int .i64 (n2 : Int) := hR 5 (by decide)
      have e6 : av.tmps.getD 94 undef = .slice Db (ds.length - n2) db := hR 6 (by decide)
      rw [hF.fold (by kernel_rfl)]
      simp only [List.foldl_cons, List.foldl_nil, e0, e1, e2, e3, e4, e5, e6]
      simp only [Act.put, List.setIfInBounds_toArray, List.set_cons_zero, List.set_cons_succ]
      change wpOps _ _ _ [7, 8, 9] _ _
      simp only [wpOps_cons]
      clear e0 e1 e2 e3 e4 e5 e6 hR hF
      have BY := Lib.hid (BX.out.below hb')
      have RW := Lib.hid (row_on RW.out hb')
      have RR := Lib.hid (row_on RR.out hb')
      clear hb'
      simp only [wpOp, List.getElem?_toArray, List.getElem?_cons_succ, List.getElem?_cons_zero, Region.wanted, if_true]
      refine Or.inl ?_
      refine wp_append2 nv_one et_i (.tmp 89) (.tmp 94) rfl (w.heap.size + 3) (.slice ABX4 X2.length cBX4) X2 u3 X3 Db db (ds.length - n2) rfl BY.out.o2 (RDB.out _ BY.out.kb) L4.out rfl EQ.out.2.2 BN.out.2.2.2.2.2 BY.out.bz ?_
      intro A9 c9 x9 ho9 hg9 hn9
      obtain ⟨ABX6, hA2⟩ : ∃ z, A9 = z := ⟨_, rfl⟩
      obtain ⟨cBX6, hc2⟩ : ∃ z, c9 = z := ⟨_, rfl⟩
      rw [hA2, hc2] at ho9 hn9 ⊢
      have BN := Lib.hid (BY.out.push2 ho9 hg9 hn9)
      have N9 := Lib.hid (BY.out.row2 hg9 BY.out.lt.2 BY.out.row)
      obtain ⟨VBX6, hU⟩ : ∃ U : World, U = x9.setCell ⟨w.heap.size + 2, 2, none⟩ (.slice ABX6 X3.length cBX6) := ⟨_, rfl⟩
      rw [← hU] at BN
      have RWz := Lib.hid (show VBX6.heap[w.heap.size]? = some _ by rw [hU]; exact row_far (BY.out.row2 hg9 (by omega) RW.out) (by omega) _)
      have RRz := Lib.hid (show VBX6.heap[w.heap.size + 1]? = some _ by rw [hU]; exact row_far (BY.out.row2 hg9 (by omega) RR.out) (by omega) _)
      have f9 := row_c N9.out (i := 2) rfl
      have q9 := frozen_of_row _ _ 2 _ _ N9.out
      clear ho9 hg9 hn9 hA2 hc2 BY N9 BX RW RR
      have BX := BN
      clear BN
      have RW := RWz
      clear RWz
      have RR := RRz
      clear RRz
      go_simp
      try rw [wpOps_cons]
      simp only [wpOp, List.getElem?_toArray, List.getElem?_cons_succ, List.getElem?_cons_zero, Region.wanted, if_true]
      refine Or.inl ?_
      simp only [Oper.wp, execOp]
      go_simp
      try rw [wpOps_cons]
      simp only [wpOp, List.getElem?_toArray, List.getElem?_cons_succ, List.getElem?_cons_zero, Region.wanted, if_true]
      refine Or.inl ?_
      simp only [Oper.wp, execOp]
      go_simp
      try simp only [wpOps]
      rw [← hU]
      clear hU f9 q9
      obtain ⟨fo0, fo1, fo2⟩ := BX.out.f (Below.refl _ _)
      have p0 := row_c RR.out (i := 0) rfl
      have p1 := row_c RR.out (i := 1) rfl
      have p2 := row_c RR.out (i := 2) rfl
      have y0 := frozen_of_row _ _ 0 _ _ RR.out
      have y1 := frozen_of_row _ _ 1 _ _ RR.out
      have y2 := frozen_of_row _ _ 2 _ _ RR.out
      go_wp2
      refine bodyPost_ret (v := .agg #[.bool false, .slice ABX5 Z3.length cBX5, .slice ABX6 X3.length cBX6]) (by simp [results, Try.results26, go_sem, p0, p1, p2]) rfl ⟨ABX5, cBX5, ABX6, cBX6, rfl, ?_, ?_, ?_⟩
      · exact ((BX.out.rl.1.set BX.out.rl.2.2.1 (by omega) _ _).set BX.out.rl.2.2.1 (by omega) _ _).set BX.out.rl.2.2.1 (by omega) _ _
      · exact ((BX.out.rl.2.1.set BX.out.rl.2.2.2 (by omega) _ _).set BX.out.rl.2.2.2 (by omega) _ _).set BX.out.rl.2.2.2 (by omega) _ _
      · exact ((BX.out.kb.setCell (by simp) _).setCell (by simp) _).setCell (by simp) _
set_option maxHeartbeats 4000000 in
set_option maxRecDepth 100000 in
theorem rput_tf (A : Option Addr) (c : Nat) (ks : List (List UInt8)) (B : Option Addr) (d : Nat) (ds : List Int) (key : List UInt8) (kid : Int) (w : World) (h : Rl sv w A c ks) (h2 : Rl nv w B d ds) (hl : ks.length ≤ 3999990) (hsd : ds.length = ks.length)
    (n0 n1 n2 : Nat) (hi : lbK key ks = n0) (ht : thereB key ks = false) (hj : n0 + 1 = n1) (hj1 : n1 + 1 = n2) (y1 y3 Z1 Z2 Z3 : List (List UInt8)) (u1 u3 X1 X2 X3 : List Int)
    (e1 : ks.take n0 = y1) (e3 : ks.drop n0 = y3) (E1 : [] ++ y1 = Z1) (E2 : Z1 ++ [key] = Z2) (E3 : Z2 ++ y3 = Z3) (q1 : ds.take n0 = u1) (q3 : ds.drop n0 = u3) (Q1 : [] ++ u1 = X1) (Q2 : X1 ++ [kid] = X2) (Q3 : X2 ++ u3 = X3) :
    Calls Try.prog 26 #[.agg #[.bool true, .slice A ks.length c, .slice B ds.length d], sv key, .int .i64 kid] w fun e w' => ∃ A' c' B' d', e = .returned (.agg #[.bool true, .slice A' Z3.length c', .slice B' X3.length d']) ∧ Rl sv w' A' c' Z3 ∧ Rl nv w' B' d' X3 ∧ Below w.heap.size w w' := by
  have hil : n0 ≤ ks.length := by rw [← hi]; exact lbK_le key ks
  have hit : false = true → n0 < ks.length := fun h => by
    have h3 : thereB key ks = true := ht.trans h
    rw [← hi]
    exact (List.getElem?_eq_some_iff.1 (there_spec.1 h3)).1
  obtain ⟨Ka, ca, hka, rka⟩ := cut_to et_s (g := sv) A c ks n0 (by omega) h.1
  obtain ⟨Da, da, hda, rda⟩ := cut_to et_i (g := nv) B d ds n0 (by omega) h2.1
  obtain ⟨Kb, cb, hkb, rkb⟩ := cut_from et_s (g := sv) A c ks n0 (by have := hit; simp at this; omega) h.1
  obtain ⟨Db, db, hdb, rdb⟩ := cut_from et_i (g := nv) B d ds n0 (by have := hit; simp at this; omega) h2.1
  rw [e1] at rka
  rw [q1] at rda
  rw [e3] at rkb
  rw [q3] at rdb
  have L1 := Lib.hid (show n0 = y1.length by rw [← e1, List.length_take]; omega)
  have L2 := Lib.hid (show n0 = u1.length by rw [← q1, List.length_take]; have := hit; simp at this; omega)
  have L3 := Lib.hid (show ks.length - n0 = y3.length by rw [← e3, List.length_drop])
  have L4 := Lib.hid (show ds.length - n0 = u3.length by rw [← q3, List.length_drop])
  have EK := Lib.hid (And.intro E1 (And.intro E2 E3))
  have EQ := Lib.hid (And.intro Q1 (And.intro Q2 Q3))
  have BN := Lib.hid (show Z1.length ≤ 4000000 ∧ Z2.length ≤ 4000000 ∧ Z3.length ≤ 4000000 ∧ X1.length ≤ 4000000 ∧ X2.length ≤ 4000000 ∧ X3.length ≤ 4000000 by
    have h1 := L1.out; have h2 := L2.out; have h3 := L3.out; have h4 := L4.out
    rw [← E3, ← E2, ← E1, ← Q3, ← Q2, ← Q1]
    simp only [List.length_append, List.length_nil, List.length_singleton]
    omega)
  have RKA := Lib.hid (fun V (hV : Below w.heap.size w V) => rka V (h.below hV))
  have RDA := Lib.hid (fun V (hV : Below w.heap.size w V) => rda V (h2.below hV))
  have RKB := Lib.hid (fun V (hV : Below w.heap.size w V) => rkb V (h.below hV))
  have RDB := Lib.hid (fun V (hV : Below w.heap.size w V) => rdb V (h2.below hV))
  have w1 : IntKind.i64.wrap ((n0 : Int) + 1) = (n1 : Int) := by rw [IntWalk.i64_in _ (by omega)]; omega
  have w2 : IntKind.i64.wrap ((n1 : Int) + 1) = (n2 : Int) := by rw [IntWalk.i64_in _ (by omega)]; omega
  have H := Lib.hid h
  have HI := Lib.hid hi
  have HT := Lib.hid ht
  clear h h2 hsd hi ht hj hj1 e1 e3 E1 E2 E3 q1 q3 Q1 Q2 Q3 rka rda rkb rdb hit hil
  obtain ⟨b1, hb1⟩ : ∃ x : Bool, x = true := ⟨_, rfl⟩
  clear b1 hb1
  unfold sv
  go_enter Try.func26, Try.ntmps26
  go_wp2_with fail
  obtain ⟨W, hW⟩ : ∃ W : World, W = ((w.alloc (.cells #[.bool true, .slice A ks.length c, .slice B ds.length d] 33)).alloc (.cells #[.bool false, .slice none 0 0, .slice none 0 0] 33)).alloc (.cells #[.bool true, .slice none 0 0, .slice none 0 0] 33) := ⟨_, rfl⟩
  have RW := Lib.hid (show W.heap[w.heap.size]? = some (.cells #[.bool true, .slice A ks.length c, .slice B ds.length d] 33 (0, 0)) by rw [hW]; exact row_on (row_on (heap_alloc_new w _) (bda _ _)) (bda _ _))
  have RR := Lib.hid (show W.heap[w.heap.size + 1]? = some (.cells #[.bool false, .slice none 0 0, .slice none 0 0] 33 (0, 0)) by rw [hW]; have := row_on (heap_alloc_new (w.alloc (.cells #[.bool true, .slice A ks.length c, .slice B ds.length d] 33)) (.cells #[.bool false, .slice none 0 0, .slice none 0 0] 33)) (bda _ (.cells #[.bool true, .slice none 0 0, .slice none 0 0] 33)); simpa using this)
  have RO := Lib.hid (show W.heap[w.heap.size + 2]? = some (.cells #[.bool true, .slice none 0 0, .slice none 0 0] 33 (0, 0)) by rw [hW]; have := heap_alloc_new ((w.alloc (.cells #[.bool true, .slice A ks.length c, .slice B ds.length d] 33)).alloc (.cells #[.bool false, .slice none 0 0, .slice none 0 0] 33)) (.cells #[.bool true, .slice none 0 0, .slice none 0 0] 33); simpa using this)
  have B1 := Lib.hid (show Below w.heap.size w W by rw [hW]; exact bon (bon (bda _ _) (bda _ _)) (bda _ _))
  rw [← hW]
  clear hW
  go_loopw [8] (fun i wr => ∃ k : Nat, k ≤ n0 ∧ i = .int .i64 k ∧ Hid (Below W.heap.size W wr)) (fun i _ => ks.length - (intOf i).toNat)
  case atStart => exact ⟨0, Nat.zero_le _, rfl, Lib.hid (Below.refl _ _)⟩
  case round =>
    obtain ⟨k, hk, rfl, hb⟩ := hrel
    have KW := Lib.hid (show Below w.heap.size w wr from B1.out.trans (hb.out.mono B1.out.size))
    have f0 := row_c (row_on RW.out hb.out) (i := 0) rfl
    have f1 := row_c (row_on RW.out hb.out) (i := 1) rfl
    have hkl : k ≤ ks.length := Nat.le_trans hk (by rw [← HI.out]; exact lbK_le key ks)
    by_cases hlt : k < n0
    · have k2 := Nat.lt_of_lt_of_le hlt (by rw [← HI.out]; exact lbK_le key ks)
      obtain ⟨x, hx⟩ := get_lt k2
      obtain ⟨b, off, hA, hbl, g2⟩ := (H.out.below KW.out).cell hx
      have LS := less_dec x key
      rw [decide_eq_true (lbK_below hx (by rw [HI.out]; exact hlt))] at LS
      have HLT := Lib.hid hlt
      unfold sv at g2
      have k0 : (0 : Int) ≤ (k : Int) := by omega
      have k1 : (k : Int) < (ks.length : Int) := by omega
      subst hA
      clear hx hlt hk
      go_wp2
      go_roundw
      case rel => exact ⟨k + 1, HLT.out, by go_num, hb⟩
      case measure => simp [intOf]; omega
    · obtain rfl : k = n0 := by omega
      clear hlt hk hl
      by_cases hn : k < ks.length
      · obtain ⟨x, hx⟩ := get_lt hn
        obtain ⟨bq, oq, hA, hbl, g2⟩ := (H.out.below KW.out).cell hx
        have LS := less_dec x key
        rw [decide_eq_false (lbK_stop (key := key) (by rw [HI.out]; exact hx))] at LS
        have k0 : (0 : Int) ≤ (k : Int) := by omega
        have k1 : (k : Int) < (ks.length : Int) := by omega
        have e1 : (x == key) = false := by
          have h := HT.out
          unfold thereB at h
          rw [HI.out, hx] at h
          simpa using h
        unfold sv at g2
        subst hA
        clear hx hn
        have BX := Lib.hid (Bx.fresh (base := w.heap.size + 3) (row_on RO.out hb.out) KW.out (heap_lt (row_on RO.out hb.out)) ⟨by omega, by omega⟩)
        have RWx := Lib.hid (row_on RW.out hb.out)
        have RRx := Lib.hid (row_on RR.out hb.out)
        clear RW RR RO hb KW B1
        have RW := RWx
        have RR := RRx
        clear RWx RRx
        obtain ⟨Vs, hVs⟩ : ∃ z, wr = z := ⟨_, rfl⟩
        rw [hVs] at BX RW RR f0 f1 g2 hbl ⊢
        clear hVs
        go_upto_region 9 with (fail)
        clear f0 f1 g2 LS k0 k1 e1 hbl
        refine wp_operands (W := Vs) rfl 6 [50, 51, 52, 53, 54, 55] (fun i u x => match i with | 0 => u = .pointer (some ⟨w.heap.size + 2, 1, none⟩) | 1 => u = .slice none 0 0 | 2 => u = .pointer (some ⟨w.heap.size, 1, none⟩) | 3 => u = .slice (some ⟨bq, oq, none⟩) ks.length c | 4 => u = .int .i64 (k : Int) | 5 => u = .slice Ka (k) ca | _ => True) (fun _ => false)
          (by decide) rfl (by kernel_rfl) (by kernel_rfl) (by decide) (by kernel_rfl) ?_ (fun _ _ _ h => by cases h) ?_ ?_
        · intro i u x x' hi hR hb'
          have hi' : i = 0 ∨ i = 1 ∨ i = 2 ∨ i = 3 ∨ i = 4 ∨ i = 5 := by omega
          rcases hi' with rfl | rfl | rfl | rfl | rfl | rfl
          · exact hR
          · exact hR
          · exact hR
          · exact hR
          · exact hR
          · exact hR
        · intro i av x K hi hF hb' hw hK
          have hi' : i = 0 ∨ i = 1 ∨ i = 2 ∨ i = 3 ∨ i = 4 ∨ i = 5 := by omega
          rcases hi' with rfl | rfl | rfl | rfl | rfl | rfl
          · simp only [wpOp, List.getElem?_toArray, List.getElem?_cons_zero, Region.wanted, if_true]
            refine Or.inl ?_
            have e0 : av.tmps.getD 7 undef = .pointer (some ⟨w.heap.size + 2, 0, none⟩) := hF.2.2 7 (by decide)
            have e0e : av.eval (.tmp 7) = .pointer (some ⟨w.heap.size + 2, 0, none⟩) := e0
            have e0g : av.tmps[7]?.getD undef = .pointer (some ⟨w.heap.size + 2, 0, none⟩) := by have := e0; simp only [Array.getD_eq_getD_getElem?] at this; exact this
            clear hw hF
            simp only [Oper.wp, execOp]
            try simp only [e0e]
            go_simp
            exact hK _ x (by first | rfl | (simp only [Nat.add_zero]; done) | (congr 1; omega)) (Below.refl _ _) (fun h => by cases h)
          · simp only [wpOp, List.getElem?_toArray, List.getElem?_cons_succ, List.getElem?_cons_zero, Region.wanted, if_true]
            refine Or.inl ?_
            have e0 : av.tmps.getD 50 undef = .pointer (some ⟨w.heap.size + 2, 1, none⟩) := (hw 0 (by kernel_rfl))
            have e0e : av.eval (.tmp 50) = .pointer (some ⟨w.heap.size + 2, 1, none⟩) := e0
            have e0g : av.tmps[50]?.getD undef = .pointer (some ⟨w.heap.size + 2, 1, none⟩) := by have := e0; simp only [Array.getD_eq_getD_getElem?] at this; exact this
            obtain ⟨fo0, fo1, fo2⟩ := BX.out.f hb'
            clear hw hF
            simp only [Oper.wp, execOp]
            try simp only [e0e]
            go_simp
            exact hK _ x (by first | rfl | (simp only [Nat.add_zero]; done) | (congr 1; omega)) (Below.refl _ _) (fun h => by cases h)
          · simp only [wpOp, List.getElem?_toArray, List.getElem?_cons_succ, List.getElem?_cons_zero, Region.wanted, if_true]
            refine Or.inl ?_
            have e0 : av.tmps.getD 3 undef = .pointer (some ⟨w.heap.size, 0, none⟩) := hF.2.2 3 (by decide)
            have e0e : av.eval (.tmp 3) = .pointer (some ⟨w.heap.size, 0, none⟩) := e0
            have e0g : av.tmps[3]?.getD undef = .pointer (some ⟨w.heap.size, 0, none⟩) := by have := e0; simp only [Array.getD_eq_getD_getElem?] at this; exact this
            clear hw hF
            simp only [Oper.wp, execOp]
            try simp only [e0e]
            go_simp
            exact hK _ x (by first | rfl | (simp only [Nat.add_zero]; done) | (congr 1; omega)) (Below.refl _ _) (fun h => by cases h)
          · simp only [wpOp, List.getElem?_toArray, List.getElem?_cons_succ, List.getElem?_cons_zero, Region.wanted, if_true]
            refine Or.inl ?_
            have e0 : av.tmps.getD 52 undef = .pointer (some ⟨w.heap.size, 1, none⟩) := (hw 2 (by kernel_rfl))
            have e0e : av.eval (.tmp 52) = .pointer (some ⟨w.heap.size, 1, none⟩) := e0
            have e0g : av.tmps[52]?.getD undef = .pointer (some ⟨w.heap.size, 1, none⟩) := by have := e0; simp only [Array.getD_eq_getD_getElem?] at this; exact this
            have fn := row_c (row_on RW.out hb') (i := 1) rfl
            clear hw hF
            simp only [Oper.wp, execOp]
            try simp only [e0e]
            go_simp
            exact hK _ x (by first | rfl | (simp only [Nat.add_zero]; done) | (congr 1; omega)) (Below.refl _ _) (fun h => by cases h)
          · simp only [wpOp, List.getElem?_toArray, List.getElem?_cons_succ, List.getElem?_cons_zero, Region.wanted, if_true]
            refine Or.inl ?_
            have e0 : av.tmps.getD 8 undef = .int .i64 (k : Int) := hF.2.2 8 (by decide)
            have e0e : av.eval (.tmp 8) = .int .i64 (k : Int) := e0
            have e0g : av.tmps[8]?.getD undef = .int .i64 (k : Int) := by have := e0; simp only [Array.getD_eq_getD_getElem?] at this; exact this
            clear hw hF
            simp only [Oper.wp, execOp]
            try simp only [e0e]
            go_simp
            exact hK _ x (by first | rfl | (simp only [Nat.add_zero]; done) | (congr 1; omega)) (Below.refl _ _) (fun h => by cases h)
          · simp only [wpOp, List.getElem?_toArray, List.getElem?_cons_succ, List.getElem?_cons_zero, Region.wanted, if_true]
            refine Or.inl ?_
            have e0 : av.tmps.getD 53 undef = .slice (some ⟨bq, oq, none⟩) ks.length c := (hw 3 (by kernel_rfl))
            have e0e : av.eval (.tmp 53) = .slice (some ⟨bq, oq, none⟩) ks.length c := e0
            have e0g : av.tmps[53]?.getD undef = .slice (some ⟨bq, oq, none⟩) ks.length c := by have := e0; simp only [Array.getD_eq_getD_getElem?] at this; exact this
            have e1 : av.tmps.getD 54 undef = .int .i64 (k : Int) := (hw 4 (by kernel_rfl))
            have e1e : av.eval (.tmp 54) = .int .i64 (k : Int) := e1
            have e1g : av.tmps[54]?.getD undef = .int .i64 (k : Int) := by have := e1; simp only [Array.getD_eq_getD_getElem?] at this; exact this
            clear hw hF
            simp only [Oper.wp, execOp]
            try simp only [e0e, e1e]
            go_simp
            exact hK _ x (by first | rfl | (simp only [Nat.add_zero]; done) | (congr 1; omega)) (Below.refl _ _) (fun h => by cases h)
        intro av x hF hb' hR _
        have e0 : av.tmps.getD 50 undef = .pointer (some ⟨w.heap.size + 2, 1, none⟩) := hR 0 (by decide)
        have e1 : av.tmps.getD 51 undef = .slice none 0 0 := hR 1 (by decide)
        have e2 : av.tmps.getD 52 undef = .pointer (some ⟨w.heap.size, 1, none⟩) := hR 2 (by decide)
        have e3 : av.tmps.getD 53 undef = .slice (some ⟨bq, oq, none⟩) ks.length c := hR 3 (by decide)
        have e4 : av.tmps.getD 54 undef = .int .i64 (k : Int) := hR 4 (by decide)
        have e5 : av.tmps.getD 55 undef = .slice Ka (k) ca := hR 5 (by decide)
        rw [hF.fold (by kernel_rfl)]
        simp only [List.foldl_cons, List.foldl_nil, e0, e1, e2, e3, e4, e5]
        simp only [Act.put, List.setIfInBounds_toArray, List.set_cons_zero, List.set_cons_succ]
        change wpOps _ _ _ [6, 7, 8] _ _
        simp only [wpOps_cons]
        clear e0 e1 e2 e3 e4 e5 hR hF
        have BY := Lib.hid (BX.out.below hb')
        have RW := Lib.hid (row_on RW.out hb')
        have RR := Lib.hid (row_on RR.out hb')
        clear hb'
        simp only [wpOp, List.getElem?_toArray, List.getElem?_cons_succ, List.getElem?_cons_zero, Region.wanted, if_true]
        refine Or.inl ?_
        refine wp_append2 sv_one et_s (.tmp 51) (.tmp 55) rfl (w.heap.size + 3) (.slice none 0 0) ([] : List (List UInt8)) y1 Z1 Ka ca (k) rfl BY.out.o1 (RKA.out _ BY.out.kb) L1.out rfl EK.out.1 BN.out.1 BY.out.bz ?_
        intro A9 c9 x9 ho9 hg9 hn9
        obtain ⟨ABX1, hA2⟩ : ∃ z, A9 = z := ⟨_, rfl⟩
        obtain ⟨cBX1, hc2⟩ : ∃ z, c9 = z := ⟨_, rfl⟩
        rw [hA2, hc2] at ho9 hn9 ⊢
        have BN := Lib.hid (BY.out.push1 ho9 hg9 hn9)
        have N9 := Lib.hid (BY.out.row1 hg9 BY.out.lt.2 BY.out.row)
        obtain ⟨VBX1, hU⟩ : ∃ U : World, U = x9.setCell ⟨w.heap.size + 2, 1, none⟩ (.slice ABX1 Z1.length cBX1) := ⟨_, rfl⟩
        rw [← hU] at BN
        have RWz := Lib.hid (show VBX1.heap[w.heap.size]? = some _ by rw [hU]; exact row_far (BY.out.row1 hg9 (by omega) RW.out) (by omega) _)
        have RRz := Lib.hid (show VBX1.heap[w.heap.size + 1]? = some _ by rw [hU]; exact row_far (BY.out.row1 hg9 (by omega) RR.out) (by omega) _)
        have f9 := row_c N9.out (i := 1) rfl
        have q9 := frozen_of_row _ _ 1 _ _ N9.out
        clear ho9 hg9 hn9 hA2 hc2 BY N9 BX RW RR
        have BX := BN
        clear BN
        have RW := RWz
        clear RWz
        have RR := RRz
        clear RRz
        go_simp
        try rw [wpOps_cons]
        simp only [wpOp, List.getElem?_toArray, List.getElem?_cons_succ, List.getElem?_cons_zero, Region.wanted, if_true]
        refine Or.inl ?_
        simp only [Oper.wp, execOp]
        go_simp
        try rw [wpOps_cons]
        simp only [wpOp, List.getElem?_toArray, List.getElem?_cons_succ, List.getElem?_cons_zero, Region.wanted, if_true]
        refine Or.inl ?_
        simp only [Oper.wp, execOp]
        go_simp
        try simp only [wpOps]
        rw [← hU]
        clear hU f9 q9
        obtain ⟨Y, hY⟩ : ∃ Y : World, Y = VBX1.alloc (.cells #[.string ⟨key.toArray⟩] 9) := ⟨_, rfl⟩
        have HY := Lib.hid hY
        have BY := Lib.hid (show Bx w Y _ _ _ _ _ _ _ _ _ _ by rw [hY]; exact BX.out.below (bda _ _))
        have RK := Lib.hid (show Rl sv Y (some ⟨VBX1.heap.size, 0, none⟩) 1 [key] by rw [hY]; exact rl_of_row (g := sv) (xs := [key]) (heap_alloc_new _ _) 1 (Nat.le_refl _))
        have RW := Lib.hid (show Y.heap[_]? = some _ by rw [hY]; exact row_on RW.out (bda _ _))
        have RR := Lib.hid (show Y.heap[_]? = some _ by rw [hY]; exact row_on RR.out (bda _ _))
        obtain ⟨fo0, fo1, fo2⟩ := BX.out.f (Below.refl _ _)
        have SY := Lib.hid (show Y.heap.size = VBX1.heap.size + 1 by rw [hY]; simp)
        clear hY
        go_wp2_with (at_builtin; refine wpList_append2 sv_one et_s rfl _ _ rfl (w.heap.size + 3) (.slice ABX1 Z1.length cBX1) Z1 [key] Z2 (some ⟨VBX1.heap.size, 0, none⟩) 1 1 rfl (by rw [← HY.out]; exact BY.out.o1) (by rw [← HY.out]; exact RK.out) rfl rfl EK.out.2.1 BN.out.2.1 (by rw [← HY.out]; exact BY.out.bz) ?_)
        rw [← HY.out]
        clear HY fo0 fo1 fo2
        intro A9 c9 x9 ho9 hg9 hn9
        rw [← SY.out] at hn9
        clear SY
        obtain ⟨ABX2, hA2⟩ : ∃ z, A9 = z := ⟨_, rfl⟩
        obtain ⟨cBX2, hc2⟩ : ∃ z, c9 = z := ⟨_, rfl⟩
        rw [hA2, hc2] at ho9 hn9 ⊢
        have BN := Lib.hid (BY.out.push1 ho9 hg9 hn9)
        have N9 := Lib.hid (BY.out.row1 hg9 BY.out.lt.2 BY.out.row)
        obtain ⟨VBX2, hU⟩ : ∃ U : World, U = x9.setCell ⟨w.heap.size + 2, 1, none⟩ (.slice ABX2 Z2.length cBX2) := ⟨_, rfl⟩
        rw [← hU] at BN
        have RWz := Lib.hid (show VBX2.heap[w.heap.size]? = some _ by rw [hU]; exact row_far (BY.out.row1 hg9 (by omega) RW.out) (by omega) _)
        have RRz := Lib.hid (show VBX2.heap[w.heap.size + 1]? = some _ by rw [hU]; exact row_far (BY.out.row1 hg9 (by omega) RR.out) (by omega) _)
        have f9 := row_c N9.out (i := 1) rfl
        have q9 := frozen_of_row _ _ 1 _ _ N9.out
        clear ho9 hg9 hn9 hA2 hc2 BY N9 BX RW RR
        have BX := BN
        clear BN
        have RW := RWz
        clear RWz
        have RR := RRz
        clear RRz
        have HU := Lib.hid hU
        clear hU RK
        go_upto_region 11 with (fail)
        rw [← HU.out]
        clear HU f9 q9
        refine wp_operands (W := VBX2) rfl 6 [64, 65, 66, 67, 68, 69] (fun i u x => match i with | 0 => u = .pointer (some ⟨w.heap.size + 2, 2, none⟩) | 1 => u = .slice none 0 0 | 2 => u = .pointer (some ⟨w.heap.size, 2, none⟩) | 3 => u = .slice B ds.length d | 4 => u = .int .i64 (k : Int) | 5 => u = .slice Da (k) da | _ => True) (fun _ => false)
          (by decide) rfl (by kernel_rfl) (by kernel_rfl) (by decide) (by kernel_rfl) ?_ (fun _ _ _ h => by cases h) ?_ ?_
        · intro i u x x' hi hR hb'
          have hi' : i = 0 ∨ i = 1 ∨ i = 2 ∨ i = 3 ∨ i = 4 ∨ i = 5 := by omega
          rcases hi' with rfl | rfl | rfl | rfl | rfl | rfl
          · exact hR
          · exact hR
          · exact hR
          · exact hR
          · exact hR
          · exact hR
        · intro i av x K hi hF hb' hw hK
          have hi' : i = 0 ∨ i = 1 ∨ i = 2 ∨ i = 3 ∨ i = 4 ∨ i = 5 := by omega
          rcases hi' with rfl | rfl | rfl | rfl | rfl | rfl
          · simp only [wpOp, List.getElem?_toArray, List.getElem?_cons_zero, Region.wanted, if_true]
            refine Or.inl ?_
            have e0 : av.tmps.getD 7 undef = .pointer (some ⟨w.heap.size + 2, 0, none⟩) := hF.2.2 7 (by decide)
            have e0e : av.eval (.tmp 7) = .pointer (some ⟨w.heap.size + 2, 0, none⟩) := e0
            have e0g : av.tmps[7]?.getD undef = .pointer (some ⟨w.heap.size + 2, 0, none⟩) := by have := e0; simp only [Array.getD_eq_getD_getElem?] at this; exact this
            clear hw hF
            simp only [Oper.wp, execOp]
            try simp only [e0e]
            go_simp
            exact hK _ x (by first | rfl | (simp only [Nat.add_zero]; done) | (congr 1; omega)) (Below.refl _ _) (fun h => by cases h)
          · simp only [wpOp, List.getElem?_toArray, List.getElem?_cons_succ, List.getElem?_cons_zero, Region.wanted, if_true]
            refine Or.inl ?_
            have e0 : av.tmps.getD 64 undef = .pointer (some ⟨w.heap.size + 2, 2, none⟩) := (hw 0 (by kernel_rfl))
            have e0e : av.eval (.tmp 64) = .pointer (some ⟨w.heap.size + 2, 2, none⟩) := e0
            have e0g : av.tmps[64]?.getD undef = .pointer (some ⟨w.heap.size + 2, 2, none⟩) := by have := e0; simp only [Array.getD_eq_getD_getElem?] at this; exact this
            obtain ⟨fo0, fo1, fo2⟩ := BX.out.f hb'
            clear hw hF
            simp only [Oper.wp, execOp]
            try simp only [e0e]
            go_simp
            exact hK _ x (by first | rfl | (simp only [Nat.add_zero]; done) | (congr 1; omega)) (Below.refl _ _) (fun h => by cases h)
          · simp only [wpOp, List.getElem?_toArray, List.getElem?_cons_succ, List.getElem?_cons_zero, Region.wanted, if_true]
            refine Or.inl ?_
            have e0 : av.tmps.getD 3 undef = .pointer (some ⟨w.heap.size, 0, none⟩) := hF.2.2 3 (by decide)
            have e0e : av.eval (.tmp 3) = .pointer (some ⟨w.heap.size, 0, none⟩) := e0
            have e0g : av.tmps[3]?.getD undef = .pointer (some ⟨w.heap.size, 0, none⟩) := by have := e0; simp only [Array.getD_eq_getD_getElem?] at this; exact this
            clear hw hF
            simp only [Oper.wp, execOp]
            try simp only [e0e]
            go_simp
            exact hK _ x (by first | rfl | (simp only [Nat.add_zero]; done) | (congr 1; omega)) (Below.refl _ _) (fun h => by cases h)
          · simp only [wpOp, List.getElem?_toArray, List.getElem?_cons_succ, List.getElem?_cons_zero, Region.wanted, if_true]
            refine Or.inl ?_
            have e0 : av.tmps.getD 66 undef = .pointer (some ⟨w.heap.size, 2, none⟩) := (hw 2 (by kernel_rfl))
            have e0e : av.eval (.tmp 66) = .pointer (some ⟨w.heap.size, 2, none⟩) := e0
            have e0g : av.tmps[66]?.getD undef = .pointer (some ⟨w.heap.size, 2, none⟩) := by have := e0; simp only [Array.getD_eq_getD_getElem?] at this; exact this
            have fn := row_c (row_on RW.out hb') (i := 2) rfl
            clear hw hF
            simp only [Oper.wp, execOp]
            try simp only [e0e]
            go_simp
            exact hK _ x (by first | rfl | (simp only [Nat.add_zero]; done) | (congr 1; omega)) (Below.refl _ _) (fun h => by cases h)
          · simp only [wpOp, List.getElem?_toArray, List.getElem?_cons_succ, List.getElem?_cons_zero, Region.wanted, if_true]
            refine Or.inl ?_
            have e0 : av.tmps.getD 10 undef = .int .i64 (k : Int) := hF.2.2 10 (by decide)
            have e0e : av.eval (.tmp 10) = .int .i64 (k : Int) := e0
            have e0g : av.tmps[10]?.getD undef = .int .i64 (k : Int) := by have := e0; simp only [Array.getD_eq_getD_getElem?] at this; exact this
            clear hw hF
            simp only [Oper.wp, execOp]
            try simp only [e0e]
            go_simp
            exact hK _ x (by first | rfl | (simp only [Nat.add_zero]; done) | (congr 1; omega)) (Below.refl _ _) (fun h => by cases h)
          · simp only [wpOp, List.getElem?_toArray, List.getElem?_cons_succ, List.getElem?_cons_zero, Region.wanted, if_true]
            refine Or.inl ?_
            have e0 : av.tmps.getD 67 undef = .slice B ds.length d := (hw 3 (by kernel_rfl))
            have e0e : av.eval (.tmp 67) = .slice B ds.length d := e0
            have e0g : av.tmps[67]?.getD undef = .slice B ds.length d := by have := e0; simp only [Array.getD_eq_getD_getElem?] at this; exact this
            have e1 : av.tmps.getD 68 undef = .int .i64 (k : Int) := (hw 4 (by kernel_rfl))
            have e1e : av.eval (.tmp 68) = .int .i64 (k : Int) := e1
            have e1g : av.tmps[68]?.getD undef = .int .i64 (k : Int) := by have := e1; simp only [Array.getD_eq_getD_getElem?] at this; exact this
            clear hw hF
            simp only [Oper.wp, execOp]
            try simp only [e0e, e1e]
            go_simp
            exact hK _ x (by first | rfl | (simp only [Nat.add_zero]; done) | (congr 1; omega)) (Below.refl _ _) (fun h => by cases h)
        intro av x hF hb' hR _
        have e0 : av.tmps.getD 64 undef = .pointer (some ⟨w.heap.size + 2, 2, none⟩) := hR 0 (by decide)
        have e1 : av.tmps.getD 65 undef = .slice none 0 0 := hR 1 (by decide)
        have e2 : av.tmps.getD 66 undef = .pointer (some ⟨w.heap.size, 2, none⟩) := hR 2 (by decide)
        have e3 : av.tmps.getD 67 undef = .slice B ds.length d := hR 3 (by decide)
        have e4 : av.tmps.getD 68 undef = .int .i64 (k : Int) := hR 4 (by decide)
        have e5 : av.tmps.getD 69 undef = .slice Da (k) da := hR 5 (by decide)
        rw [hF.fold (by kernel_rfl)]
        simp only [List.foldl_cons, List.foldl_nil, e0, e1, e2, e3, e4, e5]
        simp only [Act.put, List.setIfInBounds_toArray, List.set_cons_zero, List.set_cons_succ]
        change wpOps _ _ _ [6, 7, 8] _ _
        simp only [wpOps_cons]
        clear e0 e1 e2 e3 e4 e5 hR hF
        have BY := Lib.hid (BX.out.below hb')
        have RW := Lib.hid (row_on RW.out hb')
        have RR := Lib.hid (row_on RR.out hb')
        clear hb'
        simp only [wpOp, List.getElem?_toArray, List.getElem?_cons_succ, List.getElem?_cons_zero, Region.wanted, if_true]
        refine Or.inl ?_
        refine wp_append2 nv_one et_i (.tmp 65) (.tmp 69) rfl (w.heap.size + 3) (.slice none 0 0) ([] : List Int) u1 X1 Da da (k) rfl BY.out.o2 (RDA.out _ BY.out.kb) L2.out rfl EQ.out.1 BN.out.2.2.2.1 BY.out.bz ?_
        intro A9 c9 x9 ho9 hg9 hn9
        obtain ⟨ABX3, hA2⟩ : ∃ z, A9 = z := ⟨_, rfl⟩
        obtain ⟨cBX3, hc2⟩ : ∃ z, c9 = z := ⟨_, rfl⟩
        rw [hA2, hc2] at ho9 hn9 ⊢
        have BN := Lib.hid (BY.out.push2 ho9 hg9 hn9)
        have N9 := Lib.hid (BY.out.row2 hg9 BY.out.lt.2 BY.out.row)
        obtain ⟨VBX3, hU⟩ : ∃ U : World, U = x9.setCell ⟨w.heap.size + 2, 2, none⟩ (.slice ABX3 X1.length cBX3) := ⟨_, rfl⟩
        rw [← hU] at BN
        have RWz := Lib.hid (show VBX3.heap[w.heap.size]? = some _ by rw [hU]; exact row_far (BY.out.row2 hg9 (by omega) RW.out) (by omega) _)
        have RRz := Lib.hid (show VBX3.heap[w.heap.size + 1]? = some _ by rw [hU]; exact row_far (BY.out.row2 hg9 (by omega) RR.out) (by omega) _)
        have f9 := row_c N9.out (i := 2) rfl
        have q9 := frozen_of_row _ _ 2 _ _ N9.out
        clear ho9 hg9 hn9 hA2 hc2 BY N9 BX RW RR
        have BX := BN
        clear BN
        have RW := RWz
        clear RWz
        have RR := RRz
        clear RRz
        go_simp
        try rw [wpOps_cons]
        simp only [wpOp, List.getElem?_toArray, List.getElem?_cons_succ, List.getElem?_cons_zero, Region.wanted, if_true]
        refine Or.inl ?_
        simp only [Oper.wp, execOp]
        go_simp
        try rw [wpOps_cons]
        simp only [wpOp, List.getElem?_toArray, List.getElem?_cons_succ, List.getElem?_cons_zero, Region.wanted, if_true]
        refine Or.inl ?_
        simp only [Oper.wp, execOp]
        go_simp
        try simp only [wpOps]
        rw [← hU]
        clear hU f9 q9
        obtain ⟨Y, hY⟩ : ∃ Y : World, Y = VBX3.alloc (.cells #[.int .i64 kid] 3) := ⟨_, rfl⟩
        have HY := Lib.hid hY
        have BY := Lib.hid (show Bx w Y _ _ _ _ _ _ _ _ _ _ by rw [hY]; exact BX.out.below (bda _ _))
        have RK := Lib.hid (show Rl nv Y (some ⟨VBX3.heap.size, 0, none⟩) 1 [kid] by rw [hY]; exact rl_of_row (g := nv) (xs := [kid]) (heap_alloc_new _ _) 1 (Nat.le_refl _))
        have RW := Lib.hid (show Y.heap[_]? = some _ by rw [hY]; exact row_on RW.out (bda _ _))
        have RR := Lib.hid (show Y.heap[_]? = some _ by rw [hY]; exact row_on RR.out (bda _ _))
        obtain ⟨fo0, fo1, fo2⟩ := BX.out.f (Below.refl _ _)
        have SY := Lib.hid (show Y.heap.size = VBX3.heap.size + 1 by rw [hY]; simp)
        clear hY
        go_wp2_with (at_builtin; refine wpList_append2 nv_one et_i rfl _ _ rfl (w.heap.size + 3) (.slice ABX3 X1.length cBX3) X1 [kid] X2 (some ⟨VBX3.heap.size, 0, none⟩) 1 1 rfl (by rw [← HY.out]; exact BY.out.o2) (by rw [← HY.out]; exact RK.out) rfl rfl EQ.out.2.1 BN.out.2.2.2.2.1 (by rw [← HY.out]; exact BY.out.bz) ?_)
        rw [← HY.out]
        clear HY fo0 fo1 fo2
        intro A9 c9 x9 ho9 hg9 hn9
        rw [← SY.out] at hn9
        clear SY
        obtain ⟨ABX4, hA2⟩ : ∃ z, A9 = z := ⟨_, rfl⟩
        obtain ⟨cBX4, hc2⟩ : ∃ z, c9 = z := ⟨_, rfl⟩
        rw [hA2, hc2] at ho9 hn9 ⊢
        have BN := Lib.hid (BY.out.push2 ho9 hg9 hn9)
        have N9 := Lib.hid (BY.out.row2 hg9 BY.out.lt.2 BY.out.row)
        obtain ⟨VBX4, hU⟩ : ∃ U : World, U = x9.setCell ⟨w.heap.size + 2, 2, none⟩ (.slice ABX4 X2.length cBX4) := ⟨_, rfl⟩
        rw [← hU] at BN
        have RWz := Lib.hid (show VBX4.heap[w.heap.size]? = some _ by rw [hU]; exact row_far (BY.out.row2 hg9 (by omega) RW.out) (by omega) _)
        have RRz := Lib.hid (show VBX4.heap[w.heap.size + 1]? = some _ by rw [hU]; exact row_far (BY.out.row2 hg9 (by omega) RR.out) (by omega) _)
        have f9 := row_c N9.out (i := 2) rfl
        have q9 := frozen_of_row _ _ 2 _ _ N9.out
        clear ho9 hg9 hn9 hA2 hc2 BY N9 BX RW RR
        have BX := BN
        clear BN
        have RW := RWz
        clear RWz
        have RR := RRz
        clear RRz
        have HU := Lib.hid hU
        clear hU RK
        go_upto_region 17 with (fail)
        rw [← HU.out]
        clear HU f9 q9
        refine wp_operands (W := VBX4) rfl 6 [98, 99, 100, 101, 102, 103] (fun i u x => match i with | 0 => u = .pointer (some ⟨w.heap.size + 2, 1, none⟩) | 1 => u = .slice ABX2 Z2.length cBX2 | 2 => u = .pointer (some ⟨w.heap.size, 1, none⟩) | 3 => u = .slice (some ⟨bq, oq, none⟩) ks.length c | 4 => u = .int .i64 (k : Int) | 5 => u = .slice Kb (ks.length - k) cb | _ => True) (fun _ => false)
          (by decide) rfl (by kernel_rfl) (by kernel_rfl) (by decide) (by kernel_rfl) ?_ (fun _ _ _ h => by cases h) ?_ ?_
        · intro i u x x' hi hR hb'
          have hi' : i = 0 ∨ i = 1 ∨ i = 2 ∨ i = 3 ∨ i = 4 ∨ i = 5 := by omega
          rcases hi' with rfl | rfl | rfl | rfl | rfl | rfl
          · exact hR
          · exact hR
          · exact hR
          · exact hR
          · exact hR
          · exact hR
        · intro i av x K hi hF hb' hw hK
          have hi' : i = 0 ∨ i = 1 ∨ i = 2 ∨ i = 3 ∨ i = 4 ∨ i = 5 := by omega
          rcases hi' with rfl | rfl | rfl | rfl | rfl | rfl
          · simp only [wpOp, List.getElem?_toArray, List.getElem?_cons_zero, Region.wanted, if_true]
            refine Or.inl ?_
            have e0 : av.tmps.getD 7 undef = .pointer (some ⟨w.heap.size + 2, 0, none⟩) := hF.2.2 7 (by decide)
            have e0e : av.eval (.tmp 7) = .pointer (some ⟨w.heap.size + 2, 0, none⟩) := e0
            have e0g : av.tmps[7]?.getD undef = .pointer (some ⟨w.heap.size + 2, 0, none⟩) := by have := e0; simp only [Array.getD_eq_getD_getElem?] at this; exact this
            clear hw hF
            simp only [Oper.wp, execOp]
            try simp only [e0e]
            go_simp
            exact hK _ x (by first | rfl | (simp only [Nat.add_zero]; done) | (congr 1; omega)) (Below.refl _ _) (fun h => by cases h)
          · simp only [wpOp, List.getElem?_toArray, List.getElem?_cons_succ, List.getElem?_cons_zero, Region.wanted, if_true]
            refine Or.inl ?_
            have e0 : av.tmps.getD 98 undef = .pointer (some ⟨w.heap.size + 2, 1, none⟩) := (hw 0 (by kernel_rfl))
            have e0e : av.eval (.tmp 98) = .pointer (some ⟨w.heap.size + 2, 1, none⟩) := e0
            have e0g : av.tmps[98]?.getD undef = .pointer (some ⟨w.heap.size + 2, 1, none⟩) := by have := e0; simp only [Array.getD_eq_getD_getElem?] at this; exact this
            obtain ⟨fo0, fo1, fo2⟩ := BX.out.f hb'
            clear hw hF
            simp only [Oper.wp, execOp]
            try simp only [e0e]
            go_simp
            exact hK _ x (by first | rfl | (simp only [Nat.add_zero]; done) | (congr 1; omega)) (Below.refl _ _) (fun h => by cases h)
          · simp only [wpOp, List.getElem?_toArray, List.getElem?_cons_succ, List.getElem?_cons_zero, Region.wanted, if_true]
            refine Or.inl ?_
            have e0 : av.tmps.getD 3 undef = .pointer (some ⟨w.heap.size, 0, none⟩) := hF.2.2 3 (by decide)
            have e0e : av.eval (.tmp 3) = .pointer (some ⟨w.heap.size, 0, none⟩) := e0
            have e0g : av.tmps[3]?.getD undef = .pointer (some ⟨w.heap.size, 0, none⟩) := by have := e0; simp only [Array.getD_eq_getD_getElem?] at this; exact this
            clear hw hF
            simp only [Oper.wp, execOp]
            try simp only [e0e]
            go_simp
            exact hK _ x (by first | rfl | (simp only [Nat.add_zero]; done) | (congr 1; omega)) (Below.refl _ _) (fun h => by cases h)
          · simp only [wpOp, List.getElem?_toArray, List.getElem?_cons_succ, List.getElem?_cons_zero, Region.wanted, if_true]
            refine Or.inl ?_
            have e0 : av.tmps.getD 100 undef = .pointer (some ⟨w.heap.size, 1, none⟩) := (hw 2 (by kernel_rfl))
            have e0e : av.eval (.tmp 100) = .pointer (some ⟨w.heap.size, 1, none⟩) := e0
            have e0g : av.tmps[100]?.getD undef = .pointer (some ⟨w.heap.size, 1, none⟩) := by have := e0; simp only [Array.getD_eq_getD_getElem?] at this; exact this
            have fn := row_c (row_on RW.out hb') (i := 1) rfl
            clear hw hF
            simp only [Oper.wp, execOp]
            try simp only [e0e]
            go_simp
            exact hK _ x (by first | rfl | (simp only [Nat.add_zero]; done) | (congr 1; omega)) (Below.refl _ _) (fun h => by cases h)
          · simp only [wpOp, List.getElem?_toArray, List.getElem?_cons_succ, List.getElem?_cons_zero, Region.wanted, if_true]
            refine Or.inl ?_
            have e0 : av.tmps.getD 8 undef = .int .i64 (k : Int) := hF.2.2 8 (by decide)
            have e0e : av.eval (.tmp 8) = .int .i64 (k : Int) := e0
            have e0g : av.tmps[8]?.getD undef = .int .i64 (k : Int) := by have := e0; simp only [Array.getD_eq_getD_getElem?] at this; exact this
            clear hw hF
            simp only [Oper.wp, execOp]
            try simp only [e0e]
            go_simp
            exact hK _ x (by first | rfl | (simp only [Nat.add_zero]; done) | (congr 1; omega)) (Below.refl _ _) (fun h => by cases h)
          · simp only [wpOp, List.getElem?_toArray, List.getElem?_cons_succ, List.getElem?_cons_zero, Region.wanted, if_true]
            refine Or.inl ?_
            have e0 : av.tmps.getD 101 undef = .slice (some ⟨bq, oq, none⟩) ks.length c := (hw 3 (by kernel_rfl))
            have e0e : av.eval (.tmp 101) = .slice (some ⟨bq, oq, none⟩) ks.length c := e0
            have e0g : av.tmps[101]?.getD undef = .slice (some ⟨bq, oq, none⟩) ks.length c := by have := e0; simp only [Array.getD_eq_getD_getElem?] at this; exact this
            have e1 : av.tmps.getD 102 undef = .int .i64 (k : Int) := (hw 4 (by kernel_rfl))
            have e1e : av.eval (.tmp 102) = .int .i64 (k : Int) := e1
            have e1g : av.tmps[102]?.getD undef = .int .i64 (k : Int) := by have := e1; simp only [Array.getD_eq_getD_getElem?] at this; exact this
            clear hw hF
            simp only [Oper.wp, execOp]
            try simp only [e0e, e1e]
            go_simp
            exact hK _ x (by first | rfl | (simp only [Nat.add_zero]; done) | (congr 1; omega)) (Below.refl _ _) (fun h => by cases h)
        intro av x hF hb' hR _
        have e0 : av.tmps.getD 98 undef = .pointer (some ⟨w.heap.size + 2, 1, none⟩) := hR 0 (by decide)
        have e1 : av.tmps.getD 99 undef = .slice ABX2 Z2.length cBX2 := hR 1 (by decide)
        have e2 : av.tmps.getD 100 undef = .pointer (some ⟨w.heap.size, 1, none⟩) := hR 2 (by decide)
        have e3 : av.tmps.getD 101 undef = .slice (some ⟨bq, oq, none⟩) ks.length c := hR 3 (by decide)
        have e4 : av.tmps.getD 102 undef = .int .i64 (k : Int) := hR 4 (by decide)
        have e5 : av.tmps.getD 103 undef = .slice Kb (ks.length - k) cb := hR 5 (by decide)
        rw [hF.fold (by kernel_rfl)]
        simp only [List.foldl_cons, List.foldl_nil, e0, e1, e2, e3, e4, e5]
        simp only [Act.put, List.setIfInBounds_toArray, List.set_cons_zero, List.set_cons_succ]
        change wpOps _ _ _ [6, 7, 8] _ _
        simp only [wpOps_cons]
        clear e0 e1 e2 e3 e4 e5 hR hF
        have BY := Lib.hid (BX.out.below hb')
        have RW := Lib.hid (row_on RW.out hb')
        have RR := Lib.hid (row_on RR.out hb')
        clear hb'
        simp only [wpOp, List.getElem?_toArray, List.getElem?_cons_succ, List.getElem?_cons_zero, Region.wanted, if_true]
        refine Or.inl ?_
        refine wp_append2 sv_one et_s (.tmp 99) (.tmp 103) rfl (w.heap.size + 3) (.slice ABX2 Z2.length cBX2) Z2 y3 Z3 Kb cb (ks.length - k) rfl BY.out.o1 (RKB.out _ BY.out.kb) L3.out rfl EK.out.2.2 BN.out.2.2.1 BY.out.bz ?_
        intro A9 c9 x9 ho9 hg9 hn9
        obtain ⟨ABX5, hA2⟩ : ∃ z, A9 = z := ⟨_, rfl⟩
        obtain ⟨cBX5, hc2⟩ : ∃ z, c9 = z := ⟨_, rfl⟩
        rw [hA2, hc2] at ho9 hn9 ⊢
        have BN := Lib.hid (BY.out.push1 ho9 hg9 hn9)
        have N9 := Lib.hid (BY.out.row1 hg9 BY.out.lt.2 BY.out.row)
        obtain ⟨VBX5, hU⟩ : ∃ U : World, U = x9.setCell ⟨w.heap.size + 2, 1, none⟩ (.slice ABX5 Z3.length cBX5) := ⟨_, rfl⟩
        rw [← hU] at BN
        have RWz := Lib.hid (show VBX5.heap[w.heap.size]? = some _ by rw [hU]; exact row_far (BY.out.row1 hg9 (by omega) RW.out) (by omega) _)
        have RRz := Lib.hid (show VBX5.heap[w.heap.size + 1]? = some _ by rw [hU]; exact row_far (BY.out.row1 hg9 (by omega) RR.out) (by omega) _)
        have f9 := row_c N9.out (i := 1) rfl
        have q9 := frozen_of_row _ _ 1 _ _ N9.out
        clear ho9 hg9 hn9 hA2 hc2 BY N9 BX RW RR
        have BX := BN
        clear BN
        have RW := RWz
        clear RWz
        have RR := RRz
        clear RRz
        go_simp
        try rw [wpOps_cons]
        simp only [wpOp, List.getElem?_toArray, List.getElem?_cons_succ, List.getElem?_cons_zero, Region.wanted, if_true]
        refine Or.inl ?_
        simp only [Oper.wp, execOp]
        go_simp
        try rw [wpOps_cons]
        simp only [wpOp, List.getElem?_toArray, List.getElem?_cons_succ, List.getElem?_cons_zero, Region.wanted, if_true]
        refine Or.inl ?_
        simp only [Oper.wp, execOp]
        go_simp
        try simp only [wpOps]
        rw [← hU]
        clear hU f9 q9
        go_upto_region 18 with (fail)
        refine wp_operands (W := VBX5) rfl 6 [106, 107, 108, 109, 110, 111] (fun i u x => match i with | 0 => u = .pointer (some ⟨w.heap.size + 2, 2, none⟩) | 1 => u = .slice ABX4 X2.length cBX4 | 2 => u = .pointer (some ⟨w.heap.size, 2, none⟩) | 3 => u = .slice B ds.length d | 4 => u = .int .i64 (k : Int) | 5 => u = .slice Db (ds.length - k) db | _ => True) (fun _ => false)
          (by decide) rfl (by kernel_rfl) (by kernel_rfl) (by decide) (by kernel_rfl) ?_ (fun _ _ _ h => by cases h) ?_ ?_
        · intro i u x x' hi hR hb'
          have hi' : i = 0 ∨ i = 1 ∨ i = 2 ∨ i = 3 ∨ i = 4 ∨ i = 5 := by omega
          rcases hi' with rfl | rfl | rfl | rfl | rfl | rfl
          · exact hR
          · exact hR
          · exact hR
          · exact hR
          · exact hR
          · exact hR
        · intro i av x K hi hF hb' hw hK
          have hi' : i = 0 ∨ i = 1 ∨ i = 2 ∨ i = 3 ∨ i = 4 ∨ i = 5 := by omega
          rcases hi' with rfl | rfl | rfl | rfl | rfl | rfl
          · simp only [wpOp, List.getElem?_toArray, List.getElem?_cons_zero, Region.wanted, if_true]
            refine Or.inl ?_
            have e0 : av.tmps.getD 7 undef = .pointer (some ⟨w.heap.size + 2, 0, none⟩) := hF.2.2 7 (by decide)
            have e0e : av.eval (.tmp 7) = .pointer (some ⟨w.heap.size + 2, 0, none⟩) := e0
            have e0g : av.tmps[7]?.getD undef = .pointer (some ⟨w.heap.size + 2, 0, none⟩) := by have := e0; simp only [Array.getD_eq_getD_getElem?] at this; exact this
            clear hw hF
            simp only [Oper.wp, execOp]
            try simp only [e0e]
            go_simp
            exact hK _ x (by first | rfl | (simp only [Nat.add_zero]; done) | (congr 1; omega)) (Below.refl _ _) (fun h => by cases h)
          · simp only [wpOp, List.getElem?_toArray, List.getElem?_cons_succ, List.getElem?_cons_zero, Region.wanted, if_true]
            refine Or.inl ?_
            have e0 : av.tmps.getD 106 undef = .pointer (some ⟨w.heap.size + 2, 2, none⟩) := (hw 0 (by kernel_rfl))
            have e0e : av.eval (.tmp 106) = .pointer (some ⟨w.heap.size + 2, 2, none⟩) := e0
            have e0g : av.tmps[106]?.getD undef = .pointer (some ⟨w.heap.size + 2, 2, none⟩) := by have := e0; simp only [Array.getD_eq_getD_getElem?] at this; exact this
            obtain ⟨fo0, fo1, fo2⟩ := BX.out.f hb'
            clear hw hF
            simp only [Oper.wp, execOp]
            try simp only [e0e]
            go_simp
            exact hK _ x (by first | rfl | (simp only [Nat.add_zero]; done) | (congr 1; omega)) (Below.refl _ _) (fun h => by cases h)
          · simp only [wpOp, List.getElem?_toArray, List.getElem?_cons_succ, List.getElem?_cons_zero, Region.wanted, if_true]
            refine Or.inl ?_
            have e0 : av.tmps.getD 3 undef = .pointer (some ⟨w.heap.size, 0, none⟩) := hF.2.2 3 (by decide)
            have e0e : av.eval (.tmp 3) = .pointer (some ⟨w.heap.size, 0, none⟩) := e0
            have e0g : av.tmps[3]?.getD undef = .pointer (some ⟨w.heap.size, 0, none⟩) := by have := e0; simp only [Array.getD_eq_getD_getElem?] at this; exact this
            clear hw hF
            simp only [Oper.wp, execOp]
            try simp only [e0e]
            go_simp
            exact hK _ x (by first | rfl | (simp only [Nat.add_zero]; done) | (congr 1; omega)) (Below.refl _ _) (fun h => by cases h)
          · simp only [wpOp, List.getElem?_toArray, List.getElem?_cons_succ, List.getElem?_cons_zero, Region.wanted, if_true]
            refine Or.inl ?_
            have e0 : av.tmps.getD 108 undef = .pointer (some ⟨w.heap.size, 2, none⟩) := (hw 2 (by kernel_rfl))
            have e0e : av.eval (.tmp 108) = .pointer (some ⟨w.heap.size, 2, none⟩) := e0
            have e0g : av.tmps[108]?.getD undef = .pointer (some ⟨w.heap.size, 2, none⟩) := by have := e0; simp only [Array.getD_eq_getD_getElem?] at this; exact this
            have fn := row_c (row_on RW.out hb') (i := 2) rfl
            clear hw hF
            simp only [Oper.wp, execOp]
            try simp only [e0e]
            go_simp
            exact hK _ x (by first | rfl | (simp only [Nat.add_zero]; done) | (congr 1; omega)) (Below.refl _ _) (fun h => by cases h)
          · simp only [wpOp, List.getElem?_toArray, List.getElem?_cons_succ, List.getElem?_cons_zero, Region.wanted, if_true]
            refine Or.inl ?_
            have e0 : av.tmps.getD 10 undef = .int .i64 (k : Int) := hF.2.2 10 (by decide)
            have e0e : av.eval (.tmp 10) = .int .i64 (k : Int) := e0
            have e0g : av.tmps[10]?.getD undef = .int .i64 (k : Int) := by have := e0; simp only [Array.getD_eq_getD_getElem?] at this; exact this
            clear hw hF
            simp only [Oper.wp, execOp]
            try simp only [e0e]
            go_simp
            exact hK _ x (by first | rfl | (simp only [Nat.add_zero]; done) | (congr 1; omega)) (Below.refl _ _) (fun h => by cases h)
          · simp only [wpOp, List.getElem?_toArray, List.getElem?_cons_succ, List.getElem?_cons_zero, Region.wanted, if_true]
            refine Or.inl ?_
            have e0 : av.tmps.getD 109 undef = .slice B ds.length d := (hw 3 (by kernel_rfl))
            have e0e : av.eval (.tmp 109) = .slice B ds.length d := e0
            have e0g : av.tmps[109]?.getD undef = .slice B ds.length d := by have := e0; simp only [Array.getD_eq_getD_getElem?] at this; exact this
            have e1 : av.tmps.getD 110 undef = .int .i64 (k : Int) := (hw 4 (by kernel_rfl))
            have e1e : av.eval (.tmp 110) = .int .i64 (k : Int) := e1
            have e1g : av.tmps[110]?.getD undef = .int .i64 (k : Int) := by have := e1; simp only [Array.getD_eq_getD_getElem?] at this; exact this
            clear hw hF
            simp only [Oper.wp, execOp]
            try simp only [e0e, e1e]
            go_simp
            exact hK _ x (by first | rfl | (simp only [Nat.add_zero]; done) | (congr 1; omega)) (Below.refl _ _) (fun h => by cases h)
        intro av x hF hb' hR _
        have e0 : av.tmps.getD 106 undef = .pointer (some ⟨w.heap.size + 2, 2, none⟩) := hR 0 (by decide)
        have e1 : av.tmps.getD 107 undef = .slice ABX4 X2.length cBX4 := hR 1 (by decide)
        have e2 : av.tmps.getD 108 undef = .pointer (some ⟨w.heap.size, 2, none⟩) := hR 2 (by decide)
        have e3 : av.tmps.getD 109 undef = .slice B ds.length d := hR 3 (by decide)
        have e4 : av.tmps.getD 110 undef = .int .i64 (k : Int) := hR 4 (by decide)
        have e5 : av.tmps.getD 111 undef = .slice Db (ds.length - k) db := hR 5 (by decide)
        rw [hF.fold (by kernel_rfl)]
        simp only [List.foldl_cons, List.foldl_nil, e0, e1, e2, e3, e4, e5]
        simp only [Act.put, List.setIfInBounds_toArray, List.set_cons_zero, List.set_cons_succ]
        change wpOps _ _ _ [6, 7, 8] _ _
        simp only [wpOps_cons]
        clear e0 e1 e2 e3 e4 e5 hR hF
        have BY := Lib.hid (BX.out.below hb')
        have RW := Lib.hid (row_on RW.out hb')
        have RR := Lib.hid (row_on RR.out hb')
        clear hb'
        simp only [wpOp, List.getElem?_toArray, List.getElem?_cons_succ, List.getElem?_cons_zero, Region.wanted, if_true]
        refine Or.inl ?_
        refine wp_append2 nv_one et_i (.tmp 107) (.tmp 111) rfl (w.heap.size + 3) (.slice ABX4 X2.length cBX4) X2 u3 X3 Db db (ds.length - k) rfl BY.out.o2 (RDB.out _ BY.out.kb) L4.out rfl EQ.out.2.2 BN.out.2.2.2.2.2 BY.out.bz ?_
        intro A9 c9 x9 ho9 hg9 hn9
        obtain ⟨ABX6, hA2⟩ : ∃ z, A9 = z := ⟨_, rfl⟩
        obtain ⟨cBX6, hc2⟩ : ∃ z, c9 = z := ⟨_, rfl⟩
        rw [hA2, hc2] at ho9 hn9 ⊢
        have BN := Lib.hid (BY.out.push2 ho9 hg9 hn9)
        have N9 := Lib.hid (BY.out.row2 hg9 BY.out.lt.2 BY.out.row)
        obtain ⟨VBX6, hU⟩ : ∃ U : World, U = x9.setCell ⟨w.heap.size + 2, 2, none⟩ (.slice ABX6 X3.length cBX6) := ⟨_, rfl⟩
        rw [← hU] at BN
        have RWz := Lib.hid (show VBX6.heap[w.heap.size]? = some _ by rw [hU]; exact row_far (BY.out.row2 hg9 (by omega) RW.out) (by omega) _)
        have RRz := Lib.hid (show VBX6.heap[w.heap.size + 1]? = some _ by rw [hU]; exact row_far (BY.out.row2 hg9 (by omega) RR.out) (by omega) _)
        have f9 := row_c N9.out (i := 2) rfl
        have q9 := frozen_of_row _ _ 2 _ _ N9.out
        clear ho9 hg9 hn9 hA2 hc2 BY N9 BX RW RR
        have BX := BN
        clear BN
        have RW := RWz
        clear RWz
        have RR := RRz
        clear RRz
        go_simp
        try rw [wpOps_cons]
        simp only [wpOp, List.getElem?_toArray, List.getElem?_cons_succ, List.getElem?_cons_zero, Region.wanted, if_true]
        refine Or.inl ?_
        simp only [Oper.wp, execOp]
        go_simp
        try rw [wpOps_cons]
        simp only [wpOp, List.getElem?_toArray, List.getElem?_cons_succ, List.getElem?_cons_zero, Region.wanted, if_true]
        refine Or.inl ?_
        simp only [Oper.wp, execOp]
        go_simp
        try simp only [wpOps]
        rw [← hU]
        clear hU f9 q9
        obtain ⟨fo0, fo1, fo2⟩ := BX.out.f (Below.refl _ _)
        have p0 := row_c RR.out (i := 0) rfl
        have p1 := row_c RR.out (i := 1) rfl
        have p2 := row_c RR.out (i := 2) rfl
        have y0 := frozen_of_row _ _ 0 _ _ RR.out
        have y1 := frozen_of_row _ _ 1 _ _ RR.out
        have y2 := frozen_of_row _ _ 2 _ _ RR.out
        go_wp2
        refine bodyPost_ret (v := .agg #[.bool true, .slice ABX5 Z3.length cBX5, .slice ABX6 X3.length cBX6]) (by simp [results, Try.results26, go_sem, p0, p1, p2]) rfl ⟨ABX5, cBX5, ABX6, cBX6, rfl, ?_, ?_, ?_⟩
        · exact ((BX.out.rl.1.set BX.out.rl.2.2.1 (by omega) _ _).set BX.out.rl.2.2.1 (by omega) _ _).set BX.out.rl.2.2.1 (by omega) _ _
        · exact ((BX.out.rl.2.1.set BX.out.rl.2.2.2 (by omega) _ _).set BX.out.rl.2.2.2 (by omega) _ _).set BX.out.rl.2.2.2 (by omega) _ _
        · exact ((BX.out.kb.setCell (by simp) _).setCell (by simp) _).setCell (by simp) _
      · have k9 : decide (k < ks.length) = false := decide_eq_false hn
        have k8 : decide ((k : Int) < (ks.length : Int)) = false := decide_eq_false (by omega)
        clear hn
        have BX := Lib.hid (Bx.fresh (base := w.heap.size + 3) (row_on RO.out hb.out) KW.out (heap_lt (row_on RO.out hb.out)) ⟨by omega, by omega⟩)
        have RWx := Lib.hid (row_on RW.out hb.out)
        have RRx := Lib.hid (row_on RR.out hb.out)
        clear RW RR RO hb KW B1
        have RW := RWx
        have RR := RRx
        clear RWx RRx
        obtain ⟨Vs, hVs⟩ : ∃ z, wr = z := ⟨_, rfl⟩
        rw [hVs] at BX RW RR f0 f1 ⊢
        clear hVs
        go_upto_region 9 with (fail)
        clear f0 f1 k9 k8
        refine wp_operands (W := Vs) rfl 6 [50, 51, 52, 53, 54, 55] (fun i u x => match i with | 0 => u = .pointer (some ⟨w.heap.size + 2, 1, none⟩) | 1 => u = .slice none 0 0 | 2 => u = .pointer (some ⟨w.heap.size, 1, none⟩) | 3 => u = .slice A ks.length c | 4 => u = .int .i64 (k : Int) | 5 => u = .slice Ka (k) ca | _ => True) (fun _ => false)
          (by decide) rfl (by kernel_rfl) (by kernel_rfl) (by decide) (by kernel_rfl) ?_ (fun _ _ _ h => by cases h) ?_ ?_
        · intro i u x x' hi hR hb'
          have hi' : i = 0 ∨ i = 1 ∨ i = 2 ∨ i = 3 ∨ i = 4 ∨ i = 5 := by omega
          rcases hi' with rfl | rfl | rfl | rfl | rfl | rfl
          · exact hR
          · exact hR
          · exact hR
          · exact hR
          · exact hR
          · exact hR
        · intro i av x K hi hF hb' hw hK
          have hi' : i = 0 ∨ i = 1 ∨ i = 2 ∨ i = 3 ∨ i = 4 ∨ i = 5 := by omega
          rcases hi' with rfl | rfl | rfl | rfl | rfl | rfl
          · simp only [wpOp, List.getElem?_toArray, List.getElem?_cons_zero, Region.wanted, if_true]
            refine Or.inl ?_
            have e0 : av.tmps.getD 7 undef = .pointer (some ⟨w.heap.size + 2, 0, none⟩) := hF.2.2 7 (by decide)
            have e0e : av.eval (.tmp 7) = .pointer (some ⟨w.heap.size + 2, 0, none⟩) := e0
            have e0g : av.tmps[7]?.getD undef = .pointer (some ⟨w.heap.size + 2, 0, none⟩) := by have := e0; simp only [Array.getD_eq_getD_getElem?] at this; exact this
            clear hw hF
            simp only [Oper.wp, execOp]
            try simp only [e0e]
            go_simp
            exact hK _ x (by first | rfl | (simp only [Nat.add_zero]; done) | (congr 1; omega)) (Below.refl _ _) (fun h => by cases h)
          · simp only [wpOp, List.getElem?_toArray, List.getElem?_cons_succ, List.getElem?_cons_zero, Region.wanted, if_true]
            refine Or.inl ?_
            have e0 : av.tmps.getD 50 undef = .pointer (some ⟨w.heap.size + 2, 1, none⟩) := (hw 0 (by kernel_rfl))
            have e0e : av.eval (.tmp 50) = .pointer (some ⟨w.heap.size + 2, 1, none⟩) := e0
            have e0g : av.tmps[50]?.getD undef = .pointer (some ⟨w.heap.size + 2, 1, none⟩) := by have := e0; simp only [Array.getD_eq_getD_getElem?] at this; exact this
            obtain ⟨fo0, fo1, fo2⟩ := BX.out.f hb'
            clear hw hF
            simp only [Oper.wp, execOp]
            try simp only [e0e]
            go_simp
            exact hK _ x (by first | rfl | (simp only [Nat.add_zero]; done) | (congr 1; omega)) (Below.refl _ _) (fun h => by cases h)
          · simp only [wpOp, List.getElem?_toArray, List.getElem?_cons_succ, List.getElem?_cons_zero, Region.wanted, if_true]
            refine Or.inl ?_
            have e0 : av.tmps.getD 3 undef = .pointer (some ⟨w.heap.size, 0, none⟩) := hF.2.2 3 (by decide)
            have e0e : av.eval (.tmp 3) = .pointer (some ⟨w.heap.size, 0, none⟩) := e0
            have e0g : av.tmps[3]?.getD undef = .pointer (some ⟨w.heap.size, 0, none⟩) := by have := e0; simp only [Array.getD_eq_getD_getElem?] at this; exact this
            clear hw hF
            simp only [Oper.wp, execOp]
            try simp only [e0e]
            go_simp
            exact hK _ x (by first | rfl | (simp only [Nat.add_zero]; done) | (congr 1; omega)) (Below.refl _ _) (fun h => by cases h)
          · simp only [wpOp, List.getElem?_toArray, List.getElem?_cons_succ, List.getElem?_cons_zero, Region.wanted, if_true]
            refine Or.inl ?_
            have e0 : av.tmps.getD 52 undef = .pointer (some ⟨w.heap.size, 1, none⟩) := (hw 2 (by kernel_rfl))
            have e0e : av.eval (.tmp 52) = .pointer (some ⟨w.heap.size, 1, none⟩) := e0
            have e0g : av.tmps[52]?.getD undef = .pointer (some ⟨w.heap.size, 1, none⟩) := by have := e0; simp only [Array.getD_eq_getD_getElem?] at this; exact this
            have fn := row_c (row_on RW.out hb') (i := 1) rfl
            clear hw hF
            simp only [Oper.wp, execOp]
            try simp only [e0e]
            go_simp
            exact hK _ x (by first | rfl | (simp only [Nat.add_zero]; done) | (congr 1; omega)) (Below.refl _ _) (fun h => by cases h)
          · simp only [wpOp, List.getElem?_toArray, List.getElem?_cons_succ, List.getElem?_cons_zero, Region.wanted, if_true]
            refine Or.inl ?_
            have e0 : av.tmps.getD 8 undef = .int .i64 (k : Int) := hF.2.2 8 (by decide)
            have e0e : av.eval (.tmp 8) = .int .i64 (k : Int) := e0
            have e0g : av.tmps[8]?.getD undef = .int .i64 (k : Int) := by have := e0; simp only [Array.getD_eq_getD_getElem?] at this; exact this
            clear hw hF
            simp only [Oper.wp, execOp]
            try simp only [e0e]
            go_simp
            exact hK _ x (by first | rfl | (simp only [Nat.add_zero]; done) | (congr 1; omega)) (Below.refl _ _) (fun h => by cases h)
          · simp only [wpOp, List.getElem?_toArray, List.getElem?_cons_succ, List.getElem?_cons_zero, Region.wanted, if_true]
            refine Or.inl ?_
            have e0 : av.tmps.getD 53 undef = .slice A ks.length c := (hw 3 (by kernel_rfl))
            have e0e : av.eval (.tmp 53) = .slice A ks.length c := e0
            have e0g : av.tmps[53]?.getD undef = .slice A ks.length c := by have := e0; simp only [Array.getD_eq_getD_getElem?] at this; exact this
            have e1 : av.tmps.getD 54 undef = .int .i64 (k : Int) := (hw 4 (by kernel_rfl))
            have e1e : av.eval (.tmp 54) = .int .i64 (k : Int) := e1
            have e1g : av.tmps[54]?.getD undef = .int .i64 (k : Int) := by have := e1; simp only [Array.getD_eq_getD_getElem?] at this; exact this
            clear hw hF
            simp only [Oper.wp, execOp]
            try simp only [e0e, e1e]
            go_simp
            exact hK _ x (by first | rfl | (simp only [Nat.add_zero]; done) | (congr 1; omega)) (Below.refl _ _) (fun h => by cases h)
        intro av x hF hb' hR _
        have e0 : av.tmps.getD 50 undef = .pointer (some ⟨w.heap.size + 2, 1, none⟩) := hR 0 (by decide)
        have e1 : av.tmps.getD 51 undef = .slice none 0 0 := hR 1 (by decide)
        have e2 : av.tmps.getD 52 undef = .pointer (some ⟨w.heap.size, 1, none⟩) := hR 2 (by decide)
        have e3 : av.tmps.getD 53 undef = .slice A ks.length c := hR 3 (by decide)
        have e4 : av.tmps.getD 54 undef = .int .i64 (k : Int) := hR 4 (by decide)
        have e5 : av.tmps.getD 55 undef = .slice Ka (k) ca := hR 5 (by decide)
        rw [hF.fold (by kernel_rfl)]
        simp only [List.foldl_cons, List.foldl_nil, e0, e1, e2, e3, e4, e5]
        simp only [Act.put, List.setIfInBounds_toArray, List.set_cons_zero, List.set_cons_succ]
        change wpOps _ _ _ [6, 7, 8] _ _
        simp only [wpOps_cons]
        clear e0 e1 e2 e3 e4 e5 hR hF
        have BY := Lib.hid (BX.out.below hb')
        have RW := Lib.hid (row_on RW.out hb')
        have RR := Lib.hid (row_on RR.out hb')
        clear hb'
        simp only [wpOp, List.getElem?_toArray, List.getElem?_cons_succ, List.getElem?_cons_zero, Region.wanted, if_true]
        refine Or.inl ?_
        refine wp_append2 sv_one et_s (.tmp 51) (.tmp 55) rfl (w.heap.size + 3) (.slice none 0 0) ([] : List (List UInt8)) y1 Z1 Ka ca (k) rfl BY.out.o1 (RKA.out _ BY.out.kb) L1.out rfl EK.out.1 BN.out.1 BY.out.bz ?_
        intro A9 c9 x9 ho9 hg9 hn9
        obtain ⟨ABX1, hA2⟩ : ∃ z, A9 = z := ⟨_, rfl⟩
        obtain ⟨cBX1, hc2⟩ : ∃ z, c9 = z := ⟨_, rfl⟩
        rw [hA2, hc2] at ho9 hn9 ⊢
        have BN := Lib.hid (BY.out.push1 ho9 hg9 hn9)
        have N9 := Lib.hid (BY.out.row1 hg9 BY.out.lt.2 BY.out.row)
        obtain ⟨VBX1, hU⟩ : ∃ U : World, U = x9.setCell ⟨w.heap.size + 2, 1, none⟩ (.slice ABX1 Z1.length cBX1) := ⟨_, rfl⟩
        rw [← hU] at BN
        have RWz := Lib.hid (show VBX1.heap[w.heap.size]? = some _ by rw [hU]; exact row_far (BY.out.row1 hg9 (by omega) RW.out) (by omega) _)
        have RRz := Lib.hid (show VBX1.heap[w.heap.size + 1]? = some _ by rw [hU]; exact row_far (BY.out.row1 hg9 (by omega) RR.out) (by omega) _)
        have f9 := row_c N9.out (i := 1) rfl
        have q9 := frozen_of_row _ _ 1 _ _ N9.out
        clear ho9 hg9 hn9 hA2 hc2 BY N9 BX RW RR
        have BX := BN
        clear BN
        have RW := RWz
        clear RWz
        have RR := RRz
        clear RRz
        go_simp
        try rw [wpOps_cons]
        simp only [wpOp, List.getElem?_toArray, List.getElem?_cons_succ, List.getElem?_cons_zero, Region.wanted, if_true]
        refine Or.inl ?_
        simp only [Oper.wp, execOp]
        go_simp
        try rw [wpOps_cons]
        simp only [wpOp, List.getElem?_toArray, List.getElem?_cons_succ, List.getElem?_cons_zero, Region.wanted, if_true]
        refine Or.inl ?_
        simp only [Oper.wp, execOp]
        go_simp
        try simp only [wpOps]
        rw [← hU]
        clear hU f9 q9
        obtain ⟨Y, hY⟩ : ∃ Y : World, Y = VBX1.alloc (.cells #[.string ⟨key.toArray⟩] 9) := ⟨_, rfl⟩
        have HY := Lib.hid hY
        have BY := Lib.hid (show Bx w Y _ _ _ _ _ _ _ _ _ _ by rw [hY]; exact BX.out.below (bda _ _))
        have RK := Lib.hid (show Rl sv Y (some ⟨VBX1.heap.size, 0, none⟩) 1 [key] by rw [hY]; exact rl_of_row (g := sv) (xs := [key]) (heap_alloc_new _ _) 1 (Nat.le_refl _))
        have RW := Lib.hid (show Y.heap[_]? = some _ by rw [hY]; exact row_on RW.out (bda _ _))
        have RR := Lib.hid (show Y.heap[_]? = some _ by rw [hY]; exact row_on RR.out (bda _ _))
        obtain ⟨fo0, fo1, fo2⟩ := BX.out.f (Below.refl _ _)
        have SY := Lib.hid (show Y.heap.size = VBX1.heap.size + 1 by rw [hY]; simp)
        clear hY
        go_wp2_with (at_builtin; refine wpList_append2 sv_one et_s rfl _ _ rfl (w.heap.size + 3) (.slice ABX1 Z1.length cBX1) Z1 [key] Z2 (some ⟨VBX1.heap.size, 0, none⟩) 1 1 rfl (by rw [← HY.out]; exact BY.out.o1) (by rw [← HY.out]; exact RK.out) rfl rfl EK.out.2.1 BN.out.2.1 (by rw [← HY.out]; exact BY.out.bz) ?_)
        rw [← HY.out]
        clear HY fo0 fo1 fo2
        intro A9 c9 x9 ho9 hg9 hn9
        rw [← SY.out] at hn9
        clear SY
        obtain ⟨ABX2, hA2⟩ : ∃ z, A9 = z := ⟨_, rfl⟩
        obtain ⟨cBX2, hc2⟩ : ∃ z, c9 = z := ⟨_, rfl⟩
        rw [hA2, hc2] at ho9 hn9 ⊢
        have BN := Lib.hid (BY.out.push1 ho9 hg9 hn9)
        have N9 := Lib.hid (BY.out.row1 hg9 BY.out.lt.2 BY.out.row)
        obtain ⟨VBX2, hU⟩ : ∃ U : World, U = x9.setCell ⟨w.heap.size + 2, 1, none⟩ (.slice ABX2 Z2.length cBX2) := ⟨_, rfl⟩
        rw [← hU] at BN
        have RWz := Lib.hid (show VBX2.heap[w.heap.size]? = some _ by rw [hU]; exact row_far (BY.out.row1 hg9 (by omega) RW.out) (by omega) _)
        have RRz := Lib.hid (show VBX2.heap[w.heap.size + 1]? = some _ by rw [hU]; exact row_far (BY.out.row1 hg9 (by omega) RR.out) (by omega) _)
        have f9 := row_c N9.out (i := 1) rfl
        have q9 := frozen_of_row _ _ 1 _ _ N9.out
        clear ho9 hg9 hn9 hA2 hc2 BY N9 BX RW RR
        have BX := BN
        clear BN
        have RW := RWz
        clear RWz
        have RR := RRz
        clear RRz
        have HU := Lib.hid hU
        clear hU RK
        go_upto_region 11 with (fail)
        rw [← HU.out]
        clear HU f9 q9
        refine wp_operands (W := VBX2) rfl 6 [64, 65, 66, 67, 68, 69] (fun i u x => match i with | 0 => u = .pointer (some ⟨w.heap.size + 2, 2, none⟩) | 1 => u = .slice none 0 0 | 2 => u = .pointer (some ⟨w.heap.size, 2, none⟩) | 3 => u = .slice B ds.length d | 4 => u = .int .i64 (k : Int) | 5 => u = .slice Da (k) da | _ => True) (fun _ => false)
          (by decide) rfl (by kernel_rfl) (by kernel_rfl) (by decide) (by kernel_rfl) ?_ (fun _ _ _ h => by cases h) ?_ ?_
        · intro i u x x' hi hR hb'
          have hi' : i = 0 ∨ i = 1 ∨ i = 2 ∨ i = 3 ∨ i = 4 ∨ i = 5 := by omega
          rcases hi' with rfl | rfl | rfl | rfl | rfl | rfl
          · exact hR
          · exact hR
          · exact hR
          · exact hR
          · exact hR
          · exact hR
        · intro i av x K hi hF hb' hw hK
          have hi' : i = 0 ∨ i = 1 ∨ i = 2 ∨ i = 3 ∨ i = 4 ∨ i = 5 := by omega
          rcases hi' with rfl | rfl | rfl | rfl | rfl | rfl
          · simp only [wpOp, List.getElem?_toArray, List.getElem?_cons_zero, Region.wanted, if_true]
            refine Or.inl ?_
            have e0 : av.tmps.getD 7 undef = .pointer (some ⟨w.heap.size + 2, 0, none⟩) := hF.2.2 7 (by decide)
            have e0e : av.eval (.tmp 7) = .pointer (some ⟨w.heap.size + 2, 0, none⟩) := e0
            have e0g : av.tmps[7]?.getD undef = .pointer (some ⟨w.heap.size + 2, 0, none⟩) := by have := e0; simp only [Array.getD_eq_getD_getElem?] at this; exact this
            clear hw hF
            simp only [Oper.wp, execOp]
            try simp only [e0e]
            go_simp
            exact hK _ x (by first | rfl | (simp only [Nat.add_zero]; done) | (congr 1; omega)) (Below.refl _ _) (fun h => by cases h)
          · simp only [wpOp, List.getElem?_toArray, List.getElem?_cons_succ, List.getElem?_cons_zero, Region.wanted, if_true]
            refine Or.inl ?_
            have e0 : av.tmps.getD 64 undef = .pointer (some ⟨w.heap.size + 2, 2, none⟩) := (hw 0 (by kernel_rfl))
            have e0e : av.eval (.tmp 64) = .pointer (some ⟨w.heap.size + 2, 2, none⟩) := e0
            have e0g : av.tmps[64]?.getD undef = .pointer (some ⟨w.heap.size + 2, 2, none⟩) := by have := e0; simp only [Array.getD_eq_getD_getElem?] at this; exact this
            obtain ⟨fo0, fo1, fo2⟩ := BX.out.f hb'
            clear hw hF
            simp only [Oper.wp, execOp]
            try simp only [e0e]
            go_simp
            exact hK _ x (by first | rfl | (simp only [Nat.add_zero]; done) | (congr 1; omega)) (Below.refl _ _) (fun h => by cases h)
          · simp only [wpOp, List.getElem?_toArray, List.getElem?_cons_succ, List.getElem?_cons_zero, Region.wanted, if_true]
            refine Or.inl ?_
            have e0 : av.tmps.getD 3 undef = .pointer (some ⟨w.heap.size, 0, none⟩) := hF.2.2 3 (by decide)
            have e0e : av.eval (.tmp 3) = .pointer (some ⟨w.heap.size, 0, none⟩) := e0
            have e0g : av.tmps[3]?.getD undef = .pointer (some ⟨w.heap.size, 0, none⟩) := by have := e0; simp only [Array.getD_eq_getD_getElem?] at this; exact this
            clear hw hF
            simp only [Oper.wp, execOp]
            try simp only [e0e]
            go_simp
            exact hK _ x (by first | rfl | (simp only [Nat.add_zero]; done) | (congr 1; omega)) (Below.refl _ _) (fun h => by cases h)
          · simp only [wpOp, List.getElem?_toArray, List.getElem?_cons_succ, List.getElem?_cons_zero, Region.wanted, if_true]
            refine Or.inl ?_
            have e0 : av.tmps.getD 66 undef = .pointer (some ⟨w.heap.size, 2, none⟩) := (hw 2 (by kernel_rfl))
            have e0e : av.eval (.tmp 66) = .pointer (some ⟨w.heap.size, 2, none⟩) := e0
            have e0g : av.tmps[66]?.getD undef = .pointer (some ⟨w.heap.size, 2, none⟩) := by have := e0; simp only [Array.getD_eq_getD_getElem?] at this; exact this
            have fn := row_c (row_on RW.out hb') (i := 2) rfl
            clear hw hF
            simp only [Oper.wp, execOp]
            try simp only [e0e]
            go_simp
            exact hK _ x (by first | rfl | (simp only [Nat.add_zero]; done) | (congr 1; omega)) (Below.refl _ _) (fun h => by cases h)
          · simp only [wpOp, List.getElem?_toArray, List.getElem?_cons_succ, List.getElem?_cons_zero, Region.wanted, if_true]
            refine Or.inl ?_
            have e0 : av.tmps.getD 10 undef = .int .i64 (k : Int) := hF.2.2 10 (by decide)
            have e0e : av.eval (.tmp 10) = .int .i64 (k : Int) := e0
            have e0g : av.tmps[10]?.getD undef = .int .i64 (k : Int) := by have := e0; simp only [Array.getD_eq_getD_getElem?] at this; exact this
            clear hw hF
            simp only [Oper.wp, execOp]
            try simp only [e0e]
            go_simp
            exact hK _ x (by first | rfl | (simp only [Nat.add_zero]; done) | (congr 1; omega)) (Below.refl _ _) (fun h => by cases h)
          · simp only [wpOp, List.getElem?_toArray, List.getElem?_cons_succ, List.getElem?_cons_zero, Region.wanted, if_true]
            refine Or.inl ?_
            have e0 : av.tmps.getD 67 undef = .slice B ds.length d := (hw 3 (by kernel_rfl))
            have e0e : av.eval (.tmp 67) = .slice B ds.length d := e0
            have e0g : av.tmps[67]?.getD undef = .slice B ds.length d := by have := e0; simp only [Array.getD_eq_getD_getElem?] at this; exact this
            have e1 : av.tmps.getD 68 undef = .int .i64 (k : Int) := (hw 4 (by kernel_rfl))
            have e1e : av.eval (.tmp 68) = .int .i64 (k : Int) := e1
            have e1g : av.tmps[68]?.getD undef = .int .i64 (k : Int) := by have := e1; simp only [Array.getD_eq_getD_getElem?] at this; exact this
            clear hw hF
            simp only [Oper.wp, execOp]
            try simp only [e0e, e1e]
            go_simp
            exact hK _ x (by first | rfl | (simp only [Nat.add_zero]; done) | (congr 1; omega)) (Below.refl _ _) (fun h => by cases h)
        intro av x hF hb' hR _
        have e0 : av.tmps.getD 64 undef = .pointer (some ⟨w.heap.size + 2, 2, none⟩) := hR 0 (by decide)
        have e1 : av.tmps.getD 65 undef = .slice none 0 0 := hR 1 (by decide)
        have e2 : av.tmps.getD 66 undef = .pointer (some ⟨w.heap.size, 2, none⟩) := hR 2 (by decide)
        have e3 : av.tmps.getD 67 undef = .slice B ds.length d := hR 3 (by decide)
        have e4 : av.tmps.getD 68 undef = .int .i64 (k : Int) := hR 4 (by decide)
        have e5 : av.tmps.getD 69 undef = .slice Da (k) da := hR 5 (by decide)
        rw [hF.fold (by kernel_rfl)]
        simp only [List.foldl_cons, List.foldl_nil, e0, e1, e2, e3, e4, e5]
        simp only [Act.put, List.setIfInBounds_toArray, List.set_cons_zero, List.set_cons_succ]
        change wpOps _ _ _ [6, 7, 8] _ _
        simp only [wpOps_cons]
        clear e0 e1 e2 e3 e4 e5 hR hF
        have BY := Lib.hid (BX.out.below hb')
        have RW := Lib.hid (row_on RW.out hb')
        have RR := Lib.hid (row_on RR.out hb')
        clear hb'
        simp only [wpOp, List.getElem?_toArray, List.getElem?_cons_succ, List.getElem?_cons_zero, Region.wanted, if_true]
        refine Or.inl ?_
        refine wp_append2 nv_one et_i (.tmp 65) (.tmp 69) rfl (w.heap.size + 3) (.slice none 0 0) ([] : List Int) u1 X1 Da da (k) rfl BY.out.o2 (RDA.out _ BY.out.kb) L2.out rfl EQ.out.1 BN.out.2.2.2.1 BY.out.bz ?_
        intro A9 c9 x9 ho9 hg9 hn9
        obtain ⟨ABX3, hA2⟩ : ∃ z, A9 = z := ⟨_, rfl⟩
        obtain ⟨cBX3, hc2⟩ : ∃ z, c9 = z := ⟨_, rfl⟩
        rw [hA2, hc2] at ho9 hn9 ⊢
        have BN := Lib.hid (BY.out.push2 ho9 hg9 hn9)
        have N9 := Lib.hid (BY.out.row2 hg9 BY.out.lt.2 BY.out.row)
        obtain ⟨VBX3, hU⟩ : ∃ U : World, U = x9.setCell ⟨w.heap.size + 2, 2, none⟩ (.slice ABX3 X1.length cBX3) := ⟨_, rfl⟩
        rw [← hU] at BN
        have RWz := Lib.hid (show VBX3.heap[w.heap.size]? = some _ by rw [hU]; exact row_far (BY.out.row2 hg9 (by omega) RW.out) (by omega) _)
        have RRz := Lib.hid (show VBX3.heap[w.heap.size + 1]? = some _ by rw [hU]; exact row_far (BY.out.row2 hg9 (by omega) RR.out) (by omega) _)
        have f9 := row_c N9.out (i := 2) rfl
        have q9 := frozen_of_row _ _ 2 _ _ N9.out
        clear ho9 hg9 hn9 hA2 hc2 BY N9 BX RW RR
        have BX := BN
        clear BN
        have RW := RWz
        clear RWz
        have RR := RRz
        clear RRz
        go_simp
        try rw [wpOps_cons]
        simp only [wpOp, List.getElem?_toArray, List.getElem?_cons_succ, List.getElem?_cons_zero, Region.wanted, if_true]
        refine Or.inl ?_
        simp only [Oper.wp, execOp]
        go_simp
        try rw [wpOps_cons]
        simp only [wpOp, List.getElem?_toArray, List.getElem?_cons_succ, List.getElem?_cons_zero, Region.wanted, if_true]
        refine Or.inl ?_
        simp only [Oper.wp, execOp]
        go_simp
        try simp only [wpOps]
        rw [← hU]
        clear hU f9 q9
        obtain ⟨Y, hY⟩ : ∃ Y : World, Y = VBX3.alloc (.cells #[.int .i64 kid] 3) := ⟨_, rfl⟩
        have HY := Lib.hid hY
        have BY := Lib.hid (show Bx w Y _ _ _ _ _ _ _ _ _ _ by rw [hY]; exact BX.out.below (bda _ _))
        have RK := Lib.hid (show Rl nv Y (some ⟨VBX3.heap.size, 0, none⟩) 1 [kid] by rw [hY]; exact rl_of_row (g := nv) (xs := [kid]) (heap_alloc_new _ _) 1 (Nat.le_refl _))
        have RW := Lib.hid (show Y.heap[_]? = some _ by rw [hY]; exact row_on RW.out (bda _ _))
        have RR := Lib.hid (show Y.heap[_]? = some _ by rw [hY]; exact row_on RR.out (bda _ _))
        obtain ⟨fo0, fo1, fo2⟩ := BX.out.f (Below.refl _ _)
        have SY := Lib.hid (show Y.heap.size = VBX3.heap.size + 1 by rw [hY]; simp)
        clear hY
        go_wp2_with (at_builtin; refine wpList_append2 nv_one et_i rfl _ _ rfl (w.heap.size + 3) (.slice ABX3 X1.length cBX3) X1 [kid] X2 (some ⟨VBX3.heap.size, 0, none⟩) 1 1 rfl (by rw [← HY.out]; exact BY.out.o2) (by rw [← HY.out]; exact RK.out) rfl rfl EQ.out.2.1 BN.out.2.2.2.2.1 (by rw [← HY.out]; exact BY.out.bz) ?_)
        rw [← HY.out]
        clear HY fo0 fo1 fo2
        intro A9 c9 x9 ho9 hg9 hn9
        rw [← SY.out] at hn9
        clear SY
        obtain ⟨ABX4, hA2⟩ : ∃ z, A9 = z := ⟨_, rfl⟩
        obtain ⟨cBX4, hc2⟩ : ∃ z, c9 = z := ⟨_, rfl⟩
        rw [hA2, hc2] at ho9 hn9 ⊢
        have BN := Lib.hid (BY.out.push2 ho9 hg9 hn9)
        have N9 := Lib.hid (BY.out.row2 hg9 BY.out.lt.2 BY.out.row)
        obtain ⟨VBX4, hU⟩ : ∃ U : World, U = x9.setCell ⟨w.heap.size + 2, 2, none⟩ (.slice ABX4 X2.length cBX4) := ⟨_, rfl⟩
        rw [← hU] at BN
        have RWz := Lib.hid (show VBX4.heap[w.heap.size]? = some _ by rw [hU]; exact row_far (BY.out.row2 hg9 (by omega) RW.out) (by omega) _)
        have RRz := Lib.hid (show VBX4.heap[w.heap.size + 1]? = some _ by rw [hU]; exact row_far (BY.out.row2 hg9 (by omega) RR.out) (by omega) _)
        have f9 := row_c N9.out (i := 2) rfl
        have q9 := frozen_of_row _ _ 2 _ _ N9.out
        clear ho9 hg9 hn9 hA2 hc2 BY N9 BX RW RR
        have BX := BN
        clear BN
        have RW := RWz
        clear RWz
        have RR := RRz
        clear RRz
        have HU := Lib.hid hU
        clear hU RK
        go_upto_region 17 with (fail)
        rw [← HU.out]
        clear HU f9 q9
        refine wp_operands (W := VBX4) rfl 6 [98, 99, 100, 101, 102, 103] (fun i u x => match i with | 0 => u = .pointer (some ⟨w.heap.size + 2, 1, none⟩) | 1 => u = .slice ABX2 Z2.length cBX2 | 2 => u = .pointer (some ⟨w.heap.size, 1, none⟩) | 3 => u = .slice A ks.length c | 4 => u = .int .i64 (k : Int) | 5 => u = .slice Kb (ks.length - k) cb | _ => True) (fun _ => false)
          (by decide) rfl (by kernel_rfl) (by kernel_rfl) (by decide) (by kernel_rfl) ?_ (fun _ _ _ h => by cases h) ?_ ?_
        · intro i u x x' hi hR hb'
          have hi' : i = 0 ∨ i = 1 ∨ i = 2 ∨ i = 3 ∨ i = 4 ∨ i = 5 := by omega
          rcases hi' with rfl | rfl | rfl | rfl | rfl | rfl
          · exact hR
          · exact hR
          · exact hR
          · exact hR
          · exact hR
          · exact hR
        · intro i av x K hi hF hb' hw hK
          have hi' : i = 0 ∨ i = 1 ∨ i = 2 ∨ i = 3 ∨ i = 4 ∨ i = 5 := by omega
          rcases hi' with rfl | rfl | rfl | rfl | rfl | rfl
          · simp only [wpOp, List.getElem?_toArray, List.getElem?_cons_zero, Region.wanted, if_true]
            refine Or.inl ?_
            have e0 : av.tmps.getD 7 undef = .pointer (some ⟨w.heap.size + 2, 0, none⟩) := hF.2.2 7 (by decide)
            have e0e : av.eval (.tmp 7) = .pointer (some ⟨w.heap.size + 2, 0, none⟩) := e0
            have e0g : av.tmps[7]?.getD undef = .pointer (some ⟨w.heap.size + 2, 0, none⟩) := by have := e0; simp only [Array.getD_eq_getD_getElem?] at this; exact this
            clear hw hF
            simp only [Oper.wp, execOp]
            try simp only [e0e]
            go_simp
            exact hK _ x (by first | rfl | (simp only [Nat.add_zero]; done) | (congr 1; omega)) (Below.refl _ _) (fun h => by cases h)
          · simp only [wpOp, List.getElem?_toArray, List.getElem?_cons_succ, List.getElem?_cons_zero, Region.wanted, if_true]
            refine Or.inl ?_
            have e0 : av.tmps.getD 98 undef = .pointer (some ⟨w.heap.size + 2, 1, none⟩) := (hw 0 (by kernel_rfl))
            have e0e : av.eval (.tmp 98) = .pointer (some ⟨w.heap.size + 2, 1, none⟩) := e0
            have e0g : av.tmps[98]?.getD undef = .pointer (some ⟨w.heap.size + 2, 1, none⟩) := by have := e0; simp only [Array.getD_eq_getD_getElem?] at this; exact this
            obtain ⟨fo0, fo1, fo2⟩ := BX.out.f hb'
            clear hw hF
            simp only [Oper.wp, execOp]
            try simp only [e0e]
            go_simp
            exact hK _ x (by first | rfl | (simp only [Nat.add_zero]; done) | (congr 1; omega)) (Below.refl _ _) (fun h => by cases h)
          · simp only [wpOp, List.getElem?_toArray, List.getElem?_cons_succ, List.getElem?_cons_zero, Region.wanted, if_true]
            refine Or.inl ?_
            have e0 : av.tmps.getD 3 undef = .pointer (some ⟨w.heap.size, 0, none⟩) := hF.2.2 3 (by decide)
            have e0e : av.eval (.tmp 3) = .pointer (some ⟨w.heap.size, 0, none⟩) := e0
            have e0g : av.tmps[3]?.getD undef = .pointer (some ⟨w.heap.size, 0, none⟩) := by have := e0; simp only [Array.getD_eq_getD_getElem?] at this; exact this
            clear hw hF
            simp only [Oper.wp, execOp]
            try simp only [e0e]
            go_simp
            exact hK _ x (by first | rfl | (simp only [Nat.add_zero]; done) | (congr 1; omega)) (Below.refl _ _) (fun h => by cases h)
          · simp only [wpOp, List.getElem?_toArray, List.getElem?_cons_succ, List.getElem?_cons_zero, Region.wanted, if_true]
            refine Or.inl ?_
            have e0 : av.tmps.getD 100 undef = .pointer (some ⟨w.heap.size, 1, none⟩) := (hw 2 (by kernel_rfl))
            have e0e : av.eval (.tmp 100) = .pointer (some ⟨w.heap.size, 1, none⟩) := e0
            have e0g : av.tmps[100]?.getD undef = .pointer (some ⟨w.heap.size, 1, none⟩) := by have := e0; simp only [Array.getD_eq_getD_getElem?] at this; exact this
            have fn := row_c (row_on RW.out hb') (i := 1) rfl
            clear hw hF
            simp only [Oper.wp, execOp]
            try simp only [e0e]
            go_simp
            exact hK _ x (by first | rfl | (simp only [Nat.add_zero]; done) | (congr 1; omega)) (Below.refl _ _) (fun h => by cases h)
          · simp only [wpOp, List.getElem?_toArray, List.getElem?_cons_succ, List.getElem?_cons_zero, Region.wanted, if_true]
            refine Or.inl ?_
            have e0 : av.tmps.getD 8 undef = .int .i64 (k : Int) := hF.2.2 8 (by decide)
            have e0e : av.eval (.tmp 8) = .int .i64 (k : Int) := e0
            have e0g : av.tmps[8]?.getD undef = .int .i64 (k : Int) := by have := e0; simp only [Array.getD_eq_getD_getElem?] at this; exact this
            clear hw hF
            simp only [Oper.wp, execOp]
            try simp only [e0e]
            go_simp
            exact hK _ x (by first | rfl | (simp only [Nat.add_zero]; done) | (congr 1; omega)) (Below.refl _ _) (fun h => by cases h)
          · simp only [wpOp, List.getElem?_toArray, List.getElem?_cons_succ, List.getElem?_cons_zero, Region.wanted, if_true]
            refine Or.inl ?_
            have e0 : av.tmps.getD 101 undef = .slice A ks.length c := (hw 3 (by kernel_rfl))
            have e0e : av.eval (.tmp 101) = .slice A ks.length c := e0
            have e0g : av.tmps[101]?.getD undef = .slice A ks.length c := by have := e0; simp only [Array.getD_eq_getD_getElem?] at this; exact this
            have e1 : av.tmps.getD 102 undef = .int .i64 (k : Int) := (hw 4 (by kernel_rfl))
            have e1e : av.eval (.tmp 102) = .int .i64 (k : Int) := e1
            have e1g : av.tmps[102]?.getD undef = .int .i64 (k : Int) := by have := e1; simp only [Array.getD_eq_getD_getElem?] at this; exact this
            clear hw hF
            simp only [Oper.wp, execOp]
            try simp only [e0e, e1e]
            go_simp
            exact hK _ x (by first | rfl | (simp only [Nat.add_zero]; done) | (congr 1; omega)) (Below.refl _ _) (fun h => by cases h)
        intro av x hF hb' hR _
        have e0 : av.tmps.getD 98 undef = .pointer (some ⟨w.heap.size + 2, 1, none⟩) := hR 0 (by decide)
        have e1 : av.tmps.getD 99 undef = .slice ABX2 Z2.length cBX2 := hR 1 (by decide)
        have e2 : av.tmps.getD 100 undef = .pointer (some ⟨w.heap.size, 1, none⟩) := hR 2 (by decide)
        have e3 : av.tmps.getD 101 undef = .slice A ks.length c := hR 3 (by decide)
        have e4 : av.tmps.getD 102 undef = .int .i64 (k : Int) := hR 4 (by decide)
        have e5 : av.tmps.getD 103 undef = .slice Kb (ks.length - k) cb := hR 5 (by decide)
        rw [hF.fold (by kernel_rfl)]
        simp only [List.foldl_cons, List.foldl_nil, e0, e1, e2, e3, e4, e5]
        simp only [Act.put, List.setIfInBounds_toArray, List.set_cons_zero, List.set_cons_succ]
        change wpOps _ _ _ [6, 7, 8] _ _
        simp only [wpOps_cons]
        clear e0 e1 e2 e3 e4 e5 hR hF
        have BY := Lib.hid (BX.out.below hb')
        have RW := Lib.hid (row_on RW.out hb')
        have RR := Lib.hid (row_on RR.out hb')
        clear hb'
        simp only [wpOp, List.getElem?_toArray, List.getElem?_cons_succ, List.getElem?_cons_zero, Region.wanted, if_true]
        refine Or.inl ?_
        refine wp_append2 sv_one et_s (.tmp 99) (.tmp 103) rfl (w.heap.size + 3) (.slice ABX2 Z2.length cBX2) Z2 y3 Z3 Kb cb (ks.length - k) rfl BY.out.o1 (RKB.out _ BY.out.kb) L3.out rfl EK.out.2.2 BN.out.2.2.1 BY.out.bz ?_
        intro A9 c9 x9 ho9 hg9 hn9
        obtain ⟨ABX5, hA2⟩ : ∃ z, A9 = z := ⟨_, rfl⟩
        obtain ⟨cBX5, hc2⟩ : ∃ z, c9 = z := ⟨_, rfl⟩
        rw [hA2, hc2] at ho9 hn9 ⊢
        have BN := Lib.hid (BY.out.push1 ho9 hg9 hn9)
        have N9 := Lib.hid (BY.out.row1 hg9 BY.out.lt.2 BY.out.row)
        obtain ⟨VBX5, hU⟩ : ∃ U : World, U = x9.setCell ⟨w.heap.size + 2, 1, none⟩ (.slice ABX5 Z3.length cBX5) := ⟨_, rfl⟩
        rw [← hU] at BN
        have RWz := Lib.hid (show VBX5.heap[w.heap.size]? = some _ by rw [hU]; exact row_far (BY.out.row1 hg9 (by omega) RW.out) (by omega) _)
        have RRz := Lib.hid (show VBX5.heap[w.heap.size + 1]? = some _ by rw [hU]; exact row_far (BY.out.row1 hg9 (by omega) RR.out) (by omega) _)
        have f9 := row_c N9.out (i := 1) rfl
        have q9 := frozen_of_row _ _ 1 _ _ N9.out
        clear ho9 hg9 hn9 hA2 hc2 BY N9 BX RW RR
        have BX := BN
        clear BN
        have RW := RWz
        clear RWz
        have RR := RRz
        clear RRz
        go_simp
        try rw [wpOps_cons]
        simp only [wpOp, List.getElem?_toArray, List.getElem?_cons_succ, List.getElem?_cons_zero, Region.wanted, if_true]
        refine Or.inl ?_
        simp only [Oper.wp, execOp]
        go_simp
        try rw [wpOps_cons]
        simp only [wpOp, List.getElem?_toArray, List.getElem?_cons_succ, List.getElem?_cons_zero, Region.wanted, if_true]
        refine Or.inl ?_
        simp only [Oper.wp, execOp]
        go_simp
        try simp only [wpOps]
        rw [← hU]
        clear hU f9 q9
        go_upto_region 18 with (fail)
        refine wp_operands (W := VBX5) rfl 6 [106, 107, 108, 109, 110, 111] (fun i u x => match i with | 0 => u = .pointer (some ⟨w.heap.size + 2, 2, none⟩) | 1 => u = .slice ABX4 X2.length cBX4 | 2 => u = .pointer (some ⟨w.heap.size, 2, none⟩) | 3 => u = .slice B ds.length d | 4 => u = .int .i64 (k : Int) | 5 => u = .slice Db (ds.length - k) db | _ => True) (fun _ => false)
          (by decide) rfl (by kernel_rfl) (by kernel_rfl) (by decide) (by kernel_rfl) ?_ (fun _ _ _ h => by cases h) ?_ ?_
        · intro i u x x' hi hR hb'
          have hi' : i = 0 ∨ i = 1 ∨ i = 2 ∨ i = 3 ∨ i = 4 ∨ i = 5 := by omega
          rcases hi' with rfl | rfl | rfl | rfl | rfl | rfl
          · exact hR
          · exact hR
          · exact hR
          · exact hR
          · exact hR
          · exact hR
        · intro i av x K hi hF hb' hw hK
          have hi' : i = 0 ∨ i = 1 ∨ i = 2 ∨ i = 3 ∨ i = 4 ∨ i = 5 := by omega
          rcases hi' with rfl | rfl | rfl | rfl | rfl | rfl
          · simp only [wpOp, List.getElem?_toArray, List.getElem?_cons_zero, Region.wanted, if_true]
            refine Or.inl ?_
            have e0 : av.tmps.getD 7 undef = .pointer (some ⟨w.heap.size + 2, 0, none⟩) := hF.2.2 7 (by decide)
            have e0e : av.eval (.tmp 7) = .pointer (some ⟨w.heap.size + 2, 0, none⟩) := e0
            have e0g : av.tmps[7]?.getD undef = .pointer (some ⟨w.heap.size + 2, 0, none⟩) := by have := e0; simp only [Array.getD_eq_getD_getElem?] at this; exact this
            clear hw hF
            simp only [Oper.wp, execOp]
            try simp only [e0e]
            go_simp
            exact hK _ x (by first | rfl | (simp only [Nat.add_zero]; done) | (congr 1; omega)) (Below.refl _ _) (fun h => by cases h)
          · simp only [wpOp, List.getElem?_toArray, List.getElem?_cons_succ, List.getElem?_cons_zero, Region.wanted, if_true]
            refine Or.inl ?_
            have e0 : av.tmps.getD 106 undef = .pointer (some ⟨w.heap.size + 2, 2, none⟩) := (hw 0 (by kernel_rfl))
            have e0e : av.eval (.tmp 106) = .pointer (some ⟨w.heap.size + 2, 2, none⟩) := e0
            have e0g : av.tmps[106]?.getD undef = .pointer (some ⟨w.heap.size + 2, 2, none⟩) := by have := e0; simp only [Array.getD_eq_getD_getElem?] at this; exact this
            obtain ⟨fo0, fo1, fo2⟩ := BX.out.f hb'
            clear hw hF
            simp only [Oper.wp, execOp]
            try simp only [e0e]
            go_simp
            exact hK _ x (by first | rfl | (simp only [Nat.add_zero]; done) | (congr 1; omega)) (Below.refl _ _) (fun h => by cases h)
          · simp only [wpOp, List.getElem?_toArray, List.getElem?_cons_succ, List.getElem?_cons_zero, Region.wanted, if_true]
            refine Or.inl ?_
            have e0 : av.tmps.getD 3 undef = .pointer (some ⟨w.heap.size, 0, none⟩) := hF.2.2 3 (by decide)
            have e0e : av.eval (.tmp 3) = .pointer (some ⟨w.heap.size, 0, none⟩) := e0
            have e0g : av.tmps[3]?.getD undef = .pointer (some ⟨w.heap.size, 0, none⟩) := by have := e0; simp only [Array.getD_eq_getD_getElem?] at this; exact this
            clear hw hF
            simp only [Oper.wp, execOp]
            try simp only [e0e]
            go_simp
            exact hK _ x (by first | rfl | (simp only [Nat.add_zero]; done) | (congr 1; omega)) (Below.refl _ _) (fun h => by cases h)
          · simp only [wpOp, List.getElem?_toArray, List.getElem?_cons_succ, List.getElem?_cons_zero, Region.wanted, if_true]
            refine Or.inl ?_
            have e0 : av.tmps.getD 108 undef = .pointer (some ⟨w.heap.size, 2, none⟩) := (hw 2 (by kernel_rfl))
            have e0e : av.eval (.tmp 108) = .pointer (some ⟨w.heap.size, 2, none⟩) := e0
            have e0g : av.tmps[108]?.getD undef = .pointer (some ⟨w.heap.size, 2, none⟩) := by have := e0; simp only [Array.getD_eq_getD_getElem?] at this; exact this
            have fn := row_c (row_on RW.out hb') (i := 2) rfl
            clear hw hF
            simp only [Oper.wp, execOp]
            try simp only [e0e]
            go_simp
            exact hK _ x (by first | rfl | (simp only [Nat.add_zero]; done) | (congr 1; omega)) (Below.refl _ _) (fun h => by cases h)
          · simp only [wpOp, List.getElem?_toArray, List.getElem?_cons_succ, List.getElem?_cons_zero, Region.wanted, if_true]
            refine Or.inl ?_
            have e0 : av.tmps.getD 10 undef = .int .i64 (k : Int) := hF.2.2 10 (by decide)
            have e0e : av.eval (.tmp 10) = .int .i64 (k : Int) := e0
            have e0g : av.tmps[10]?.getD undef = .int .i64 (k : Int) := by have := e0; simp only [Array.getD_eq_getD_getElem?] at this; exact this
            clear hw hF
            simp only [Oper.wp, execOp]
            try simp only [e0e]
            go_simp
            exact hK _ x (by first | rfl | (simp only [Nat.add_zero]; done) | (congr 1; omega)) (Below.refl _ _) (fun h => by cases h)
          · simp only [wpOp, List.getElem?_toArray, List.getElem?_cons_succ, List.getElem?_cons_zero, Region.wanted, if_true]
            refine Or.inl ?_
            have e0 : av.tmps.getD 109 undef = .slice B ds.length d := (hw 3 (by kernel_rfl))
            have e0e : av.eval (.tmp 109) = .slice B ds.length d := e0
            have e0g : av.tmps[109]?.getD undef = .slice B ds.length d := by have := e0; simp only [Array.getD_eq_getD_getElem?] at this; exact this
            have e1 : av.tmps.getD 110 undef = .int .i64 (k : Int) := (hw 4 (by kernel_rfl))
            have e1e : av.eval (.tmp 110) = .int .i64 (k : Int) := e1
            have e1g : av.tmps[110]?.getD undef = .int .i64 (k : Int) := by have := e1; simp only [Array.getD_eq_getD_getElem?] at this; exact this
            clear hw hF
            simp only [Oper.wp, execOp]
            try simp only [e0e, e1e]
            go_simp
            exact hK _ x (by first | rfl | (simp only [Nat.add_zero]; done) | (congr 1; omega)) (Below.refl _ _) (fun h => by cases h)
        intro av x hF hb' hR _
        have e0 : av.tmps.getD 106 undef = .pointer (some ⟨w.heap.size + 2, 2, none⟩) := hR 0 (by decide)
        have e1 : av.tmps.getD 107 undef = .slice ABX4 X2.length cBX4 := hR 1 (by decide)
        have e2 : av.tmps.getD 108 undef = .pointer (some ⟨w.heap.size, 2, none⟩) := hR 2 (by decide)
        have e3 : av.tmps.getD 109 undef = .slice B ds.length d := hR 3 (by decide)
        have e4 : av.tmps.getD 110 undef = .int .i64 (k : Int) := hR 4 (by decide)
        have e5 : av.tmps.getD 111 undef = .slice Db (ds.length - k) db := hR 5 (by decide)
        rw [hF.fold (by kernel_rfl)]
        simp only [List.foldl_cons, List.foldl_nil, e0, e1, e2, e3, e4, e5]
        simp only [Act.put, List.setIfInBounds_toArray, List.set_cons_zero, List.set_cons_succ]
        change wpOps _ _ _ [6, 7, 8] _ _
        simp only [wpOps_cons]
        clear e0 e1 e2 e3 e4 e5 hR hF
        have BY := Lib.hid (BX.out.below hb')
        have RW := Lib.hid (row_on RW.out hb')
        have RR := Lib.hid (row_on RR.out hb')
        clear hb'
        simp only [wpOp, List.getElem?_toArray, List.getElem?_cons_succ, List.getElem?_cons_zero, Region.wanted, if_true]
        refine Or.inl ?_
        refine wp_append2 nv_one et_i (.tmp 107) (.tmp 111) rfl (w.heap.size + 3) (.slice ABX4 X2.length cBX4) X2 u3 X3 Db db (ds.length - k) rfl BY.out.o2 (RDB.out _ BY.out.kb) L4.out rfl EQ.out.2.2 BN.out.2.2.2.2.2 BY.out.bz ?_
        intro A9 c9 x9 ho9 hg9 hn9
        obtain ⟨ABX6, hA2⟩ : ∃ z, A9 = z := ⟨_, rfl⟩
        obtain ⟨cBX6, hc2⟩ : ∃ z, c9 = z := ⟨_, rfl⟩
        rw [hA2, hc2] at ho9 hn9 ⊢
        have BN := Lib.hid (BY.out.push2 ho9 hg9 hn9)
        have N9 := Lib.hid (BY.out.row2 hg9 BY.out.lt.2 BY.out.row)
        obtain ⟨VBX6, hU⟩ : ∃ U : World, U = x9.setCell ⟨w.heap.size + 2, 2, none⟩ (.slice ABX6 X3.length cBX6) := ⟨_, rfl⟩
        rw [← hU] at BN
        have RWz := Lib.hid (show VBX6.heap[w.heap.size]? = some _ by rw [hU]; exact row_far (BY.out.row2 hg9 (by omega) RW.out) (by omega) _)
        have RRz := Lib.hid (show VBX6.heap[w.heap.size + 1]? = some _ by rw [hU]; exact row_far (BY.out.row2 hg9 (by omega) RR.out) (by omega) _)
        have f9 := row_c N9.out (i := 2) rfl
        have q9 := frozen_of_row _ _ 2 _ _ N9.out
        clear ho9 hg9 hn9 hA2 hc2 BY N9 BX RW RR
        have BX := BN
        clear BN
        have RW := RWz
        clear RWz
        have RR := RRz
        clear RRz
        go_simp
        try rw [wpOps_cons]
        simp only [wpOp, List.getElem?_toArray, List.getElem?_cons_succ, List.getElem?_cons_zero, Region.wanted, if_true]
        refine Or.inl ?_
        simp only [Oper.wp, execOp]
        go_simp
        try rw [wpOps_cons]
        simp only [wpOp, List.getElem?_toArray, List.getElem?_cons_succ, List.getElem?_cons_zero, Region.wanted, if_true]
        refine Or.inl ?_
        simp only [Oper.wp, execOp]
        go_simp
        try simp only [wpOps]
        rw [← hU]
        clear hU f9 q9
        obtain ⟨fo0, fo1, fo2⟩ := BX.out.f (Below.refl _ _)
        have p0 := row_c RR.out (i := 0) rfl
        have p1 := row_c RR.out (i := 1) rfl
        have p2 := row_c RR.out (i := 2) rfl
        have y0 := frozen_of_row _ _ 0 _ _ RR.out
        have y1 := frozen_of_row _ _ 1 _ _ RR.out
        have y2 := frozen_of_row _ _ 2 _ _ RR.out
        go_wp2
        refine bodyPost_ret (v := .agg #[.bool true, .slice ABX5 Z3.length cBX5, .slice ABX6 X3.length cBX6]) (by simp [results, Try.results26, go_sem, p0, p1, p2]) rfl ⟨ABX5, cBX5, ABX6, cBX6, rfl, ?_, ?_, ?_⟩
        · exact ((BX.out.rl.1.set BX.out.rl.2.2.1 (by omega) _ _).set BX.out.rl.2.2.1 (by omega) _ _).set BX.out.rl.2.2.1 (by omega) _ _
        · exact ((BX.out.rl.2.1.set BX.out.rl.2.2.2 (by omega) _ _).set BX.out.rl.2.2.2 (by omega) _ _).set BX.out.rl.2.2.2 (by omega) _ _
        · exact ((BX.out.kb.setCell (by simp) _).setCell (by simp) _).setCell (by simp) _
set_option maxHeartbeats 4000000 in
set_option maxRecDepth 100000 in
theorem rput_tt (A : Option Addr) (c : Nat) (ks : List (List UInt8)) (B : Option Addr) (d : Nat) (ds : List Int) (key : List UInt8) (kid : Int) (w : World) (h : Rl sv w A c ks) (h2 : Rl nv w B d ds) (hl : ks.length ≤ 3999990) (hsd : ds.length = ks.length)
    (n0 n1 n2 : Nat) (hi : lbK key ks = n0) (ht : thereB key ks = true) (hj : n0 + 1 = n1) (hj1 : n1 + 1 = n2) (y1 y3 Z1 Z2 Z3 : List (List UInt8)) (u1 u3 X1 X2 X3 : List Int)
    (e1 : ks.take n0 = y1) (e3 : ks.drop n1 = y3) (E1 : [] ++ y1 = Z1) (E2 : Z1 ++ [key] = Z2) (E3 : Z2 ++ y3 = Z3) (q1 : ds.take n0 = u1) (q3 : ds.drop n1 = u3) (Q1 : [] ++ u1 = X1) (Q2 : X1 ++ [kid] = X2) (Q3 : X2 ++ u3 = X3) :
    Calls Try.prog 26 #[.agg #[.bool true, .slice A ks.length c, .slice B ds.length d], sv key, .int .i64 kid] w fun e w' => ∃ A' c' B' d', e = .returned (.agg #[.bool true, .slice A' Z3.length c', .slice B' X3.length d']) ∧ Rl sv w' A' c' Z3 ∧ Rl nv w' B' d' X3 ∧ Below w.heap.size w w' := by
  have hil : n0 ≤ ks.length := by rw [← hi]; exact lbK_le key ks
  have hit : true = true → n0 < ks.length := fun h => by
    have h3 : thereB key ks = true := ht.trans h
    rw [← hi]
    exact (List.getElem?_eq_some_iff.1 (there_spec.1 h3)).1
  obtain ⟨Ka, ca, hka, rka⟩ := cut_to et_s (g := sv) A c ks n0 (by omega) h.1
  obtain ⟨Da, da, hda, rda⟩ := cut_to et_i (g := nv) B d ds n0 (by omega) h2.1
  obtain ⟨Kb, cb, hkb, rkb⟩ := cut_from et_s (g := sv) A c ks n1 (by have := hit; simp at this; omega) h.1
  obtain ⟨Db, db, hdb, rdb⟩ := cut_from et_i (g := nv) B d ds n1 (by have := hit; simp at this; omega) h2.1
  rw [e1] at rka
  rw [q1] at rda
  rw [e3] at rkb
  rw [q3] at rdb
  have L1 := Lib.hid (show n0 = y1.length by rw [← e1, List.length_take]; omega)
  have L2 := Lib.hid (show n0 = u1.length by rw [← q1, List.length_take]; have := hit; simp at this; omega)
  have L3 := Lib.hid (show ks.length - n1 = y3.length by rw [← e3, List.length_drop])
  have L4 := Lib.hid (show ds.length - n1 = u3.length by rw [← q3, List.length_drop])
  have EK := Lib.hid (And.intro E1 (And.intro E2 E3))
  have EQ := Lib.hid (And.intro Q1 (And.intro Q2 Q3))
  have BN := Lib.hid (show Z1.length ≤ 4000000 ∧ Z2.length ≤ 4000000 ∧ Z3.length ≤ 4000000 ∧ X1.length ≤ 4000000 ∧ X2.length ≤ 4000000 ∧ X3.length ≤ 4000000 by
    have h1 := L1.out; have h2 := L2.out; have h3 := L3.out; have h4 := L4.out
    rw [← E3, ← E2, ← E1, ← Q3, ← Q2, ← Q1]
    simp only [List.length_append, List.length_nil, List.length_singleton]
    omega)
  have RKA := Lib.hid (fun V (hV : Below w.heap.size w V) => rka V (h.below hV))
  have RDA := Lib.hid (fun V (hV : Below w.heap.size w V) => rda V (h2.below hV))
  have RKB := Lib.hid (fun V (hV : Below w.heap.size w V) => rkb V (h.below hV))
  have RDB := Lib.hid (fun V (hV : Below w.heap.size w V) => rdb V (h2.below hV))
  have w1 : IntKind.i64.wrap ((n0 : Int) + 1) = (n1 : Int) := by rw [IntWalk.i64_in _ (by omega)]; omega
  have w2 : IntKind.i64.wrap ((n1 : Int) + 1) = (n2 : Int) := by rw [IntWalk.i64_in _ (by omega)]; omega
  have H := Lib.hid h
  have HI := Lib.hid hi
  have HT := Lib.hid ht
  clear h h2 hsd hi ht hj hj1 e1 e3 E1 E2 E3 q1 q3 Q1 Q2 Q3 rka rda rkb rdb hit hil
  obtain ⟨b1, hb1⟩ : ∃ x : Bool, x = true := ⟨_, rfl⟩
  clear b1 hb1
  unfold sv
  go_enter Try.func26, Try.ntmps26
  go_wp2_with fail
  obtain ⟨W, hW⟩ : ∃ W : World, W = ((w.alloc (.cells #[.bool true, .slice A ks.length c, .slice B ds.length d] 33)).alloc (.cells #[.bool false, .slice none 0 0, .slice none 0 0] 33)).alloc (.cells #[.bool true, .slice none 0 0, .slice none 0 0] 33) := ⟨_, rfl⟩
  have RW := Lib.hid (show W.heap[w.heap.size]? = some (.cells #[.bool true, .slice A ks.length c, .slice B ds.length d] 33 (0, 0)) by rw [hW]; exact row_on (row_on (heap_alloc_new w _) (bda _ _)) (bda _ _))
  have RR := Lib.hid (show W.heap[w.heap.size + 1]? = some (.cells #[.bool false, .slice none 0 0, .slice none 0 0] 33 (0, 0)) by rw [hW]; have := row_on (heap_alloc_new (w.alloc (.cells #[.bool true, .slice A ks.length c, .slice B ds.length d] 33)) (.cells #[.bool false, .slice none 0 0, .slice none 0 0] 33)) (bda _ (.cells #[.bool true, .slice none 0 0, .slice none 0 0] 33)); simpa using this)
  have RO := Lib.hid (show W.heap[w.heap.size + 2]? = some (.cells #[.bool true, .slice none 0 0, .slice none 0 0] 33 (0, 0)) by rw [hW]; have := heap_alloc_new ((w.alloc (.cells #[.bool true, .slice A ks.length c, .slice B ds.length d] 33)).alloc (.cells #[.bool false, .slice none 0 0, .slice none 0 0] 33)) (.cells #[.bool true, .slice none 0 0, .slice none 0 0] 33); simpa using this)
  have B1 := Lib.hid (show Below w.heap.size w W by rw [hW]; exact bon (bon (bda _ _) (bda _ _)) (bda _ _))
  rw [← hW]
  clear hW
  go_loopw [8] (fun i wr => ∃ k : Nat, k ≤ n0 ∧ i = .int .i64 k ∧ Hid (Below W.heap.size W wr)) (fun i _ => ks.length - (intOf i).toNat)
  case atStart => exact ⟨0, Nat.zero_le _, rfl, Lib.hid (Below.refl _ _)⟩
  case round =>
    obtain ⟨k, hk, rfl, hb⟩ := hrel
    have KW := Lib.hid (show Below w.heap.size w wr from B1.out.trans (hb.out.mono B1.out.size))
    have f0 := row_c (row_on RW.out hb.out) (i := 0) rfl
    have f1 := row_c (row_on RW.out hb.out) (i := 1) rfl
    have hkl : k ≤ ks.length := Nat.le_trans hk (by rw [← HI.out]; exact lbK_le key ks)
    by_cases hlt : k < n0
    · have k2 := Nat.lt_of_lt_of_le hlt (by rw [← HI.out]; exact lbK_le key ks)
      obtain ⟨x, hx⟩ := get_lt k2
      obtain ⟨b, off, hA, hbl, g2⟩ := (H.out.below KW.out).cell hx
      have LS := less_dec x key
      rw [decide_eq_true (lbK_below hx (by rw [HI.out]; exact hlt))] at LS
      have HLT := Lib.hid hlt
      unfold sv at g2
      have k0 : (0 : Int) ≤ (k : Int) := by omega
      have k1 : (k : Int) < (ks.length : Int) := by omega
      subst hA
      clear hx hlt hk
      go_wp2
      go_roundw
      case rel => exact ⟨k + 1, HLT.out, by go_num, hb⟩
      case measure => simp [intOf]; omega
    · obtain rfl : k = n0 := by omega
      clear hlt hk hl
      have hxx := there_spec.1 HT.out
      rw [HI.out] at hxx
      have hn := (List.getElem?_eq_some_iff.1 hxx).1
      obtain ⟨bq, oq, hA, hbl, g2⟩ := (H.out.below KW.out).cell hxx
      have LS := less_dec key key
      rw [decide_eq_false (lt_ir key)] at LS
      have k0 : (0 : Int) ≤ (k : Int) := by omega
      have k1 : (k : Int) < (ks.length : Int) := by omega
      have e1 : (key == key) = true := beq_self_eq_true key
      unfold sv at g2
      subst hA
      clear hxx hn
      have BX := Lib.hid (Bx.fresh (base := w.heap.size + 3) (row_on RO.out hb.out) KW.out (heap_lt (row_on RO.out hb.out)) ⟨by omega, by omega⟩)
      have RWx := Lib.hid (row_on RW.out hb.out)
      have RRx := Lib.hid (row_on RR.out hb.out)
      clear RW RR RO hb KW B1
      have RW := RWx
      have RR := RRx
      clear RWx RRx
      obtain ⟨Vs, hVs⟩ : ∃ z, wr = z := ⟨_, rfl⟩
      rw [hVs] at BX RW RR f0 f1 g2 hbl ⊢
      clear hVs
      go_upto_region 9 with (fail)
      clear f0 f1 g2 LS k0 k1 e1 hbl
      refine wp_operands (W := Vs) rfl 6 [50, 51, 52, 53, 54, 55] (fun i u x => match i with | 0 => u = .pointer (some ⟨w.heap.size + 2, 1, none⟩) | 1 => u = .slice none 0 0 | 2 => u = .pointer (some ⟨w.heap.size, 1, none⟩) | 3 => u = .slice (some ⟨bq, oq, none⟩) ks.length c | 4 => u = .int .i64 (k : Int) | 5 => u = .slice Ka (k) ca | _ => True) (fun _ => false)
        (by decide) rfl (by kernel_rfl) (by kernel_rfl) (by decide) (by kernel_rfl) ?_ (fun _ _ _ h => by cases h) ?_ ?_
      · intro i u x x' hi hR hb'
        have hi' : i = 0 ∨ i = 1 ∨ i = 2 ∨ i = 3 ∨ i = 4 ∨ i = 5 := by omega
        rcases hi' with rfl | rfl | rfl | rfl | rfl | rfl
        · exact hR
        · exact hR
        · exact hR
        · exact hR
        · exact hR
        · exact hR
      · intro i av x K hi hF hb' hw hK
        have hi' : i = 0 ∨ i = 1 ∨ i = 2 ∨ i = 3 ∨ i = 4 ∨ i = 5 := by omega
        rcases hi' with rfl | rfl | rfl | rfl | rfl | rfl
        · simp only [wpOp, List.getElem?_toArray, List.getElem?_cons_zero, Region.wanted, if_true]
          refine Or.inl ?_
          have e0 : av.tmps.getD 7 undef = .pointer (some ⟨w.heap.size + 2, 0, none⟩) := hF.2.2 7 (by decide)
          have e0e : av.eval (.tmp 7) = .pointer (some ⟨w.heap.size + 2, 0, none⟩) := e0
          have e0g : av.tmps[7]?.getD undef = .pointer (some ⟨w.heap.size + 2, 0, none⟩) := by have := e0; simp only [Array.getD_eq_getD_getElem?] at this; exact this
          clear hw hF
          simp only [Oper.wp, execOp]
          try simp only [e0e]
          go_simp
          exact hK _ x (by first | rfl | (simp only [Nat.add_zero]; done) | (congr 1; omega)) (Below.refl _ _) (fun h => by cases h)
        · simp only [wpOp, List.getElem?_toArray, List.getElem?_cons_succ, List.getElem?_cons_zero, Region.wanted, if_true]
          refine Or.inl ?_
          have e0 : av.tmps.getD 50 undef = .pointer (some ⟨w.heap.size + 2, 1, none⟩) := (hw 0 (by kernel_rfl))
          have e0e : av.eval (.tmp 50) = .pointer (some ⟨w.heap.size + 2, 1, none⟩) := e0
          have e0g : av.tmps[50]?.getD undef = .pointer (some ⟨w.heap.size + 2, 1, none⟩) := by have := e0; simp only [Array.getD_eq_getD_getElem?] at this; exact this
          obtain ⟨fo0, fo1, fo2⟩ := BX.out.f hb'
          clear hw hF
          simp only [Oper.wp, execOp]
          try simp only [e0e]
          go_simp
          exact hK _ x (by first | rfl | (simp only [Nat.add_zero]; done) | (congr 1; omega)) (Below.refl _ _) (fun h => by cases h)
        · simp only [wpOp, List.getElem?_toArray, List.getElem?_cons_succ, List.getElem?_cons_zero, Region.wanted, if_true]
          refine Or.inl ?_
          have e0 : av.tmps.getD 3 undef = .pointer (some ⟨w.heap.size, 0, none⟩) := hF.2.2 3 (by decide)
          have e0e : av.eval (.tmp 3) = .pointer (some ⟨w.heap.size, 0, none⟩) := e0
          have e0g : av.tmps[3]?.getD undef = .pointer (some ⟨w.heap.size, 0, none⟩) := by have := e0; simp only [Array.getD_eq_getD_getElem?] at this; exact this
          clear hw hF
          simp only [Oper.wp, execOp]
          try simp only [e0e]
          go_simp
          exact hK _ x (by first | rfl | (simp only [Nat.add_zero]; done) | (congr 1; omega)) (Below.refl _ _) (fun h => by cases h)
        · simp only [wpOp, List.getElem?_toArray, List.getElem?_cons_succ, List.getElem?_cons_zero, Region.wanted, if_true]
          refine Or.inl ?_
          have e0 : av.tmps.getD 52 undef = .pointer (some ⟨w.heap.size, 1, none⟩) := (hw 2 (by kernel_rfl))
          have e0e : av.eval (.tmp 52) = .pointer (some ⟨w.heap.size, 1, none⟩) := e0
          have e0g : av.tmps[52]?.getD undef = .pointer (some ⟨w.heap.size, 1, none⟩) := by have := e0; simp only [Array.getD_eq_getD_getElem?] at this; exact this
          have fn := row_c (row_on RW.out hb') (i := 1) rfl
          clear hw hF
          simp only [Oper.wp, execOp]
          try simp only [e0e]
          go_simp
          exact hK _ x (by first | rfl | (simp only [Nat.add_zero]; done) | (congr 1; omega)) (Below.refl _ _) (fun h => by cases h)
        · simp only [wpOp, List.getElem?_toArray, List.getElem?_cons_succ, List.getElem?_cons_zero, Region.wanted, if_true]
          refine Or.inl ?_
          have e0 : av.tmps.getD 8 undef = .int .i64 (k : Int) := hF.2.2 8 (by decide)
          have e0e : av.eval (.tmp 8) = .int .i64 (k : Int) := e0
          have e0g : av.tmps[8]?.getD undef = .int .i64 (k : Int) := by have := e0; simp only [Array.getD_eq_getD_getElem?] at this; exact this
          clear hw hF
          simp only [Oper.wp, execOp]
          try simp only [e0e]
          go_simp
          exact hK _ x (by first | rfl | (simp only [Nat.add_zero]; done) | (congr 1; omega)) (Below.refl _ _) (fun h => by cases h)
        · simp only [wpOp, List.getElem?_toArray, List.getElem?_cons_succ, List.getElem?_cons_zero, Region.wanted, if_true]
          refine Or.inl ?_
          have e0 : av.tmps.getD 53 undef = .slice (some ⟨bq, oq, none⟩) ks.length c := (hw 3 (by kernel_rfl))
          have e0e : av.eval (.tmp 53) = .slice (some ⟨bq, oq, none⟩) ks.length c := e0
          have e0g : av.tmps[53]?.getD undef = .slice (some ⟨bq, oq, none⟩) ks.length c := by have := e0; simp only [Array.getD_eq_getD_getElem?] at this; exact this
          have e1 : av.tmps.getD 54 undef = .int .i64 (k : Int) := (hw 4 (by kernel_rfl))
          have e1e : av.eval (.tmp 54) = .int .i64 (k : Int) := e1
          have e1g : av.tmps[54]?.getD undef = .int .i64 (k : Int) := by have := e1; simp only [Array.getD_eq_getD_getElem?] at this; exact this
          clear hw hF
          simp only [Oper.wp, execOp]
          try simp only [e0e, e1e]
          go_simp
          exact hK _ x (by first | rfl | (simp only [Nat.add_zero]; done) | (congr 1; omega)) (Below.refl _ _) (fun h => by cases h)
      intro av x hF hb' hR _
      have e0 : av.tmps.getD 50 undef = .pointer (some ⟨w.heap.size + 2, 1, none⟩) := hR 0 (by decide)
      have e1 : av.tmps.getD 51 undef = .slice none 0 0 := hR 1 (by decide)
      have e2 : av.tmps.getD 52 undef = .pointer (some ⟨w.heap.size, 1, none⟩) := hR 2 (by decide)
      have e3 : av.tmps.getD 53 undef = .slice (some ⟨bq, oq, none⟩) ks.length c := hR 3 (by decide)
      have e4 : av.tmps.getD 54 undef = .int .i64 (k : Int) := hR 4 (by decide)
      have e5 : av.tmps.getD 55 undef = .slice Ka (k) ca := hR 5 (by decide)
      rw [hF.fold (by kernel_rfl)]
      simp only [List.foldl_cons, List.foldl_nil, e0, e1, e2, e3, e4, e5]
      simp only [Act.put, List.setIfInBounds_toArray, List.set_cons_zero, List.set_cons_succ]
      change wpOps _ _ _ [6, 7, 8] _ _
      simp only [wpOps_cons]
      clear e0 e1 e2 e3 e4 e5 hR hF
      have BY := Lib.hid (BX.out.below hb')
      have RW := Lib.hid (row_on RW.out hb')
      have RR := Lib.hid (row_on RR.out hb')
      clear hb'
      simp only [wpOp, List.getElem?_toArray, List.getElem?_cons_succ, List.getElem?_cons_zero, Region.wanted, if_true]
      refine Or.inl ?_
      refine wp_append2 sv_one et_s (.tmp 51) (.tmp 55) rfl (w.heap.size + 3) (.slice none 0 0) ([] : List (List UInt8)) y1 Z1 Ka ca (k) rfl BY.out.o1 (RKA.out _ BY.out.kb) L1.out rfl EK.out.1 BN.out.1 BY.out.bz ?_
      intro A9 c9 x9 ho9 hg9 hn9
      obtain ⟨ABX1, hA2⟩ : ∃ z, A9 = z := ⟨_, rfl⟩
      obtain ⟨cBX1, hc2⟩ : ∃ z, c9 = z := ⟨_, rfl⟩
      rw [hA2, hc2] at ho9 hn9 ⊢
      have BN := Lib.hid (BY.out.push1 ho9 hg9 hn9)
      have N9 := Lib.hid (BY.out.row1 hg9 BY.out.lt.2 BY.out.row)
      obtain ⟨VBX1, hU⟩ : ∃ U : World, U = x9.setCell ⟨w.heap.size + 2, 1, none⟩ (.slice ABX1 Z1.length cBX1) := ⟨_, rfl⟩
      rw [← hU] at BN
      have RWz := Lib.hid (show VBX1.heap[w.heap.size]? = some _ by rw [hU]; exact row_far (BY.out.row1 hg9 (by omega) RW.out) (by omega) _)
      have RRz := Lib.hid (show VBX1.heap[w.heap.size + 1]? = some _ by rw [hU]; exact row_far (BY.out.row1 hg9 (by omega) RR.out) (by omega) _)
      have f9 := row_c N9.out (i := 1) rfl
      have q9 := frozen_of_row _ _ 1 _ _ N9.out
      clear ho9 hg9 hn9 hA2 hc2 BY N9 BX RW RR
      have BX := BN
      clear BN
      have RW := RWz
      clear RWz
      have RR := RRz
      clear RRz
      go_simp
      try rw [wpOps_cons]
      simp only [wpOp, List.getElem?_toArray, List.getElem?_cons_succ, List.getElem?_cons_zero, Region.wanted, if_true]
      refine Or.inl ?_
      simp only [Oper.wp, execOp]
      go_simp
      try rw [wpOps_cons]
      simp only [wpOp, List.getElem?_toArray, List.getElem?_cons_succ, List.getElem?_cons_zero, Region.wanted, if_true]
      refine Or.inl ?_
      simp only [Oper.wp, execOp]
      go_simp
      try simp only [wpOps]
      rw [← hU]
      clear hU f9 q9
      obtain ⟨Y, hY⟩ : ∃ Y : World, Y = VBX1.alloc (.cells #[.string ⟨key.toArray⟩] 9) := ⟨_, rfl⟩
      have HY := Lib.hid hY
      have BY := Lib.hid (show Bx w Y _ _ _ _ _ _ _ _ _ _ by rw [hY]; exact BX.out.below (bda _ _))
      have RK := Lib.hid (show Rl sv Y (some ⟨VBX1.heap.size, 0, none⟩) 1 [key] by rw [hY]; exact rl_of_row (g := sv) (xs := [key]) (heap_alloc_new _ _) 1 (Nat.le_refl _))
      have RW := Lib.hid (show Y.heap[_]? = some _ by rw [hY]; exact row_on RW.out (bda _ _))
      have RR := Lib.hid (show Y.heap[_]? = some _ by rw [hY]; exact row_on RR.out (bda _ _))
      obtain ⟨fo0, fo1, fo2⟩ := BX.out.f (Below.refl _ _)
      have SY := Lib.hid (show Y.heap.size = VBX1.heap.size + 1 by rw [hY]; simp)
      clear hY
      go_wp2_with (at_builtin; refine wpList_append2 sv_one et_s rfl _ _ rfl (w.heap.size + 3) (.slice ABX1 Z1.length cBX1) Z1 [key] Z2 (some ⟨VBX1.heap.size, 0, none⟩) 1 1 rfl (by rw [← HY.out]; exact BY.out.o1) (by rw [← HY.out]; exact RK.out) rfl rfl EK.out.2.1 BN.out.2.1 (by rw [← HY.out]; exact BY.out.bz) ?_)
      rw [← HY.out]
      clear HY fo0 fo1 fo2
      intro A9 c9 x9 ho9 hg9 hn9
      rw [← SY.out] at hn9
      clear SY
      obtain ⟨ABX2, hA2⟩ : ∃ z, A9 = z := ⟨_, rfl⟩
      obtain ⟨cBX2, hc2⟩ : ∃ z, c9 = z := ⟨_, rfl⟩
      rw [hA2, hc2] at ho9 hn9 ⊢
      have BN := Lib.hid (BY.out.push1 ho9 hg9 hn9)
      have N9 := Lib.hid (BY.out.row1 hg9 BY.out.lt.2 BY.out.row)
      obtain ⟨VBX2, hU⟩ : ∃ U : World, U = x9.setCell ⟨w.heap.size + 2, 1, none⟩ (.slice ABX2 Z2.length cBX2) := ⟨_, rfl⟩
      rw [← hU] at BN
      have RWz := Lib.hid (show VBX2.heap[w.heap.size]? = some _ by rw [hU]; exact row_far (BY.out.row1 hg9 (by omega) RW.out) (by omega) _)
      have RRz := Lib.hid (show VBX2.heap[w.heap.size + 1]? = some _ by rw [hU]; exact row_far (BY.out.row1 hg9 (by omega) RR.out) (by omega) _)
      have f9 := row_c N9.out (i := 1) rfl
      have q9 := frozen_of_row _ _ 1 _ _ N9.out
      clear ho9 hg9 hn9 hA2 hc2 BY N9 BX RW RR
      have BX := BN
      clear BN
      have RW := RWz
      clear RWz
      have RR := RRz
      clear RRz
      have HU := Lib.hid hU
      clear hU RK
      go_upto_region 11 with (fail)
      rw [← HU.out]
      clear HU f9 q9
      refine wp_operands (W := VBX2) rfl 6 [64, 65, 66, 67, 68, 69] (fun i u x => match i with | 0 => u = .pointer (some ⟨w.heap.size + 2, 2, none⟩) | 1 => u = .slice none 0 0 | 2 => u = .pointer (some ⟨w.heap.size, 2, none⟩) | 3 => u = .slice B ds.length d | 4 => u = .int .i64 (k : Int) | 5 => u = .slice Da (k) da | _ => True) (fun _ => false)
        (by decide) rfl (by kernel_rfl) (by kernel_rfl) (by decide) (by kernel_rfl) ?_ (fun _ _ _ h => by cases h) ?_ ?_
      · intro i u x x' hi hR hb'
        have hi' : i = 0 ∨ i = 1 ∨ i = 2 ∨ i = 3 ∨ i = 4 ∨ i = 5 := by omega
        rcases hi' with rfl | rfl | rfl | rfl | rfl | rfl
        · exact hR
        · exact hR
        · exact hR
        · exact hR
        · exact hR
        · exact hR
      · intro i av x K hi hF hb' hw hK
        have hi' : i = 0 ∨ i = 1 ∨ i = 2 ∨ i = 3 ∨ i = 4 ∨ i = 5 := by omega
        rcases hi' with rfl | rfl | rfl | rfl | rfl | rfl
        · simp only [wpOp, List.getElem?_toArray, List.getElem?_cons_zero, Region.wanted, if_true]
          refine Or.inl ?_
          have e0 : av.tmps.getD 7 undef = .pointer (some ⟨w.heap.size + 2, 0, none⟩) := hF.2.2 7 (by decide)
          have e0e : av.eval (.tmp 7) = .pointer (some ⟨w.heap.size + 2, 0, none⟩) := e0
          have e0g : av.tmps[7]?.getD undef = .pointer (some ⟨w.heap.size + 2, 0, none⟩) := by have := e0; simp only [Array.getD_eq_getD_getElem?] at this; exact this
          clear hw hF
          simp only [Oper.wp, execOp]
          try simp only [e0e]
          go_simp
          exact hK _ x (by first | rfl | (simp only [Nat.add_zero]; done) | (congr 1; omega)) (Below.refl _ _) (fun h => by cases h)
        · simp only [wpOp, List.getElem?_toArray, List.getElem?_cons_succ, List.getElem?_cons_zero, Region.wanted, if_true]
          refine Or.inl ?_
          have e0 : av.tmps.getD 64 undef = .pointer (some ⟨w.heap.size + 2, 2, none⟩) := (hw 0 (by kernel_rfl))
          have e0e : av.eval (.tmp 64) = .pointer (some ⟨w.heap.size + 2, 2, none⟩) := e0
          have e0g : av.tmps[64]?.getD undef = .pointer (some ⟨w.heap.size + 2, 2, none⟩) := by have := e0; simp only [Array.getD_eq_getD_getElem?] at this; exact this
          obtain ⟨fo0, fo1, fo2⟩ := BX.out.f hb'
          clear hw hF
          simp only [Oper.wp, execOp]
          try simp only [e0e]
          go_simp
          exact hK _ x (by first | rfl | (simp only [Nat.add_zero]; done) | (congr 1; omega)) (Below.refl _ _) (fun h => by cases h)
        · simp only [wpOp, List.getElem?_toArray, List.getElem?_cons_succ, List.getElem?_cons_zero, Region.wanted, if_true]
          refine Or.inl ?_
          have e0 : av.tmps.getD 3 undef = .pointer (some ⟨w.heap.size, 0, none⟩) := hF.2.2 3 (by decide)
          have e0e : av.eval (.tmp 3) = .pointer (some ⟨w.heap.size, 0, none⟩) := e0
          have e0g : av.tmps[3]?.getD undef = .pointer (some ⟨w.heap.size, 0, none⟩) := by have := e0; simp only [Array.getD_eq_getD_getElem?] at this; exact this
          clear hw hF
          simp only [Oper.wp, execOp]
          try simp only [e0e]
          go_simp
          exact hK _ x (by first | rfl | (simp only [Nat.add_zero]; done) | (congr 1; omega)) (Below.refl _ _) (fun h => by cases h)
        · simp only [wpOp, List.getElem?_toArray, List.getElem?_cons_succ, List.getElem?_cons_zero, Region.wanted, if_true]
          refine Or.inl ?_
          have e0 : av.tmps.getD 66 undef = .pointer (some ⟨w.heap.size, 2, none⟩) := (hw 2 (by kernel_rfl))
          have e0e : av.eval (.tmp 66) = .pointer (some ⟨w.heap.size, 2, none⟩) := e0
          have e0g : av.tmps[66]?.getD undef = .pointer (some ⟨w.heap.size, 2, none⟩) := by have := e0; simp only [Array.getD_eq_getD_getElem?] at this; exact this
          have fn := row_c (row_on RW.out hb') (i := 2) rfl
          clear hw hF
          simp only [Oper.wp, execOp]
          try simp only [e0e]
          go_simp
          exact hK _ x (by first | rfl | (simp only [Nat.add_zero]; done) | (congr 1; omega)) (Below.refl _ _) (fun h => by cases h)
        · simp only [wpOp, List.getElem?_toArray, List.getElem?_cons_succ, List.getElem?_cons_zero, Region.wanted, if_true]
          refine Or.inl ?_
          have e0 : av.tmps.getD 10 undef = .int .i64 (k : Int) := hF.2.2 10 (by decide)
          have e0e : av.eval (.tmp 10) = .int .i64 (k : Int) := e0
          have e0g : av.tmps[10]?.getD undef = .int .i64 (k : Int) := by have := e0; simp only [Array.getD_eq_getD_getElem?] at this; exact this
          clear hw hF
          simp only [Oper.wp, execOp]
          try simp only [e0e]
          go_simp
          exact hK _ x (by first | rfl | (simp only [Nat.add_zero]; done) | (congr 1; omega)) (Below.refl _ _) (fun h => by cases h)
        · simp only [wpOp, List.getElem?_toArray, List.getElem?_cons_succ, List.getElem?_cons_zero, Region.wanted, if_true]
          refine Or.inl ?_
          have e0 : av.tmps.getD 67 undef = .slice B ds.length d := (hw 3 (by kernel_rfl))
          have e0e : av.eval (.tmp 67) = .slice B ds.length d := e0
          have e0g : av.tmps[67]?.getD undef = .slice B ds.length d := by have := e0; simp only [Array.getD_eq_getD_getElem?] at this; exact this
          have e1 : av.tmps.getD 68 undef = .int .i64 (k : Int) := (hw 4 (by kernel_rfl))
          have e1e : av.eval (.tmp 68) = .int .i64 (k : Int) := e1
          have e1g : av.tmps[68]?.getD undef = .int .i64 (k : Int) := by have := e1; simp only [Array.getD_eq_getD_getElem?] at this; exact this
          clear hw hF
          simp only [Oper.wp, execOp]
          try simp only [e0e, e1e]
          go_simp
          exact hK _ x (by first | rfl | (simp only [Nat.add_zero]; done) | (congr 1; omega)) (Below.refl _ _) (fun h => by cases h)
      intro av x hF hb' hR _
      have e0 : av.tmps.getD 64 undef = .pointer (some ⟨w.heap.size + 2, 2, none⟩) := hR 0 (by decide)
      have e1 : av.tmps.getD 65 undef = .slice none 0 0 := hR 1 (by decide)
      have e2 : av.tmps.getD 66 undef = .pointer (some ⟨w.heap.size, 2, none⟩) := hR 2 (by decide)
      have e3 : av.tmps.getD 67 undef = .slice B ds.length d := hR 3 (by decide)
      have e4 : av.tmps.getD 68 undef = .int .i64 (k : Int) := hR 4 (by decide)
      have e5 : av.tmps.getD 69 undef = .slice Da (k) da := hR 5 (by decide)
      rw [hF.fold (by kernel_rfl)]
      simp only [List.foldl_cons, List.foldl_nil, e0, e1, e2, e3, e4, e5]
      simp only [Act.put, List.setIfInBounds_toArray, List.set_cons_zero, List.set_cons_succ]
      change wpOps _ _ _ [6, 7, 8] _ _
      simp only [wpOps_cons]
      clear e0 e1 e2 e3 e4 e5 hR hF
      have BY := Lib.hid (BX.out.below hb')
      have RW := Lib.hid (row_on RW.out hb')
      have RR := Lib.hid (row_on RR.out hb')
      clear hb'
      simp only [wpOp, List.getElem?_toArray, List.getElem?_cons_succ, List.getElem?_cons_zero, Region.wanted, if_true]
      refine Or.inl ?_
      refine wp_append2 nv_one et_i (.tmp 65) (.tmp 69) rfl (w.heap.size + 3) (.slice none 0 0) ([] : List Int) u1 X1 Da da (k) rfl BY.out.o2 (RDA.out _ BY.out.kb) L2.out rfl EQ.out.1 BN.out.2.2.2.1 BY.out.bz ?_
      intro A9 c9 x9 ho9 hg9 hn9
      obtain ⟨ABX3, hA2⟩ : ∃ z, A9 = z := ⟨_, rfl⟩
      obtain ⟨cBX3, hc2⟩ : ∃ z, c9 = z := ⟨_, rfl⟩
      rw [hA2, hc2] at ho9 hn9 ⊢
      have BN := Lib.hid (BY.out.push2 ho9 hg9 hn9)
      have N9 := Lib.hid (BY.out.row2 hg9 BY.out.lt.2 BY.out.row)
      obtain ⟨VBX3, hU⟩ : ∃ U : World, U = x9.setCell ⟨w.heap.size + 2, 2, none⟩ (.slice ABX3 X1.length cBX3) := ⟨_, rfl⟩
      rw [← hU] at BN
      have RWz := Lib.hid (show VBX3.heap[w.heap.size]? = some _ by rw [hU]; exact row_far (BY.out.row2 hg9 (by omega) RW.out) (by omega) _)
      have RRz := Lib.hid (show VBX3.heap[w.heap.size + 1]? = some _ by rw [hU]; exact row_far (BY.out.row2 hg9 (by omega) RR.out) (by omega) _)
      have f9 := row_c N9.out (i := 2) rfl
      have q9 := frozen_of_row _ _ 2 _ _ N9.out
      clear ho9 hg9 hn9 hA2 hc2 BY N9 BX RW RR
      have BX := BN
      clear BN
      have RW := RWz
      clear RWz
      have RR := RRz
      clear RRz
      go_simp
      try rw [wpOps_cons]
      simp only [wpOp, List.getElem?_toArray, List.getElem?_cons_succ, List.getElem?_cons_zero, Region.wanted, if_true]
      refine Or.inl ?_
      simp only [Oper.wp, execOp]
      go_simp
      try rw [wpOps_cons]
      simp only [wpOp, List.getElem?_toArray, List.getElem?_cons_succ, List.getElem?_cons_zero, Region.wanted, if_true]
      refine Or.inl ?_
      simp only [Oper.wp, execOp]
      go_simp
      try simp only [wpOps]
      rw [← hU]
      clear hU f9 q9
      obtain ⟨Y, hY⟩ : ∃ Y : World, Y = VBX3.alloc (.cells #[.int .i64 kid] 3) := ⟨_, rfl⟩
      have HY := Lib.hid hY
      have BY := Lib.hid (show Bx w Y _ _ _ _ _ _ _ _ _ _ by rw [hY]; exact BX.out.below (bda _ _))
      have RK := Lib.hid (show Rl nv Y (some ⟨VBX3.heap.size, 0, none⟩) 1 [kid] by rw [hY]; exact rl_of_row (g := nv) (xs := [kid]) (heap_alloc_new _ _) 1 (Nat.le_refl _))
      have RW := Lib.hid (show Y.heap[_]? = some _ by rw [hY]; exact row_on RW.out (bda _ _))
      have RR := Lib.hid (show Y.heap[_]? = some _ by rw [hY]; exact row_on RR.out (bda _ _))
      obtain ⟨fo0, fo1, fo2⟩ := BX.out.f (Below.refl _ _)
      have SY := Lib.hid (show Y.heap.size = VBX3.heap.size + 1 by rw [hY]; simp)
      clear hY
      go_wp2_with (at_builtin; refine wpList_append2 nv_one et_i rfl _ _ rfl (w.heap.size + 3) (.slice ABX3 X1.length cBX3) X1 [kid] X2 (some ⟨VBX3.heap.size, 0, none⟩) 1 1 rfl (by rw [← HY.out]; exact BY.out.o2) (by rw [← HY.out]; exact RK.out) rfl rfl EQ.out.2.1 BN.out.2.2.2.2.1 (by rw [← HY.out]; exact BY.out.bz) ?_)
      rw [← HY.out]
      clear HY fo0 fo1 fo2
      intro A9 c9 x9 ho9 hg9 hn9
      rw [← SY.out] at hn9
      clear SY
      obtain ⟨ABX4, hA2⟩ : ∃ z, A9 = z := ⟨_, rfl⟩
      obtain ⟨cBX4, hc2⟩ : ∃ z, c9 = z := ⟨_, rfl⟩
      rw [hA2, hc2] at ho9 hn9 ⊢
      have BN := Lib.hid (BY.out.push2 ho9 hg9 hn9)
      have N9 := Lib.hid (BY.out.row2 hg9 BY.out.lt.2 BY.out.row)
      obtain ⟨VBX4, hU⟩ : ∃ U : World, U = x9.setCell ⟨w.heap.size + 2, 2, none⟩ (.slice ABX4 X2.length cBX4) := ⟨_, rfl⟩
      rw [← hU] at BN
      have RWz := Lib.hid (show VBX4.heap[w.heap.size]? = some _ by rw [hU]; exact row_far (BY.out.row2 hg9 (by omega) RW.out) (by omega) _)
      have RRz := Lib.hid (show VBX4.heap[w.heap.size + 1]? = some _ by rw [hU]; exact row_far (BY.out.row2 hg9 (by omega) RR.out) (by omega) _)
      have f9 := row_c N9.out (i := 2) rfl
      have q9 := frozen_of_row _ _ 2 _ _ N9.out
      clear ho9 hg9 hn9 hA2 hc2 BY N9 BX RW RR
      have BX := BN
      clear BN
      have RW := RWz
      clear RWz
      have RR := RRz
      clear RRz
      have HU := Lib.hid hU
      clear hU RK
      go_upto_region 14 with (fail)
      rw [← HU.out]
      clear HU f9 q9
      refine wp_operands (W := VBX4) rfl 7 [79, 80, 81, 82, 83, 84, 85] (fun i u x => match i with | 0 => u = .pointer (some ⟨w.heap.size + 2, 1, none⟩) | 1 => u = .slice ABX2 Z2.length cBX2 | 2 => u = .pointer (some ⟨w.heap.size, 1, none⟩) | 3 => u = .slice (some ⟨bq, oq, none⟩) ks.length c | 4 => u = .int .i64 (k : Int) | 5 => u = .int .i64 (n1 : Int) | 6 => u = .slice Kb (ks.length - n1) cb | _ => True) (fun _ => false)
        (by decide) rfl (by kernel_rfl) (by kernel_rfl) (by decide) (by kernel_rfl) ?_ (fun _ _ _ h => by cases h) ?_ ?_
      · intro i u x x' hi hR hb'
        have hi' : i = 0 ∨ i = 1 ∨ i = 2 ∨ i = 3 ∨ i = 4 ∨ i = 5 ∨ i = 6 := by omega
        rcases hi' with rfl | rfl | rfl | rfl | rfl | rfl | rfl
        · exact hR
        · exact hR
        · exact hR
        · exact hR
        · exact hR
        · exact hR
        · exact hR
      · intro i av x K hi hF hb' hw hK
        have hi' : i = 0 ∨ i = 1 ∨ i = 2 ∨ i = 3 ∨ i = 4 ∨ i = 5 ∨ i = 6 := by omega
        rcases hi' with rfl | rfl | rfl | rfl | rfl | rfl | rfl
        · simp only [wpOp, List.getElem?_toArray, List.getElem?_cons_zero, Region.wanted, if_true]
          refine Or.inl ?_
          have e0 : av.tmps.getD 7 undef = .pointer (some ⟨w.heap.size + 2, 0, none⟩) := hF.2.2 7 (by decide)
          have e0e : av.eval (.tmp 7) = .pointer (some ⟨w.heap.size + 2, 0, none⟩) := e0
          have e0g : av.tmps[7]?.getD undef = .pointer (some ⟨w.heap.size + 2, 0, none⟩) := by have := e0; simp only [Array.getD_eq_getD_getElem?] at this; exact this
          clear hw hF
          simp only [Oper.wp, execOp]
          try simp only [e0e]
          go_simp
          exact hK _ x (by first | rfl | (simp only [Nat.add_zero]; done) | (congr 1; omega)) (Below.refl _ _) (fun h => by cases h)
        · simp only [wpOp, List.getElem?_toArray, List.getElem?_cons_succ, List.getElem?_cons_zero, Region.wanted, if_true]
          refine Or.inl ?_
          have e0 : av.tmps.getD 79 undef = .pointer (some ⟨w.heap.size + 2, 1, none⟩) := (hw 0 (by kernel_rfl))
          have e0e : av.eval (.tmp 79) = .pointer (some ⟨w.heap.size + 2, 1, none⟩) := e0
          have e0g : av.tmps[79]?.getD undef = .pointer (some ⟨w.heap.size + 2, 1, none⟩) := by have := e0; simp only [Array.getD_eq_getD_getElem?] at this; exact this
          obtain ⟨fo0, fo1, fo2⟩ := BX.out.f hb'
          clear hw hF
          simp only [Oper.wp, execOp]
          try simp only [e0e]
          go_simp
          exact hK _ x (by first | rfl | (simp only [Nat.add_zero]; done) | (congr 1; omega)) (Below.refl _ _) (fun h => by cases h)
        · simp only [wpOp, List.getElem?_toArray, List.getElem?_cons_succ, List.getElem?_cons_zero, Region.wanted, if_true]
          refine Or.inl ?_
          have e0 : av.tmps.getD 3 undef = .pointer (some ⟨w.heap.size, 0, none⟩) := hF.2.2 3 (by decide)
          have e0e : av.eval (.tmp 3) = .pointer (some ⟨w.heap.size, 0, none⟩) := e0
          have e0g : av.tmps[3]?.getD undef = .pointer (some ⟨w.heap.size, 0, none⟩) := by have := e0; simp only [Array.getD_eq_getD_getElem?] at this; exact this
          clear hw hF
          simp only [Oper.wp, execOp]
          try simp only [e0e]
          go_simp
          exact hK _ x (by first | rfl | (simp only [Nat.add_zero]; done) | (congr 1; omega)) (Below.refl _ _) (fun h => by cases h)
        · simp only [wpOp, List.getElem?_toArray, List.getElem?_cons_succ, List.getElem?_cons_zero, Region.wanted, if_true]
          refine Or.inl ?_
          have e0 : av.tmps.getD 81 undef = .pointer (some ⟨w.heap.size, 1, none⟩) := (hw 2 (by kernel_rfl))
          have e0e : av.eval (.tmp 81) = .pointer (some ⟨w.heap.size, 1, none⟩) := e0
          have e0g : av.tmps[81]?.getD undef = .pointer (some ⟨w.heap.size, 1, none⟩) := by have := e0; simp only [Array.getD_eq_getD_getElem?] at this; exact this
          have fn := row_c (row_on RW.out hb') (i := 1) rfl
          clear hw hF
          simp only [Oper.wp, execOp]
          try simp only [e0e]
          go_simp
          exact hK _ x (by first | rfl | (simp only [Nat.add_zero]; done) | (congr 1; omega)) (Below.refl _ _) (fun h => by cases h)
        · simp only [wpOp, List.getElem?_toArray, List.getElem?_cons_succ, List.getElem?_cons_zero, Region.wanted, if_true]
          refine Or.inl ?_
          have e0 : av.tmps.getD 8 undef = .int .i64 (k : Int) := hF.2.2 8 (by decide)
          have e0e : av.eval (.tmp 8) = .int .i64 (k : Int) := e0
          have e0g : av.tmps[8]?.getD undef = .int .i64 (k : Int) := by have := e0; simp only [Array.getD_eq_getD_getElem?] at this; exact this
          clear hw hF
          simp only [Oper.wp, execOp]
          try simp only [e0e]
          go_simp
          exact hK _ x (by first | rfl | (simp only [Nat.add_zero]; done) | (congr 1; omega)) (Below.refl _ _) (fun h => by cases h)
        · simp only [wpOp, List.getElem?_toArray, List.getElem?_cons_succ, List.getElem?_cons_zero, Region.wanted, if_true]
          refine Or.inl ?_
          have e0 : av.tmps.getD 83 undef = .int .i64 (k : Int) := (hw 4 (by kernel_rfl))
          have e0e : av.eval (.tmp 83) = .int .i64 (k : Int) := e0
          have e0g : av.tmps[83]?.getD undef = .int .i64 (k : Int) := by have := e0; simp only [Array.getD_eq_getD_getElem?] at this; exact this
          clear hw hF
          simp only [Oper.wp, execOp]
          try simp only [e0e]
          go_simp
          exact hK _ x (by first | rfl | (simp only [Nat.add_zero]; done) | (congr 1; omega)) (Below.refl _ _) (fun h => by cases h)
        · simp only [wpOp, List.getElem?_toArray, List.getElem?_cons_succ, List.getElem?_cons_zero, Region.wanted, if_true]
          refine Or.inl ?_
          have e0 : av.tmps.getD 82 undef = .slice (some ⟨bq, oq, none⟩) ks.length c := (hw 3 (by kernel_rfl))
          have e0e : av.eval (.tmp 82) = .slice (some ⟨bq, oq, none⟩) ks.length c := e0
          have e0g : av.tmps[82]?.getD undef = .slice (some ⟨bq, oq, none⟩) ks.length c := by have := e0; simp only [Array.getD_eq_getD_getElem?] at this; exact this
          have e1 : av.tmps.getD 84 undef = .int .i64 (n1 : Int) := (hw 5 (by kernel_rfl))
          have e1e : av.eval (.tmp 84) = .int .i64 (n1 : Int) := e1
          have e1g : av.tmps[84]?.getD undef = .int .i64 (n1 : Int) := by have := e1; simp only [Array.getD_eq_getD_getElem?] at this; exact this
          clear hw hF
          simp only [Oper.wp, execOp]
          try simp only [e0e, e1e]
          go_simp
          exact hK _ x (by first | rfl | (simp only [Nat.add_zero]; done) | (congr 1; omega)) (Below.refl _ _) (fun h => by cases h)
      intro av x hF hb' hR _
      have e0 : av.tmps.getD 79 undef = .pointer (some ⟨w.heap.size + 2, 1, none⟩) := hR 0 (by decide)
      have e1 : av.tmps.getD 80 undef = .slice ABX2 Z2.length cBX2 := hR 1 (by decide)
      have e2 : av.tmps.getD 81 undef = .pointer (some ⟨w.heap.size, 1, none⟩) := hR 2 (by decide)
      have e3 : av.tmps.getD 82 undef = .slice (some ⟨bq, oq, none⟩) ks.length c := hR 3 (by decide)
      have e4 : av.tmps.getD 83 undef = .int .i64 (k : Int) := hR 4 (by decide)
      have e5 : av.tmps.getD 84 undef = .int .i64 (n1 : Int) := hR 5 (by decide)
      have e6 : av.tmps.getD 85 undef = .slice Kb (ks.length - n1) cb := hR 6 (by decide)
      rw [hF.fold (by kernel_rfl)]
      simp only [List.foldl_cons, List.foldl_nil, e0, e1, e2, e3, e4, e5, e6]
      simp only [Act.put, List.setIfInBounds_toArray, List.set_cons_zero, List.set_cons_succ]
      change wpOps _ _ _ [7, 8, 9] _ _
      simp only [wpOps_cons]
      clear e0 e1 e2 e3 e4 e5 e6 hR hF
      have BY := Lib.hid (BX.out.below hb')
      have RW := Lib.hid (row_on RW.out hb')
      have RR := Lib.hid (row_on RR.out hb')
      clear hb'
      simp only [wpOp, List.getElem?_toArray, List.getElem?_cons_succ, List.getElem?_cons_zero, Region.wanted, if_true]
      refine Or.inl ?_
      refine wp_append2 sv_one et_s (.tmp 80) (.tmp 85) rfl (w.heap.size + 3) (.slice ABX2 Z2.length cBX2) Z2 y3 Z3 Kb cb (ks.length - n1) rfl BY.out.o1 (RKB.out _ BY.out.kb) L3.out rfl EK.out.2.2 BN.out.2.2.1 BY.out.bz ?_
      intro A9 c9 x9 ho9 hg9 hn9
      obtain ⟨ABX5, hA2⟩ : ∃ z, A9 = z := ⟨_, rfl⟩
      obtain ⟨cBX5, hc2⟩ : ∃ z, c9 = z := ⟨_, rfl⟩
      rw [hA2, hc2] at ho9 hn9 ⊢
      have BN := Lib.hid (BY.out.push1 ho9 hg9 hn9)
      have N9 := Lib.hid (BY.out.row1 hg9 BY.out.lt.2 BY.out.row)
      obtain ⟨VBX5, hU⟩ : ∃ U : World, U = x9.setCell ⟨w.heap.size + 2, 1, none⟩ (.slice ABX5 Z3.length cBX5) := ⟨_, rfl⟩
      rw [← hU] at BN
      have RWz := Lib.hid (show VBX5.heap[w.heap.size]? = some _ by rw [hU]; exact row_far (BY.out.row1 hg9 (by omega) RW.out) (by omega) _)
      have RRz := Lib.hid (show VBX5.heap[w.heap.size + 1]? = some _ by rw [hU]; exact row_far (BY.out.row1 hg9 (by omega) RR.out) (by omega) _)
      have f9 := row_c N9.out (i := 1) rfl
      have q9 := frozen_of_row _ _ 1 _ _ N9.out
      clear ho9 hg9 hn9 hA2 hc2 BY N9 BX RW RR
      have BX := BN
      clear BN
      have RW := RWz
      clear RWz
      have RR := RRz
      clear RRz
      go_simp
      try rw [wpOps_cons]
      simp only [wpOp, List.getElem?_toArray, List.getElem?_cons_succ, List.getElem?_cons_zero, Region.wanted, if_true]
      refine Or.inl ?_
      simp only [Oper.wp, execOp]
      go_simp
      try rw [wpOps_cons]
      simp only [wpOp, List.getElem?_toArray, List.getElem?_cons_succ, List.getElem?_cons_zero, Region.wanted, if_true]
      refine Or.inl ?_
      simp only [Oper.wp, execOp]
      go_simp
      try simp only [wpOps]
      rw [← hU]
      clear hU f9 q9
      go_upto_region 15 with (fail)
      refine wp_operands (W := VBX5) rfl 7 [88, 89, 90, 91, 92, 93, 94] (fun i u x => match i with | 0 => u = .pointer (some ⟨w.heap.size + 2, 2, none⟩) | 1 => u = .slice ABX4 X2.length cBX4 | 2 => u = .pointer (some ⟨w.heap.size, 2, none⟩) | 3 => u = .slice B ds.length d | 4 => u = .int .i64 (k : Int) | 5 => u = .int .i64 (n1 : Int) | 6 => u = .slice Db (ds.length - n1) db | _ => True) (fun _ => false)
        (by decide) rfl (by kernel_rfl) (by kernel_rfl) (by decide) (by kernel_rfl) ?_ (fun _ _ _ h => by cases h) ?_ ?_
      · intro i u x x' hi hR hb'
        have hi' : i = 0 ∨ i = 1 ∨ i = 2 ∨ i = 3 ∨ i = 4 ∨ i = 5 ∨ i = 6 := by omega
        rcases hi' with rfl | rfl | rfl | rfl | rfl | rfl | rfl
        · exact hR
        · exact hR
        · exact hR
        · exact hR
        · exact hR
        · exact hR
        · exact hR
      · intro i av x K hi hF hb' hw hK
        have hi' : i = 0 ∨ i = 1 ∨ i = 2 ∨ i = 3 ∨ i = 4 ∨ i = 5 ∨ i = 6 := by omega
        rcases hi' with rfl | rfl | rfl | rfl | rfl | rfl | rfl
        · simp only [wpOp, List.getElem?_toArray, List.getElem?_cons_zero, Region.wanted, if_true]
          refine Or.inl ?_
          have e0 : av.tmps.getD 7 undef = .pointer (some ⟨w.heap.size + 2, 0, none⟩) := hF.2.2 7 (by decide)
          have e0e : av.eval (.tmp 7) = .pointer (some ⟨w.heap.size + 2, 0, none⟩) := e0
          have e0g : av.tmps[7]?.getD undef = .pointer (some ⟨w.heap.size + 2, 0, none⟩) := by have := e0; simp only [Array.getD_eq_getD_getElem?] at this; exact this
          clear hw hF
          simp only [Oper.wp, execOp]
          try simp only [e0e]
          go_simp
          exact hK _ x (by first | rfl | (simp only [Nat.add_zero]; done) | (congr 1; omega)) (Below.refl _ _) (fun h => by cases h)
        · simp only [wpOp, List.getElem?_toArray, List.getElem?_cons_succ, List.getElem?_cons_zero, Region.wanted, if_true]
          refine Or.inl ?_
          have e0 : av.tmps.getD 88 undef = .pointer (some ⟨w.heap.size + 2, 2, none⟩) := (hw 0 (by kernel_rfl))
          have e0e : av.eval (.tmp 88) = .pointer (some ⟨w.heap.size + 2, 2, none⟩) := e0
          have e0g : av.tmps[88]?.getD undef = .pointer (some ⟨w.heap.size + 2, 2, none⟩) := by have := e0; simp only [Array.getD_eq_getD_getElem?] at this; exact this
          obtain ⟨fo0, fo1, fo2⟩ := BX.out.f hb'
          clear hw hF
          simp only [Oper.wp, execOp]
          try simp only [e0e]
          go_simp
          exact hK _ x (by first | rfl | (simp only [Nat.add_zero]; done) | (congr 1; omega)) (Below.refl _ _) (fun h => by cases h)
        · simp only [wpOp, List.getElem?_toArray, List.getElem?_cons_succ, List.getElem?_cons_zero, Region.wanted, if_true]
          refine Or.inl ?_
          have e0 : av.tmps.getD 3 undef = .pointer (some ⟨w.heap.size, 0, none⟩) := hF.2.2 3 (by decide)
          have e0e : av.eval (.tmp 3) = .pointer (some ⟨w.heap.size, 0, none⟩) := e0
          have e0g : av.tmps[3]?.getD undef = .pointer (some ⟨w.heap.size, 0, none⟩) := by have := e0; simp only [Array.getD_eq_getD_getElem?] at this; exact this
          clear hw hF
          simp only [Oper.wp, execOp]
          try simp only [e0e]
          go_simp
          exact hK _ x (by first | rfl | (simp only [Nat.add_zero]; done) | (congr 1; omega)) (Below.refl _ _) (fun h => by cases h)
        · simp only [wpOp, List.getElem?_toArray, List.getElem?_cons_succ, List.getElem?_cons_zero, Region.wanted, if_true]
          refine Or.inl ?_
          have e0 : av.tmps.getD 90 undef = .pointer (some ⟨w.heap.size, 2, none⟩) := (hw 2 (by kernel_rfl))
          have e0e : av.eval (.tmp 90) = .pointer (some ⟨w.heap.size, 2, none⟩) := e0
          have e0g : av.tmps[90]?.getD undef = .pointer (some ⟨w.heap.size, 2, none⟩) := by have := e0; simp only [Array.getD_eq_getD_getElem?] at this; exact this
          have fn := row_c (row_on RW.out hb') (i := 2) rfl
          clear hw hF
          simp only [Oper.wp, execOp]
          try simp only [e0e]
          go_simp
          exact hK _ x (by first | rfl | (simp only [Nat.add_zero]; done) | (congr 1; omega)) (Below.refl _ _) (fun h => by cases h)
        · simp only [wpOp, List.getElem?_toArray, List.getElem?_cons_succ, List.getElem?_cons_zero, Region.wanted, if_true]
          refine Or.inl ?_
          have e0 : av.tmps.getD 10 undef = .int .i64 (k : Int) := hF.2.2 10 (by decide)
          have e0e : av.eval (.tmp 10) = .int .i64 (k : Int) := e0
          have e0g : av.tmps[10]?.getD undef = .int .i64 (k : Int) := by have := e0; simp only [Array.getD_eq_getD_getElem?] at this; exact this
          clear hw hF
          simp only [Oper.wp, execOp]
          try simp only [e0e]
          go_simp
          exact hK _ x (by first | rfl | (simp only [Nat.add_zero]; done) | (congr 1; omega)) (Below.refl _ _) (fun h => by cases h)
        · simp only [wpOp, List.getElem?_toArray, List.getElem?_cons_succ, List.getElem?_cons_zero, Region.wanted, if_true]
          refine Or.inl ?_
          have e0 : av.tmps.getD 92 undef = .int .i64 (k : Int) := (hw 4 (by kernel_rfl))
          have e0e : av.eval (.tmp 92) = .int .i64 (k : Int) := e0
          have e0g : av.tmps[92]?.getD undef = .int .i64 (k : Int) := by have := e0; simp only [Array.getD_eq_getD_getElem?] at this; exact this
          clear hw hF
          simp only [Oper.wp, execOp]
          try simp only [e0e]
          go_simp
          exact hK _ x (by first | rfl | (simp only [Nat.add_zero]; done) | (congr 1; omega)) (Below.refl _ _) (fun h => by cases h)
        · simp only [wpOp, List.getElem?_toArray, List.getElem?_cons_succ, List.getElem?_cons_zero, Region.wanted, if_true]
          refine Or.inl ?_
          have e0 : av.tmps.getD 91 undef = .slice B ds.length d := (hw 3 (by kernel_rfl))
          have e0e : av.eval (.tmp 91) = .slice B ds.length d := e0
          have e0g : av.tmps[91]?.getD undef = .slice B ds.length d := by have := e0; simp only [Array.getD_eq_getD_getElem?] at this; exact this
          have e1 : av.tmps.getD 93 undef = .int .i64 (n1 : Int) := (hw 5 (by kernel_rfl))
          have e1e : av.eval (.tmp 93) = .int .i64 (n1 : Int) := e1
          have e1g : av.tmps[93]?.getD undef = .int .i64 (n1 : Int) := by have := e1; simp only [Array.getD_eq_getD_getElem?] at this; exact this
          clear hw hF
          simp only [Oper.wp, execOp]
          try simp only [e0e, e1e]
          go_simp
          exact hK _ x (by first | rfl | (simp only [Nat.add_zero]; done) | (congr 1; omega)) (Below.refl _ _) (fun h => by cases h)
      intro av x hF hb' hR _
      have e0 : av.tmps.getD 88 undef = .pointer (some ⟨w.heap.size + 2, 2, none⟩) := hR 0 (by decide)
      have e1 : av.tmps.getD 89 undef = .slice ABX4 X2.length cBX4 := hR 1 (by decide)
      have e2 : av.tmps.getD 90 undef = .pointer (some ⟨w.heap.size, 2, none⟩) := hR 2 (by decide)
      have e3 : av.tmps.getD 91 undef = .slice B ds.length d := hR 3 (by decide)
      have e4 : av.tmps.getD 92 undef = .int .i64 (k : Int) := hR 4 (by decide)
      have e5 : av.tmps.getD 93 undef = .int .i64 (n1 : Int) := hR 5 (by decide)
      have e6 : av.tmps.getD 94 undef = .slice Db (ds.length - n1) db := hR 6 (by decide)
      rw [hF.fold (by kernel_rfl)]
      simp only [List.foldl_cons, List.foldl_nil, e0, e1, e2, e3, e4, e5, e6]
      simp only [Act.put, List.setIfInBounds_toArray, List.set_cons_zero, List.set_cons_succ]
      change wpOps _ _ _ [7, 8, 9] _ _
      simp only [wpOps_cons]
      clear e0 e1 e2 e3 e4 e5 e6 hR hF
      have BY := Lib.hid (BX.out.below hb')
      have RW := Lib.hid (row_on RW.out hb')
      have RR := Lib.hid (row_on RR.out hb')
      clear hb'
      simp only [wpOp, List.getElem?_toArray, List.getElem?_cons_succ, List.getElem?_cons_zero, Region.wanted, if_true]
      refine Or.inl ?_
      refine wp_append2 nv_one et_i (.tmp 89) (.tmp 94) rfl (w.heap.size + 3) (.slice ABX4 X2.length cBX4) X2 u3 X3 Db db (ds.length - n1) rfl BY.out.o2 (RDB.out _ BY.out.kb) L4.out rfl EQ.out.2.2 BN.out.2.2.2.2.2 BY.out.bz ?_
      intro A9 c9 x9 ho9 hg9 hn9
      obtain ⟨ABX6, hA2⟩ : ∃ z, A9 = z := ⟨_, rfl⟩
      obtain ⟨cBX6, hc2⟩ : ∃ z, c9 = z := ⟨_, rfl⟩
      rw [hA2, hc2] at ho9 hn9 ⊢
      have BN := Lib.hid (BY.out.push2 ho9 hg9 hn9)
      have N9 := Lib.hid (BY.out.row2 hg9 BY.out.lt.2 BY.out.row)
      obtain ⟨VBX6, hU⟩ : ∃ U : World, U = x9.setCell ⟨w.heap.size + 2, 2, none⟩ (.slice ABX6 X3.length cBX6) := ⟨_, rfl⟩
      rw [← hU] at BN
      have RWz := Lib.hid (show VBX6.heap[w.heap.size]? = some _ by rw [hU]; exact row_far (BY.out.row2 hg9 (by omega) RW.out) (by omega) _)
      have RRz := Lib.hid (show VBX6.heap[w.heap.size + 1]? = some _ by rw [hU]; exact row_far (BY.out.row2 hg9 (by omega) RR.out) (by omega) _)
      have f9 := row_c N9.out (i := 2) rfl
      have q9 := frozen_of_row _ _ 2 _ _ N9.out
      clear ho9 hg9 hn9 hA2 hc2 BY N9 BX RW RR
      have BX := BN
      clear BN
      have RW := RWz
      clear RWz
      have RR := RRz
      clear RRz
      go_simp
      try rw [wpOps_cons]
      simp only [wpOp, List.getElem?_toArray, List.getElem?_cons_succ, List.getElem?_cons_zero, Region.wanted, if_true]
      refine Or.inl ?_
      simp only [Oper.wp, execOp]
      go_simp
      try rw [wpOps_cons]
      simp only [wpOp, List.getElem?_toArray, List.getElem?_cons_succ, List.getElem?_cons_zero, Region.wanted, if_true]
      refine Or.inl ?_
      simp only [Oper.wp, execOp]
      go_simp
      try simp only [wpOps]
      rw [← hU]
      clear hU f9 q9
      obtain ⟨fo0, fo1, fo2⟩ := BX.out.f (Below.refl _ _)
      have p0 := row_c RR.out (i := 0) rfl
      have p1 := row_c RR.out (i := 1) rfl
      have p2 := row_c RR.out (i := 2) rfl
      have y0 := frozen_of_row _ _ 0 _ _ RR.out
      have y1 := frozen_of_row _ _ 1 _ _ RR.out
      have y2 := frozen_of_row _ _ 2 _ _ RR.out
      go_wp2
      refine bodyPost_ret (v := .agg #[.bool true, .slice ABX5 Z3.length cBX5, .slice ABX6 X3.length cBX6]) (by simp [results, Try.results26, go_sem, p0, p1, p2]) rfl ⟨ABX5, cBX5, ABX6, cBX6, rfl, ?_, ?_, ?_⟩
      · exact ((BX.out.rl.1.set BX.out.rl.2.2.1 (by omega) _ _).set BX.out.rl.2.2.1 (by omega) _ _).set BX.out.rl.2.2.1 (by omega) _ _
      · exact ((BX.out.rl.2.1.set BX.out.rl.2.2.2 (by omega) _ _).set BX.out.rl.2.2.2 (by omega) _ _).set BX.out.rl.2.2.2 (by omega) _ _
      · exact ((BX.out.kb.setCell (by simp) _).setCell (by simp) _).setCell (by simp) _
set_option maxHeartbeats 4000000 in
set_option maxRecDepth 100000 in
theorem rput_any (lf : Bool) (A : Option Addr) (c : Nat) (ks : List (List UInt8)) (B : Option Addr) (d : Nat) (ds : List Int) (key : List UInt8) (kid : Int) (w : World) (h : Rl sv w A c ks) (h2 : Rl nv w B d ds) (hl : ks.length ≤ 3999990) (hs : shapedB lf ks ds = true) :
    Calls Try.prog 26 #[.agg #[.bool lf, .slice A ks.length c, .slice B ds.length d], sv key, .int .i64 kid] w fun e w' => ∃ A' c' B' d', e = .returned (.agg #[.bool lf, .slice A' (putK key ks).length c', .slice B' (putD lf key ks kid ds).length d']) ∧ Rl sv w' A' c' (putK key ks) ∧ Rl nv w' B' d' (putD lf key ks kid ds) ∧ Below w.heap.size w w' := by
  have hsd : ds.length = if lf then ks.length else ks.length + 1 := by unfold shapedB at hs; cases lf <;> simpa using hs
  unfold putK putD putKi putDi bhd
  cases lf <;> cases ht : thereB key ks
  · have := rput_ff A c ks B d ds key kid w h h2 hl (by simpa using hsd) _ _ _ rfl ht rfl rfl _ _ _ _ _ _ _ _ _ _ rfl rfl rfl rfl rfl rfl rfl rfl rfl rfl
    simpa using this
  · have := rput_ft A c ks B d ds key kid w h h2 hl (by simpa using hsd) _ _ _ rfl ht rfl rfl _ _ _ _ _ _ _ _ _ _ rfl rfl rfl rfl rfl rfl rfl rfl rfl rfl
    simpa using this
  · have := rput_tf A c ks B d ds key kid w h h2 hl (by simpa using hsd) _ _ _ rfl ht rfl rfl _ _ _ _ _ _ _ _ _ _ rfl rfl rfl rfl rfl rfl rfl rfl rfl rfl
    simpa using this
  · have := rput_tt A c ks B d ds key kid w h h2 hl (by simpa using hsd) _ _ _ rfl ht rfl rfl _ _ _ _ _ _ _ _ _ _ rfl rfl rfl rfl rfl rfl rfl rfl rfl rfl
    simpa using this
end Go.Proofs.Ytkbdcbcjbgbglaa
