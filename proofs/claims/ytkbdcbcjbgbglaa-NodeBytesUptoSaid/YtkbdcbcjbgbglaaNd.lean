/-
  The document's Plain and Right.
-/
import Derived.Test.YtkbdcbcjbgbglaaNc
namespace Go.Proofs.Ytkbdcbcjbgbglaa
open Go.RowKit
set_option maxHeartbeats 4000000 in
set_option maxRecDepth 100000 in
theorem plain_any (lf : Bool) (A : Option Addr) (c : Nat) (ks : List (List UInt8)) (B : Option Addr) (d : Nat) (ds : List Int) (w : World) (h : Rl sv w A c ks) (h2 : Rl nv w B d ds) (hl : ks.length ≤ 4000000) (hl2 : ds.length ≤ 4000001) :
    Calls Try.prog 25 #[.agg #[.bool lf, .slice A ks.length c, .slice B ds.length d]] w fun e w' => e = .returned (.bool (plainB lf ks ds)) ∧ Below w.heap.size w w' := by
  have H := Lib.hid h
  have H2 := Lib.hid h2
  clear h h2
  have hw : IntKind.i64.wrap ((ks.length : Int) + 1) = (ks.length : Int) + 1 := IntWalk.i64_in _ (by omega)
  have SB : Hid (Below w.heap.size w w) := Lib.hid (Below.refl _ _)
  cases lf
  · by_cases he : ds.length = ks.length + 1
    · have EQ := Lib.hid (plainB_eq (lf := false) (ks := ks) (ds := ds) (by unfold shapedB; simp [he]))
      have e0 : ((ds.length : Int) != (ks.length : Int) + 1) = false := by simp only [bne, Bool.not_eq_false', beq_iff_eq]; omega
      have n0 : ((ds.length : Int) = (ks.length : Int) + 1) := by omega
      have e1 : (ds.length != ks.length + 1) = false := by simp only [bne, Bool.not_eq_false', beq_iff_eq]; omega
      have n1 : (ds.length = ks.length + 1) := by omega
      have N1 := Lib.hid n1
      clear he n0 n1
      go_enter Try.func25, Try.ntmps25
      go_wp2_with fail
      obtain ⟨W, hW⟩ : ∃ W : World, W = w.alloc (.cells #[.bool false, .slice A ks.length c, .slice B ds.length d] 33) := ⟨_, rfl⟩
      have RW := Lib.hid (show W.heap[w.heap.size]? = some (.cells #[.bool false, .slice A ks.length c, .slice B ds.length d] 33) by rw [hW]; exact heap_alloc_new _ _)
      have B1 := Lib.hid (show Below w.heap.size w W by rw [hW]; exact bda _ _)
      rw [← hW]
      clear hW
      clear hw e0 e1
      go_loopw [3] (fun i wr => ∃ k : Nat, k ≤ ks.length ∧ i = .int .i64 k ∧ Hid (kchain none ks = kchain (prevK ks k) (ks.drop k)) ∧ Hid (Below W.heap.size W wr)) (fun i _ => ks.length - (intOf i).toNat)
      case atStart => exact ⟨0, Nat.zero_le _, rfl, Lib.hid rfl, Lib.hid (by first | exact Below.refl _ _ | exact SB.out)⟩
      case round =>
        obtain ⟨k, hk, rfl, hch, hb⟩ := hrel
        have KW := Lib.hid (show Below w.heap.size w wr from B1.out.trans (hb.out.mono B1.out.size))
        have f1 := row_c (row_on RW.out hb.out) (i := 1) rfl
        have f2 := row_c (row_on RW.out hb.out) (i := 2) rfl
        by_cases hlt : k < ks.length
        · obtain ⟨x, hx⟩ := get_lt hlt
          obtain ⟨b, off, hA, hbl, g2⟩ := (H.out.below KW.out).cell hx
          have CH := Lib.hid (show kchain none ks = (kOk (prevK ks k) x && kchain (prevK ks (k + 1)) (ks.drop (k + 1))) by rw [hch.out, chain_at hx])
          have HLT := Lib.hid hlt
          have hsx := str_size x
          unfold sv at g2
          clear hch
          generalize hX : x.length = X at *
          have k0 : (0 : Int) ≤ (k : Int) := by omega
          have k1 : (k : Int) < (ks.length : Int) := by omega
          by_cases c1 : X < 1
          · have CF := Lib.hid (show kchain none ks = false by rw [CH.out, kOk_no1 (by omega)]; rfl)
            clear CH hX
            subst hA
            have e1 : decide (X < 1) = true := decide_eq_true c1
            have e2 : decide ((X : Int) < 1) = true := decide_eq_true (by omega)
            clear c1
            go_wp2
            go_ret
            exact ⟨ret_b (by rw [EQ.out, CF.out]; rfl), KW.out⟩
          · have e1 : decide (X < 1) = false := decide_eq_false c1
            have e2 : decide ((X : Int) < 1) = false := decide_eq_false (by omega)
            by_cases c2 : 16 < X
            · have CF := Lib.hid (show kchain none ks = false by rw [CH.out, kOk_no2 (by omega)]; rfl)
              clear CH hX
              subst hA
              have e3 : decide (16 < X) = true := decide_eq_true c2
              have e4 : decide (16 < (X : Int)) = true := decide_eq_true (by omega)
              clear c1 c2
              go_wp2
              go_ret
              exact ⟨ret_b (by rw [EQ.out, CF.out]; rfl), KW.out⟩
            · have e3 : decide (16 < X) = false := decide_eq_false c2
              have e4 : decide (16 < (X : Int)) = false := decide_eq_false (by omega)
              have CK := Lib.hid (show kchain none ks = (belowB (prevK ks k) x && kchain (prevK ks (k + 1)) (ks.drop (k + 1))) by rw [CH.out, kOk_eq (by omega) (by omega)])
              clear CH hX c1 c2
              rcases Nat.eq_zero_or_pos k with hk0 | hk0
              · subst hk0
                have CF := Lib.hid (show kchain none ks = kchain (prevK ks (0 + 1)) (ks.drop (0 + 1)) by rw [CK.out]; rfl)
                clear CK k0 k1
                have k1 : (0 : Int) < (ks.length : Int) := by omega
                rw [Nat.add_zero] at g2
                simp only [Int.natCast_zero]
                subst hA
                go_wp2
                go_roundw
                case rel => exact ⟨0 + 1, HLT.out, by go_num, CF, hb⟩
                case measure => simp [intOf]; have := HLT.out; omega
              · obtain ⟨j, rfl⟩ : ∃ j, k = j + 1 := ⟨k - 1, by omega⟩
                obtain ⟨p, hp⟩ := get_lt (xs := ks) (k := j) (by omega)
                have hpr : prevK ks (j + 1) = some p := prevK_succ hp
                obtain ⟨b', off', hA', _, g3⟩ := (H.out.below KW.out).cell hp
                rw [hA] at hA'
                injection hA' with hA'
                injection hA' with q1 q2
                subst q1 q2
                unfold sv at g3
                have LS := less_dec p x
                have j0 : decide ((0 : Int) < (j : Int) + 1) = true := decide_eq_true (by omega)
                have j1 : (j : Int) < (ks.length : Int) := by omega
                rw [hpr] at CK
                subst hA
                cases hq : decide (p < x)
                · have CF := Lib.hid (show kchain none ks = false by rw [CK.out]; unfold belowB; simp only [hq]; rfl)
                  rw [hq] at LS
                  clear CK hq hpr hp hx
                  go_wp2
                  go_ret
                  exact ⟨ret_b (by rw [EQ.out, CF.out]; rfl), KW.out⟩
                · have CF := Lib.hid (show kchain none ks = kchain (prevK ks (j + 1 + 1)) (ks.drop (j + 1 + 1)) by rw [CK.out]; unfold belowB; simp only [hq]; rfl)
                  rw [hq] at LS
                  clear CK hq hpr hp hx
                  go_wp2
                  go_roundw
                  case rel => exact ⟨j + 1 + 1, HLT.out, by go_num, CF, hb⟩
                  case measure => simp [intOf]; have := HLT.out; omega
        · obtain rfl : k = ks.length := by omega
          have CT := Lib.hid (show kchain none ks = true by rw [hch.out, List.drop_length]; rfl)
          clear hch
          go_wp2_with fail
          clear f1 f2
          go_loopw [5] (fun i wz => ∃ k : Nat, k ≤ ds.length ∧ i = .int .i64 k ∧ Hid (ds.all dOk = (ds.drop k).all dOk) ∧ Hid (Below W.heap.size W wz)) (fun i _ => ds.length - (intOf i).toNat)
          case atStart => exact ⟨0, Nat.zero_le _, rfl, Lib.hid rfl, hb⟩
          case round =>
            obtain ⟨k, hk, rfl, hch, hb⟩ := hrel
            have KW := Lib.hid (show Below w.heap.size w wr from B1.out.trans (hb.out.mono B1.out.size))
            have f2 := row_c (row_on RW.out hb.out) (i := 2) rfl
            by_cases hlt : k < ds.length
            · obtain ⟨x, hx⟩ := get_lt hlt
              obtain ⟨b, off, hA, hbl, g2⟩ := (H2.out.below KW.out).cell hx
              have CH := Lib.hid (show ds.all dOk = (dOk x && (ds.drop (k + 1)).all dOk) by rw [hch.out, all_at hx])
              have HLT := Lib.hid hlt
              unfold nv at g2
              clear hch
              have k0 : (0 : Int) ≤ (k : Int) := by omega
              have k1 : (k : Int) < (ds.length : Int) := by omega
              subst hA
              by_cases c1 : x < 2
              · have CF := Lib.hid (show ds.all dOk = false by rw [CH.out]; unfold dOk; rw [decide_eq_false (show ¬ 2 ≤ x by omega)]; rfl)
                have e1 : decide (x < 2) = true := decide_eq_true c1
                clear CH c1
                go_wp2
                go_ret
                exact ⟨ret_b (by rw [EQ.out, CF.out]; simp), KW.out⟩
              · have e1 : decide (x < 2) = false := decide_eq_false c1
                by_cases c2 : 511 < x
                · have CF := Lib.hid (show ds.all dOk = false by rw [CH.out]; unfold dOk; rw [decide_eq_false (show ¬ x ≤ 511 by omega)]; simp)
                  have e2 : decide (511 < x) = true := decide_eq_true c2
                  clear CH c1 c2
                  go_wp2
                  go_ret
                  exact ⟨ret_b (by rw [EQ.out, CF.out]; simp), KW.out⟩
                · have e2 : decide (511 < x) = false := decide_eq_false c2
                  have CF := Lib.hid (show ds.all dOk = (ds.drop (k + 1)).all dOk by rw [CH.out]; unfold dOk; rw [decide_eq_true (show 2 ≤ x by omega), decide_eq_true (show x ≤ 511 by omega)]; rfl)
                  clear CH c1 c2
                  go_wp2
                  go_roundw
                  case rel => exact ⟨k + 1, HLT.out, by go_num, CF, hb⟩
                  case measure => simp [intOf]; have := HLT.out; omega
            · obtain rfl : k = ds.length := by omega
              have CU := Lib.hid (show ds.all dOk = true by rw [hch.out, List.drop_length]; rfl)
              clear hch
              go_wp2
              go_ret
              exact ⟨ret_b (by rw [EQ.out, CT.out, CU.out]; rfl), KW.out⟩

    · have EQ := Lib.hid (plainB_no (lf := false) (ks := ks) (ds := ds) (by unfold shapedB; simp [he]))
      have e0 : ((ds.length : Int) != (ks.length : Int) + 1) = true := by simp only [bne, Bool.not_eq_true', beq_eq_false_iff_ne, ne_eq]; omega
      have n0 : ¬ ((ds.length : Int) = (ks.length : Int) + 1) := by omega
      have e1 : (ds.length != ks.length + 1) = true := by simp only [bne, Bool.not_eq_true', beq_eq_false_iff_ne, ne_eq]; omega
      have n1 : ¬ (ds.length = ks.length + 1) := by omega
      clear he
      go_enter Try.func25, Try.ntmps25
      go_wp2
      go_ret
      exact ⟨ret_b EQ.out.symm, bda _ _⟩
  · by_cases he : ds.length = ks.length
    · have EQ := Lib.hid (plainB_eq (lf := true) (ks := ks) (ds := ds) (by unfold shapedB; simp [he]))
      have e0 : ((ds.length : Int) != (ks.length : Int)) = false := by simp only [bne, Bool.not_eq_false', beq_iff_eq]; omega
      have n0 : ((ds.length : Int) = (ks.length : Int)) := by omega
      have e1 : (ds.length != ks.length) = false := by simp only [bne, Bool.not_eq_false', beq_iff_eq]; omega
      have n1 : (ds.length = ks.length) := by omega
      have N1 := Lib.hid n1
      clear he n0 n1
      go_enter Try.func25, Try.ntmps25
      go_wp2_with fail
      obtain ⟨W, hW⟩ : ∃ W : World, W = w.alloc (.cells #[.bool true, .slice A ks.length c, .slice B ds.length d] 33) := ⟨_, rfl⟩
      have RW := Lib.hid (show W.heap[w.heap.size]? = some (.cells #[.bool true, .slice A ks.length c, .slice B ds.length d] 33) by rw [hW]; exact heap_alloc_new _ _)
      have B1 := Lib.hid (show Below w.heap.size w W by rw [hW]; exact bda _ _)
      rw [← hW]
      clear hW
      clear hw e0 e1
      go_loopw [3] (fun i wr => ∃ k : Nat, k ≤ ks.length ∧ i = .int .i64 k ∧ Hid (kchain none ks = kchain (prevK ks k) (ks.drop k)) ∧ Hid (Below W.heap.size W wr)) (fun i _ => ks.length - (intOf i).toNat)
      case atStart => exact ⟨0, Nat.zero_le _, rfl, Lib.hid rfl, Lib.hid (by first | exact Below.refl _ _ | exact SB.out)⟩
      case round =>
        obtain ⟨k, hk, rfl, hch, hb⟩ := hrel
        have KW := Lib.hid (show Below w.heap.size w wr from B1.out.trans (hb.out.mono B1.out.size))
        have f1 := row_c (row_on RW.out hb.out) (i := 1) rfl
        have f2 := row_c (row_on RW.out hb.out) (i := 2) rfl
        by_cases hlt : k < ks.length
        · obtain ⟨x, hx⟩ := get_lt hlt
          obtain ⟨b, off, hA, hbl, g2⟩ := (H.out.below KW.out).cell hx
          have CH := Lib.hid (show kchain none ks = (kOk (prevK ks k) x && kchain (prevK ks (k + 1)) (ks.drop (k + 1))) by rw [hch.out, chain_at hx])
          have HLT := Lib.hid hlt
          have hsx := str_size x
          unfold sv at g2
          clear hch
          generalize hX : x.length = X at *
          have k0 : (0 : Int) ≤ (k : Int) := by omega
          have k1 : (k : Int) < (ks.length : Int) := by omega
          by_cases c1 : X < 1
          · have CF := Lib.hid (show kchain none ks = false by rw [CH.out, kOk_no1 (by omega)]; rfl)
            clear CH hX
            subst hA
            have e1 : decide (X < 1) = true := decide_eq_true c1
            have e2 : decide ((X : Int) < 1) = true := decide_eq_true (by omega)
            clear c1
            go_wp2
            go_ret
            exact ⟨ret_b (by rw [EQ.out, CF.out]; rfl), KW.out⟩
          · have e1 : decide (X < 1) = false := decide_eq_false c1
            have e2 : decide ((X : Int) < 1) = false := decide_eq_false (by omega)
            by_cases c2 : 16 < X
            · have CF := Lib.hid (show kchain none ks = false by rw [CH.out, kOk_no2 (by omega)]; rfl)
              clear CH hX
              subst hA
              have e3 : decide (16 < X) = true := decide_eq_true c2
              have e4 : decide (16 < (X : Int)) = true := decide_eq_true (by omega)
              clear c1 c2
              go_wp2
              go_ret
              exact ⟨ret_b (by rw [EQ.out, CF.out]; rfl), KW.out⟩
            · have e3 : decide (16 < X) = false := decide_eq_false c2
              have e4 : decide (16 < (X : Int)) = false := decide_eq_false (by omega)
              have CK := Lib.hid (show kchain none ks = (belowB (prevK ks k) x && kchain (prevK ks (k + 1)) (ks.drop (k + 1))) by rw [CH.out, kOk_eq (by omega) (by omega)])
              clear CH hX c1 c2
              rcases Nat.eq_zero_or_pos k with hk0 | hk0
              · subst hk0
                have CF := Lib.hid (show kchain none ks = kchain (prevK ks (0 + 1)) (ks.drop (0 + 1)) by rw [CK.out]; rfl)
                clear CK k0 k1
                have k1 : (0 : Int) < (ks.length : Int) := by omega
                rw [Nat.add_zero] at g2
                simp only [Int.natCast_zero]
                subst hA
                go_wp2
                go_roundw
                case rel => exact ⟨0 + 1, HLT.out, by go_num, CF, hb⟩
                case measure => simp [intOf]; have := HLT.out; omega
              · obtain ⟨j, rfl⟩ : ∃ j, k = j + 1 := ⟨k - 1, by omega⟩
                obtain ⟨p, hp⟩ := get_lt (xs := ks) (k := j) (by omega)
                have hpr : prevK ks (j + 1) = some p := prevK_succ hp
                obtain ⟨b', off', hA', _, g3⟩ := (H.out.below KW.out).cell hp
                rw [hA] at hA'
                injection hA' with hA'
                injection hA' with q1 q2
                subst q1 q2
                unfold sv at g3
                have LS := less_dec p x
                have j0 : decide ((0 : Int) < (j : Int) + 1) = true := decide_eq_true (by omega)
                have j1 : (j : Int) < (ks.length : Int) := by omega
                rw [hpr] at CK
                subst hA
                cases hq : decide (p < x)
                · have CF := Lib.hid (show kchain none ks = false by rw [CK.out]; unfold belowB; simp only [hq]; rfl)
                  rw [hq] at LS
                  clear CK hq hpr hp hx
                  go_wp2
                  go_ret
                  exact ⟨ret_b (by rw [EQ.out, CF.out]; rfl), KW.out⟩
                · have CF := Lib.hid (show kchain none ks = kchain (prevK ks (j + 1 + 1)) (ks.drop (j + 1 + 1)) by rw [CK.out]; unfold belowB; simp only [hq]; rfl)
                  rw [hq] at LS
                  clear CK hq hpr hp hx
                  go_wp2
                  go_roundw
                  case rel => exact ⟨j + 1 + 1, HLT.out, by go_num, CF, hb⟩
                  case measure => simp [intOf]; have := HLT.out; omega
        · obtain rfl : k = ks.length := by omega
          have CT := Lib.hid (show kchain none ks = true by rw [hch.out, List.drop_length]; rfl)
          clear hch
          go_wp2_with fail
          clear f1 f2
          go_loopw [5] (fun i wz => ∃ k : Nat, k ≤ ds.length ∧ i = .int .i64 k ∧ Hid (ds.all dOk = (ds.drop k).all dOk) ∧ Hid (Below W.heap.size W wz)) (fun i _ => ds.length - (intOf i).toNat)
          case atStart => exact ⟨0, Nat.zero_le _, rfl, Lib.hid rfl, hb⟩
          case round =>
            obtain ⟨k, hk, rfl, hch, hb⟩ := hrel
            have KW := Lib.hid (show Below w.heap.size w wr from B1.out.trans (hb.out.mono B1.out.size))
            have f2 := row_c (row_on RW.out hb.out) (i := 2) rfl
            by_cases hlt : k < ds.length
            · obtain ⟨x, hx⟩ := get_lt hlt
              obtain ⟨b, off, hA, hbl, g2⟩ := (H2.out.below KW.out).cell hx
              have CH := Lib.hid (show ds.all dOk = (dOk x && (ds.drop (k + 1)).all dOk) by rw [hch.out, all_at hx])
              have HLT := Lib.hid hlt
              unfold nv at g2
              clear hch
              have k0 : (0 : Int) ≤ (k : Int) := by omega
              have k1 : (k : Int) < (ds.length : Int) := by omega
              subst hA
              by_cases c1 : x < 2
              · have CF := Lib.hid (show ds.all dOk = false by rw [CH.out]; unfold dOk; rw [decide_eq_false (show ¬ 2 ≤ x by omega)]; rfl)
                have e1 : decide (x < 2) = true := decide_eq_true c1
                clear CH c1
                go_wp2
                go_ret
                exact ⟨ret_b (by rw [EQ.out, CF.out]; simp), KW.out⟩
              · have e1 : decide (x < 2) = false := decide_eq_false c1
                by_cases c2 : 511 < x
                · have CF := Lib.hid (show ds.all dOk = false by rw [CH.out]; unfold dOk; rw [decide_eq_false (show ¬ x ≤ 511 by omega)]; simp)
                  have e2 : decide (511 < x) = true := decide_eq_true c2
                  clear CH c1 c2
                  go_wp2
                  go_ret
                  exact ⟨ret_b (by rw [EQ.out, CF.out]; simp), KW.out⟩
                · have e2 : decide (511 < x) = false := decide_eq_false c2
                  have CF := Lib.hid (show ds.all dOk = (ds.drop (k + 1)).all dOk by rw [CH.out]; unfold dOk; rw [decide_eq_true (show 2 ≤ x by omega), decide_eq_true (show x ≤ 511 by omega)]; rfl)
                  clear CH c1 c2
                  go_wp2
                  go_roundw
                  case rel => exact ⟨k + 1, HLT.out, by go_num, CF, hb⟩
                  case measure => simp [intOf]; have := HLT.out; omega
            · obtain rfl : k = ds.length := by omega
              have CU := Lib.hid (show ds.all dOk = true by rw [hch.out, List.drop_length]; rfl)
              clear hch
              go_wp2
              go_ret
              exact ⟨ret_b (by rw [EQ.out, CT.out, CU.out]; rfl), KW.out⟩

    · have EQ := Lib.hid (plainB_no (lf := true) (ks := ks) (ds := ds) (by unfold shapedB; simp [he]))
      have e0 : ((ds.length : Int) != (ks.length : Int)) = true := by simp only [bne, Bool.not_eq_true', beq_eq_false_iff_ne, ne_eq]; omega
      have n0 : ¬ ((ds.length : Int) = (ks.length : Int)) := by omega
      have e1 : (ds.length != ks.length) = true := by simp only [bne, Bool.not_eq_true', beq_eq_false_iff_ne, ne_eq]; omega
      have n1 : ¬ (ds.length = ks.length) := by omega
      clear he
      go_enter Try.func25, Try.ntmps25
      go_wp2
      go_ret
      exact ⟨ret_b EQ.out.symm, bda _ _⟩
set_option maxHeartbeats 4000000 in
set_option maxRecDepth 100000 in
theorem rright_any (lf : Bool) (A : Option Addr) (c : Nat) (ks : List (List UInt8)) (B : Option Addr) (d : Nat) (ds : List Int) (w : World) (h : Rl sv w A c ks) (h2 : Rl nv w B d ds) (hl : ks.length ≤ 4000000) (hl2 : ds.length ≤ 4000001) (hz : sizeN ks ds < 4611686018427387904) :
    Calls Try.prog 19 #[.agg #[.bool lf, .slice A ks.length c, .slice B ds.length d]] w fun e w' => e = .returned (.bool (rightB lf ks ds)) ∧ Below w.heap.size w w' := by
  have H := Lib.hid h
  have PL := Lib.hid (fun V (hV : Rl sv V A c ks) (hV2 : Rl nv V B d ds) => plain_any lf A c ks B d ds V hV hV2 hl hl2)
  have SZ := Lib.hid (fun V (hV : Rl sv V A c ks) => rsize_any lf A c ks B d ds V hV hl hz)
  have H2 := Lib.hid h2
  clear h h2 hz
  have RB := Lib.hid (show rightB lf ks ds = (plainB lf ks ds && (!lf || decide (0 < ks.length)) && decide (sizeN ks ds ≤ 120)) from rfl)
  generalize rightB lf ks ds = R at *
  obtain ⟨W, hW⟩ : ∃ W : World, W = w.alloc (.cells #[.bool lf, .slice A ks.length c, .slice B ds.length d] 33) := ⟨_, rfl⟩
  have ra := heap_alloc_new w (.cells #[.bool lf, .slice A ks.length c, .slice B ds.length d] 33)
  rw [← hW] at ra
  have RA := Lib.hid ra
  have BA := Lib.hid (show Below w.heap.size w W by rw [hW]; exact bda _ _)
  have HW := Lib.hid hW
  clear hW ra
  cases hp : plainB lf ks ds
  · rw [hp] at PL RB
    have RC := Lib.hid (show R = false by rw [RB.out]; rfl)
    clear hp RB
    go_enter Try.func19, Try.ntmps19
    go_wp2_with fail
    rw [← HW.out]
    refine (PL.out _ (H.out.below BA.out) (H2.out.below BA.out)).mono ?_
    rintro e w2 ⟨rfl, hb⟩
    have K2 := Lib.hid (BA.out.trans (hb.mono BA.out.size))
    clear hb
    go_wp2
    go_ret
    exact ⟨ret_b RC.out.symm, K2.out⟩
  · rw [hp] at PL RB
    clear hp
    generalize sizeN ks ds = SN at *
    by_cases hk : lf = true ∧ ks.length = 0
    · obtain ⟨rfl, hk⟩ := hk
      have RC := Lib.hid (show R = false by rw [RB.out, decide_eq_false (show ¬ 0 < ks.length by omega)]; rfl)
      have e1 : decide (0 < ks.length) = false := decide_eq_false (by omega)
      have e2 : decide ((0 : Int) < (ks.length : Int)) = false := decide_eq_false (by omega)
      clear RB hk
      go_enter Try.func19, Try.ntmps19
      go_wp2_with fail
      rw [← HW.out]
      refine (PL.out _ (H.out.below BA.out) (H2.out.below BA.out)).mono ?_
      rintro e w2 ⟨rfl, hb⟩
      have f0 := row_c (row_on RA.out hb) (i := 0) rfl
      have f1 := row_c (row_on RA.out hb) (i := 1) rfl
      have K2 := Lib.hid (BA.out.trans (hb.mono BA.out.size))
      clear hb
      go_wp2
      go_ret
      exact ⟨ret_b RC.out.symm, K2.out⟩
    · have RC := Lib.hid (show R = decide (SN ≤ 120) by
        rw [RB.out]
        cases lf
        · simp
        · rw [decide_eq_true (show 0 < ks.length from by
            rcases Nat.eq_zero_or_pos ks.length with h0 | h0
            · exact absurd ⟨rfl, h0⟩ hk
            · exact h0)]; simp)
      have e1 : lf = true → decide (0 < ks.length) = true := fun hh => decide_eq_true (by
        rcases Nat.eq_zero_or_pos ks.length with h0 | h0
        · exact absurd ⟨hh, h0⟩ hk
        · exact h0)
      have e2 : lf = true → decide ((0 : Int) < (ks.length : Int)) = true := fun hh => decide_eq_true (by
        have := of_decide_eq_true (e1 hh)
        omega)
      have e3 : decide ((SN : Int) ≤ 120) = decide (SN ≤ 120) := decide_eq_decide.2 (by omega)
      clear RB hk
      generalize decide (SN ≤ 120) = Z at *
      cases lf
      all_goals
        try have e1 := e1 rfl
        try have e2 := e2 rfl
        go_enter Try.func19, Try.ntmps19
        go_wp2_with fail
        rw [← HW.out]
        refine (PL.out _ (H.out.below BA.out) (H2.out.below BA.out)).mono ?_
        rintro e w2 ⟨rfl, hb⟩
        have R2 := Lib.hid (row_on RA.out hb)
        have K2 := Lib.hid (BA.out.trans (hb.mono BA.out.size))
        clear hb
        have f0 := row_c R2.out (i := 0) rfl
        have f1 := row_c R2.out (i := 1) rfl
        have f2 := row_c R2.out (i := 2) rfl
        go_wp2_with fail
        refine (SZ.out _ (H.out.below K2.out)).mono ?_
        rintro e W ⟨rfl, hb⟩
        have K3 := Lib.hid (K2.out.trans (hb.mono K2.out.size))
        clear hb
        go_wp2
        go_ret
        exact ⟨ret_b RC.out.symm, K3.out⟩
end Go.Proofs.Ytkbdcbcjbgbglaa
