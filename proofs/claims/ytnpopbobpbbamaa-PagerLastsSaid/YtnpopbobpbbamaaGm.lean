/-
  pager's readHead of a head's own text.
-/
import Derived.Test.YtnpopbobpbbamaaGl
import Derived.Test.YtnpopbobpbbamaaPe
namespace Go.Proofs.Ytnpopbobpbbamaa
open Go.RowKit
set_option linter.unusedSimpArgs false
set_option linter.unusedVariables false
theorem or_i64G {a b k : Nat} (ha : a % 2 ^ k = 0) (hb : b < 2 ^ k) (h : a < 72057594037927936) (hk : 2 ^ k ≤ 4294967296) : bits .or .i64 (a : Int) (b : Int) = ((a + b : Nat) : Int) := by
  show IntKind.i64.wrap ((BitVec.ofInt 64 (a : Int) ||| BitVec.ofInt 64 (b : Int)).toNat : Int) = _
  have e1 : (BitVec.ofInt 64 (a : Int)).toNat = a := by rw [BitVec.ofInt_natCast, BitVec.toNat_ofNat]; exact Nat.mod_eq_of_lt (by omega)
  have e2 : (BitVec.ofInt 64 (b : Int)).toNat = b := by rw [BitVec.ofInt_natCast, BitVec.toNat_ofNat]; exact Nat.mod_eq_of_lt (by omega)
  have e3 : a ||| b = a + b := by
    have h1 : a = (a / 2 ^ k) <<< k := by rw [Nat.shiftLeft_eq]; have := Nat.div_add_mod a (2 ^ k); rw [ha, Nat.mul_comm] at this; omega
    rw [h1, ← Nat.shiftLeft_add_eq_or_of_lt hb]
  rw [BitVec.toNat_or, e1, e2, e3]
  exact IntWalk.i64_in _ (by omega)
theorem B8_b0 : ∀ a b c d e f g h, B8 a b c d e f g h / 2 ^ 0 % 2 = a.toNat := by decide
theorem B8_b1 : ∀ a b c d e f g h, B8 a b c d e f g h / 2 ^ 1 % 2 = b.toNat := by decide
theorem B8_b2 : ∀ a b c d e f g h, B8 a b c d e f g h / 2 ^ 2 % 2 = c.toNat := by decide
theorem B8_b3 : ∀ a b c d e f g h, B8 a b c d e f g h / 2 ^ 3 % 2 = d.toNat := by decide
theorem B8_b4 : ∀ a b c d e f g h, B8 a b c d e f g h / 2 ^ 4 % 2 = e.toNat := by decide
theorem B8_b5 : ∀ a b c d e f g h, B8 a b c d e f g h / 2 ^ 5 % 2 = f.toNat := by decide
theorem B8_b6 : ∀ a b c d e f g h, B8 a b c d e f g h / 2 ^ 6 % 2 = g.toNat := by decide
theorem B8_b7 : ∀ a b c d e f g h, B8 a b c d e f g h / 2 ^ 7 % 2 = h.toNat := by decide
theorem b8_bit (V : Nat → Bool) (j r : Nat) (hr : r < 8) : b8 V j / 2 ^ r % 2 = (V (8 * j + r)).toNat := by
  unfold b8
  match r, hr with
  | 0, _ => rw [B8_b0]; rfl
  | 1, _ => rw [B8_b1]
  | 2, _ => rw [B8_b2]
  | 3, _ => rw [B8_b3]
  | 4, _ => rw [B8_b4]
  | 5, _ => rw [B8_b5]
  | 6, _ => rw [B8_b6]
  | 7, _ => rw [B8_b7]
theorem at8_head (T R : Nat) (U : Nat → Bool) {j : Nat} (h : j < 72) : at8 (headL T R U) j = hF T R U j := by
  unfold at8 headL
  rw [List.getElem?_map, List.getElem?_range h]
  have := hF_lt T R U j
  simp; omega
theorem tk_step {T k : Nat} (h : k < 6) : T / 2 ^ (8 * (6 - k)) * 256 + T / 2 ^ (8 * (5 - k)) % 256 = T / 2 ^ (8 * (6 - (k + 1))) := by
  have e : 8 * (6 - k) = 8 * (5 - k) + 8 := by omega
  rw [e, Nat.pow_add, ← Nat.div_div_eq_div_mul, show 6 - (k + 1) = 5 - k by omega]
  generalize T / 2 ^ (8 * (5 - k)) = X
  omega
theorem and_one {y : Nat} (h : y < 256) : bits .and .u8 (y : Int) 1 = ((y % 2 : Nat) : Int) := by
  have := u8_and (y : Int) 1 (by omega) (by omega) (by omega) (by omega)
  rw [this]
  simp

set_option maxHeartbeats 8000000 in
set_option maxRecDepth 100000 in
theorem readHead_any (T R : Nat) (U : Nat → Bool) (w : World) (hT : T < 281474976710656) (hR : R < 65536) :
    Calls Try.prog 35 #[.string ⟨(headL T R U).toArray⟩] w fun e w' => ∃ bm, e = .returned (.tuple #[.agg #[.int .i64 (T : Int), .int .i64 (R : Int), .map (some bm)], .bool true]) ∧ w.heap.size ≤ bm ∧ Us w' bm 512 U ∧ Below w.heap.size w w' := by
  have hmm := @run_makeMap Try.prog
  obtain ⟨W, hW⟩ : ∃ W : World, W = ((w.alloc (.cells #[.int .i64 0, .int .i64 0, .map none] 45)).alloc (.map #[] 0)).alloc (.cells #[.int .i64 0, .int .i64 0, .map (some (w.heap.size + 1))] 45) := ⟨_, rfl⟩
  have hbW : Below w.heap.size w W := by rw [hW]; exact bon (bon (bda _ _) (bda _ _)) (bda _ _)
  have R1 := Lib.hid (show W.heap[w.heap.size]? = some (.cells #[.int .i64 0, .int .i64 0, .map none] 45 (0, 0)) by rw [hW]; exact row_on (row_on (heap_alloc_new w _) (bda _ _)) (bda _ _))
  have R3 := Lib.hid (show W.heap[w.heap.size + 1 + 1]? = some (.cells #[.int .i64 ((T / 2 ^ (8 * (6 - 0)) : Nat) : Int), .int .i64 0, .map (some (w.heap.size + 1))] 45 (0, 0)) by
    rw [hW, show T / 2 ^ (8 * (6 - 0)) = 0 from Nat.div_eq_of_lt hT]
    have := heap_alloc_new ((w.alloc (.cells #[.int .i64 0, .int .i64 0, .map none] 45)).alloc (.map #[] 0)) (.cells #[.int .i64 0, .int .i64 0, .map (some (w.heap.size + 1))] 45)
    simpa using this)
  have U0 := Lib.hid (show Us W (w.heap.size + 1) 0 (fun _ => false) by
    rw [hW]
    have := (Us.made (w.alloc (.cells #[.int .i64 0, .int .i64 0, .map none] 45))).below (bda _ (.cells #[.int .i64 0, .int .i64 0, .map (some (w.heap.size + 1))] 45))
    simpa using this)
  have BW := Lib.hid hbW
  have HA := Lib.hid (fun j (hj : j < 72) => at8_head T R U hj)
  obtain ⟨b, hb⟩ : ∃ b, headL T R U = b := ⟨_, rfl⟩
  have lb : b.length = 72 := by rw [← hb]; exact headL_len _ _ _
  rw [hb] at HA ⊢
  have hsz := str_size b
  have LBB := Lib.hid lb
  have e72 : ((b.length : Int) == 72) = true := by simp; omega
  have n72 : ((b.length : Int) != 72) = false := by simp; omega
  have HT := Lib.hid (And.intro hT hR)
  clear hbW hb hT hR
  rw [lb] at hsz e72 n72
  clear e72 n72 lb
  go_enter Try.func35, Try.ntmps35
  go_wp2_with fail
  rw [← hW]
  clear hW hmm
  go_loopw [13] (fun kv wr => ∃ k : Nat, k ≤ 6 ∧ kv = .int .i64 k ∧ Hid (wr.heap[w.heap.size + 1 + 1]? = some (.cells #[.int .i64 ((T / 2 ^ (8 * (6 - k)) : Nat) : Int), .int .i64 0, .map (some (w.heap.size + 1))] 45 (0, 0))) ∧ Hid (W.grownBy wr (some (w.heap.size + 1 + 1)))) (fun kv _ => 6 - (intOf kv).toNat)
  case atStart => exact ⟨0, by omega, rfl, R3, Lib.hid (World.grownBy.refl _ _)⟩
  case round =>
    obtain ⟨k, hk, rfl, hr, hg⟩ := hrel
    by_cases hk6 : k < 6
    · have TK := Lib.hid (tk_step (T := T) hk6)
      have hk1 := HA.out k (by omega)
      rw [show hF T R U k = T / 2 ^ (8 * (5 - k)) % 256 by unfold hF; rw [if_pos hk6]] at hk1
      have hle : T / 2 ^ (8 * (5 - k)) < 281474976710656 := Nat.lt_of_le_of_lt (Nat.div_le_self _ _) HT.out.1
      obtain ⟨X', hX'⟩ : ∃ X', T / 2 ^ (8 * (6 - (k + 1))) = X' := ⟨_, rfl⟩
      have hX2 : X' < 281474976710656 := by rw [← hX']; exact Nat.lt_of_le_of_lt (Nat.div_le_self _ _) HT.out.1
      obtain ⟨a, ha⟩ : ∃ a, T / 2 ^ (8 * (6 - k)) = a := ⟨_, rfl⟩
      obtain ⟨y, hy⟩ : ∃ y, T / 2 ^ (8 * (5 - k)) % 256 = y := ⟨_, rfl⟩
      have y8 : y < 256 := by omega
      have TKO := TK.out
      rw [ha, hy, hX'] at TKO
      rw [hy] at hk1
      rw [ha] at hr
      obtain ⟨m, hm⟩ : ∃ m, a * 256 = m := ⟨_, rfl⟩
      have OR : bits .or .i64 (m : Int) (y : Int) = (X' : Int) := by
        rw [or_i64G (k := 8) (by omega) (by omega) (by omega) (by omega)]
        omega
      have SH : ((a : Int) * 256) = (m : Int) := by omega
      have SW : IntKind.i64.wrap (m : Int) = (m : Int) := IntWalk.i64_in _ (by omega)
      have SY : IntKind.i64.wrap (y : Int) = (y : Int) := IntWalk.i64_in _ (by omega)
      have S2 : wrap64 (m : Int) = (m : Int) := IntWalk.wrap64_in _ ⟨by omega, by omega⟩
      have g0 := ba_at b k
      rw [hk1] at g0
      have c0 := row_c (i := 0) hr.out rfl
      have z0 := frozen_of_row _ _ 0 _ _ hr.out
      have s0 := Lib.hid (row_setG (i := 0) hr.out (.int .i64 (X' : Int)))
      have G1 := Lib.hid (grown_trans hg.out (grown_set (w.heap.size + 1 + 1) 0 (.int .i64 (X' : Int))))
      have k0 : (0 : Int) ≤ (k : Int) := by omega
      have k1 : (k : Int) < 72 := by omega
      have k2 : k < 72 := by omega
      have k6 : decide ((k : Int) < 6) = true := decide_eq_true (by omega)
      have KL := Lib.hid (And.intro hk6 hX')
      have kw := Lib.hid (wup (k := k) (by omega))
      clear TK hk1 hle hX' hX2 ha hy y8 TKO hm hr hg hk6 hk
      go_wp2_with fail
      refine wp_region_still_tail 8 (by kernel_rfl) (by kernel_rfl) ?_
      simp only [List.take_succ_cons, List.take_zero, List.drop_succ_cons, List.drop_zero]
      repeat still_step
      refine wpStill_nil ?_
      change wpList _ _ _ _ _ wr.drew
      go_wp2_with fail
      refine ⟨⟨k + 1, KL.out.1, rfl, Lib.hid ?_, Lib.hid (grown_drew G1.out)⟩, ?_⟩
      · rw [KL.out.2]
        exact s0.out
      · have := KL.out.1
        simp [intOf]; omega
    · obtain rfl : k = 6 := by omega
      clear hk6 hk
      rw [show (((6 : Nat) : Int)) = (6 : Int) from rfl]
      have h6 := HA.out 6 (by omega)
      have h7 := HA.out 7 (by omega)
      rw [show hF T R U 6 = R / 256 by unfold hF; rw [if_neg (by omega), if_pos rfl]; have := HT.out.2; omega] at h6
      rw [show hF T R U 7 = R % 256 by unfold hF; rw [if_neg (by omega), if_neg (by omega), if_pos rfl]] at h7
      obtain ⟨a, ha⟩ : ∃ a, R / 256 = a := ⟨_, rfl⟩
      obtain ⟨y, hy⟩ : ∃ y, R % 256 = y := ⟨_, rfl⟩
      obtain ⟨m, hm⟩ : ∃ m, a * 256 = m := ⟨_, rfl⟩
      rw [ha] at h6
      rw [hy] at h7
      have hR6 := HT.out.2
      have a2 : a < 256 := by omega
      have y8 : y < 256 := by omega
      have OR : bits .or .i64 (m : Int) (y : Int) = (R : Int) := by
        rw [or_i64G (k := 8) (by omega) (by omega) (by omega) (by omega)]
        omega
      have SH : ((a : Int) * 256) = (m : Int) := by omega
      have SW : IntKind.i64.wrap (m : Int) = (m : Int) := IntWalk.i64_in _ (by omega)
      have SA : IntKind.i64.wrap (a : Int) = (a : Int) := IntWalk.i64_in _ (by omega)
      have SY : IntKind.i64.wrap (y : Int) = (y : Int) := IntWalk.i64_in _ (by omega)
      have S2 : wrap64 (m : Int) = (m : Int) := IntWalk.wrap64_in _ ⟨by omega, by omega⟩
      have g6 := ba_at b 6
      have g7 := ba_at b 7
      rw [h6] at g6
      rw [h7] at g7
      have hr2 := hr.out
      rw [show T / 2 ^ (8 * (6 - 6)) = T by simp] at hr2
      have c1 := row_c (i := 1) hr2 rfl
      have z1 := frozen_of_row _ _ 1 _ _ hr2
      have s1 := Lib.hid (row_setG (i := 1) hr2 (.int .i64 (R : Int)))
      have G1 := Lib.hid (grown_drew (grown_trans hg.out (grown_set (w.heap.size + 1 + 1) 1 (.int .i64 (R : Int)))))
      have b6 : ((6 : Nat) : Int) < 72 := by omega
      have b7 : ((7 : Nat) : Int) < 72 := by omega
      have b6' : 6 < 72 := by omega
      have b7' : 7 < 72 := by omega
      clear h6 h7 ha hy hm a2 y8 hR6 hr hg hr2
      go_wp2_with fail
      refine wp_region_still_tail 8 (by kernel_rfl) (by kernel_rfl) ?_
      simp only [List.take_succ_cons, List.take_zero, List.drop_succ_cons, List.drop_zero]
      repeat still_step
      refine wpStill_nil ?_
      change wpList _ _ _ _ _ wr.drew
      go_wp2_with fail
      obtain ⟨V, hV⟩ : ∃ V : World, V = (wr.setCell ⟨w.heap.size + 1 + 1, 1, none⟩ (.int .i64 (R : Int))).drew := ⟨_, rfl⟩
      have RV := Lib.hid (show V.heap[w.heap.size + 1 + 1]? = some (.cells #[.int .i64 (T : Int), .int .i64 (R : Int), .map (some (w.heap.size + 1))] 45 (0, 0)) by rw [hV]; exact s1.out)
      have GV := Lib.hid (show W.grownBy V (some (w.heap.size + 1 + 1)) by rw [hV]; exact G1.out)
      have UV := Lib.hid (U0.out.kept GV.out (fun e => by have := Option.some.inj e; omega))
      rw [← hV]
      clear hV s1 G1 c1 z1 g6 g7 OR SH SW SA SY S2
      have R1V := Lib.hid (grown_row GV.out R1.out (by omega))
      go_loopw [35] (fun kv wr => ∃ k : Nat, k ≤ 512 ∧ kv = .int .i64 k ∧ Hid (Us wr (w.heap.size + 1) k (fun i => decide (i < k) && U i)) ∧ Hid (V.grownBy wr (some (w.heap.size + 1)))) (fun kv _ => 512 - (intOf kv).toNat)
      case atStart => exact ⟨0, by omega, rfl, Lib.hid (UV.out.ext (fun i _ => by simp)), Lib.hid (World.grownBy.refl _ _)⟩
      case round =>
        obtain ⟨k, hk, rfl, hu, hg⟩ := hrel
        have r3 := row_c (i := 2) (grown_row hg.out RV.out (by omega)) rfl
        by_cases hk2 : k < 512
        · obtain ⟨q, hq⟩ : ∃ q, k / 8 = q := ⟨_, rfl⟩
          obtain ⟨r, hrr⟩ : ∃ r, k % 8 = r := ⟨_, rfl⟩
          obtain ⟨j, hj⟩ : ∃ j, 8 + q = j := ⟨_, rfl⟩
          have hkq : 8 * q + r = k := by omega
          have r8 : r < 8 := by omega
          have q64 : q < 64 := by omega
          have ha := HA.out j (by omega)
          rw [show hF T R U j = b8 U q by unfold hF; rw [if_neg (by omega), if_neg (by omega), if_neg (by omega), show j - 8 = q by omega]] at ha
          have hbit := b8_bit U q r r8
          rw [hkq] at hbit
          have hb8 := b8_lt U q
          obtain ⟨Y, hY⟩ : ∃ Y, b8 U q = Y := ⟨_, rfl⟩
          rw [hY] at ha hbit hb8
          obtain ⟨z, hz⟩ : ∃ z, Y / 2 ^ r = z := ⟨_, rfl⟩
          have hz8 : z < 256 := by rw [← hz]; exact Nat.lt_of_le_of_lt (Nat.div_le_self _ _) hb8
          have S1 : (Y : Int) / 2 ^ r = (z : Int) := by rw [← hz]; simp
          rw [hz] at hbit
          have AN := Lib.hid (show bits .and .u8 (z : Int) 1 = (((U k).toNat : Nat) : Int) by rw [← hbit]; exact and_one hz8)
          have g0 := ba_at b j
          rw [ha] at g0
          have W1h := Lib.hid (show IntKind.i64.wrap (8 + (q : Int)) = (j : Int) by rw [IntWalk.i64_in _ (by omega)]; omega)
          have W1h' := Lib.hid (show wrap64 (8 + (q : Int)) = (j : Int) by rw [IntWalk.wrap64_in _ ⟨by omega, by omega⟩]; omega)
          have W2 : (k : Int) / 8 = (q : Int) := by omega
          have W3 : (k : Int) % 8 = (r : Int) := by omega
          have W9 : 8 + (q : Int) = (j : Int) := by omega
          have j0 : (0 : Int) ≤ (j : Int) := by omega
          have j1 : (j : Int) < 72 := by omega
          have j2 : j < 72 := by omega
          have KL := Lib.hid hk2
          have kw := Lib.hid (wup (k := k) (by omega))
          have NE := Lib.hid (fun i => show ((decide (i < k) && U i) || (i == k && U k)) = (decide (i < k + 1) && U i) by
            by_cases e : i = k
            · subst e; simp
            · have h1 : (i == k) = false := by simpa using e
              rw [h1, show decide (i < k + 1) = decide (i < k) by rw [Bool.eq_iff_iff]; simp; omega]; simp)
          have hkey := Maps.keyOf_int_mk Try.underlying3 (wf_nat hk2)
          obtain ⟨uk, huk⟩ : ∃ uk, U k = uk := ⟨_, rfl⟩
          rw [huk] at AN NE
          have d1 : decide ((k : Int) < 512) = true := decide_eq_true (by omega)
          have k5 : (k : Int) < 512 := by omega
          have mlk := Lib.hid (show k < maxLen by unfold maxLen; omega)
          clear hq hrr hj hkq q64 ha hbit hb8 hY hz hz8 hk2 hk huk
          have W1 := W1h.out
          have W1' := W1h'.out
          cases uk
          · have AN2 : bits .and .u8 (z : Int) 1 = 0 := AN.out
            clear AN
            go_wp2_with fail
            refine ⟨⟨k + 1, KL.out, rfl, Lib.hid ((hu.out.mono (Nat.le_succ _)).ext (fun i _ => ?_)), hg⟩, ?_⟩
            · rw [← NE.out i]; simp
            · have := KL.out
              simp [intOf]; omega
          · have AN2 : bits .and .u8 (z : Int) 1 = 1 := AN.out
            clear AN
            obtain ⟨D, hown, hD⟩ := hu.out
            have HD := Lib.hid hD
            clear hD hu
            go_wp2_with (first | (at_mapUpdate; refine wpList_mapUpdate_own _ rfl _ _ _ 43 rfl 3 64 iK Try.underlying43 (unitElem (H := Unit)) (w.heap.size + 1) k D rfl hown mlk.out _ _ _ rfl rfl hkey _ [] unitElem_mk ?_; intro w1 hown1 hg1) | go_in)
            have U2 := Us.ins (p := k) KL.out hown HD.out hown1
            refine ⟨⟨k + 1, KL.out, rfl, Lib.hid (U2.ext (fun i _ => ?_)), Lib.hid (grown_trans hg.out hg1)⟩, ?_⟩
            · rw [← NE.out i, Bool.and_true]
            · have := KL.out
              simp [intOf]; omega
        · obtain rfl : k = 512 := by omega
          have UU := Lib.hid (hu.out.ext (V := U) (fun i hi => by rw [decide_eq_true hi]; rfl))
          have r0 := row_c (i := 0) (grown_row hg.out RV.out (by omega)) rfl
          have r1 := row_c (i := 1) (grown_row hg.out RV.out (by omega)) rfl
          have b1 := grown_row hg.out R1V.out (by omega)
          have f0 := row_c (i := 0) b1 rfl
          have f1 := row_c (i := 1) b1 rfl
          have f2 := row_c (i := 2) b1 rfl
          have z0 := frozen_of_row _ _ 0 _ _ b1
          have z1 := frozen_of_row _ _ 1 _ _ b1
          have z2 := frozen_of_row _ _ 2 _ _ b1
          have S2 := Lib.hid (row_setG (i := 2) (row_setG (i := 1) (row_setG (i := 0) b1 (.int .i64 (T : Int))) (.int .i64 (R : Int))) (.map (some (w.heap.size + 1))))
          have UB := Lib.hid (show Below w.heap.size w wr from (BW.out.trans (below_of_grown GV.out (by omega) BW.out.size)).trans (below_of_grown hg.out (by omega) (Nat.le_trans BW.out.size GV.out.size)))
          clear b1 hu hk2 hk
          go_wp2_with fail
          have fr0 := row_c (i := 0) S2.out rfl
          have fr1 := row_c (i := 1) S2.out rfl
          have fr2 := row_c (i := 2) S2.out rfl
          refine bodyPost_ret (v := .tuple #[.agg #[.int .i64 (T : Int), .int .i64 (R : Int), .map (some (w.heap.size + 1))], .bool true]) (by simp [results, Try.results35, go_sem, fr0, fr1, fr2]) rfl ?_
          refine ⟨_, rfl, by omega, ?_, ?_⟩
          · refine UU.out.same ?_
            rw [Below.heap_setCell _ _ _ _ (by simp), Below.heap_setCell _ _ _ _ (by simp), Below.heap_setCell _ _ _ _ (by simp)]
          · exact ((UB.out.setCell (Nat.le_refl _) _).setCell (Nat.le_refl _) _).setCell (Nat.le_refl _) _
end Go.Proofs.Ytnpopbobpbbamaa
