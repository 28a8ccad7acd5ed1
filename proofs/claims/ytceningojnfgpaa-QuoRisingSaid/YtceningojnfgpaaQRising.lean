/-
  astrolabelaw03.QuoRising: of two numbers that rise the roots do not fall, nor the quotients by one divisor; of a number four times as great the root is twice as great, or one more.
-/
import Derived.Test.YtceningojnfgpaaExam
import Derived.Test.YtceningojnfgpaaQSquares
namespace Go.Proofs.Ytceningojnfgpaa
open Go.RowKit
theorem rt_mono {a b : Nat} (h : a ≤ b) : rt a ≤ rt b := rt_le (Nat.lt_of_le_of_lt h (rt_spec b).2)
theorem rt_four (x : Nat) : rt x + rt x ≤ rt (x * 2 ^ 2) ∧ rt (x * 2 ^ 2) ≤ rt x + rt x + 1 := by
  have h := rt_spec x
  have k := rt_spec (x * 2 ^ 2)
  generalize rt x = r at *
  generalize rt (x * 2 ^ 2) = s at *
  constructor
  · apply Nat.le_of_lt_succ
    apply sq_lt
    have e : (r + r) * (r + r) = r * r * 2 ^ 2 := by rw [Nat.add_mul, Nat.mul_add]; omega
    rw [e]
    exact Nat.lt_of_le_of_lt (Nat.mul_le_mul_right _ h.1) k.2
  · apply Nat.le_of_lt_succ
    apply sq_lt
    have e : (r + r + 1 + 1) * (r + r + 1 + 1) = (r + 1) * (r + 1) * 2 ^ 2 := by rw [show r + r + 1 + 1 = (r + 1) + (r + 1) by omega, Nat.add_mul, Nat.mul_add]; omega
    show s * s < (r + r + 1 + 1) * (r + r + 1 + 1)
    rw [e]
    exact Nat.lt_of_le_of_lt k.1 (Nat.mul_lt_mul_of_pos_right h.2 (by omega))
set_option maxHeartbeats 8000000 in
set_option maxRecDepth 100000 in
theorem qrising_any (A : Option Addr) (ca : Nat) (xs : List Nat) (B : Option Addr) (cb : Nat) (ys : List Nat) (C : Option Addr) (cc : Nat) (zs : List Nat)  (w : World) (hX : Dg w A ca xs) (hY : Dg w B cb ys) (hZ : Dg w C cc zs)  :
    Calls Try.prog 10 #[.slice A xs.length ca, .slice B ys.length cb, .slice C zs.length cc] w fun e w' => e = .returned (.bool true) ∧ Below w.heap.size w w' := by
  have L0 := Lib.hid ((((live_start w).add (hX.take 20)).add (hY.take 20)).add (hZ.take 20))
  have mX := hX.1
  have nX : (0 : Int) ≤ min (xs.length : Int) 20 := by omega
  have kX : min (xs.length : Int) 20 ≤ (ca : Int) := by omega
  have HnX := Lib.hid (show (min (xs.length : Int) 20).toNat = (xs.take 20).length from by rw [List.length_take]; omega)
  have lX : (xs.take 20).length ≤ 20 := by rw [List.length_take]; omega
  have dX := digs_len_le (hX.take 20).2.1
  have oX := Lib.hid (hX.take 20).2.1
  have mY := hY.1
  have nY : (0 : Int) ≤ min (ys.length : Int) 20 := by omega
  have kY : min (ys.length : Int) 20 ≤ (cb : Int) := by omega
  have HnY := Lib.hid (show (min (ys.length : Int) 20).toNat = (ys.take 20).length from by rw [List.length_take]; omega)
  have lY : (ys.take 20).length ≤ 20 := by rw [List.length_take]; omega
  have dY := digs_len_le (hY.take 20).2.1
  have oY := Lib.hid (hY.take 20).2.1
  have mZ := hZ.1
  have nZ : (0 : Int) ≤ min (zs.length : Int) 20 := by omega
  have kZ : min (zs.length : Int) 20 ≤ (cc : Int) := by omega
  have HnZ := Lib.hid (show (min (zs.length : Int) 20).toNat = (zs.take 20).length from by rw [List.length_take]; omega)
  have lZ : (zs.take 20).length ≤ 20 := by rw [List.length_take]; omega
  have dZ := digs_len_le (hZ.take 20).2.1
  have oZ := Lib.hid (hZ.take 20).2.1
  clear hX mX hY mY hZ mZ
  generalize xs.take 20 = X at *
  generalize ys.take 20 = Y at *
  generalize zs.take 20 = Z at *
  by_cases h0 : val Y < val X
  · by_cases h1 : val Z = 0
    · have HLE := Lib.hid (show val Y ≤ val X by omega)
      have HAB := Lib.hid h0
      have HZ := Lib.hid h1
      obtain ⟨q1, hq1⟩ : ∃ q : Int, cmpi (rt (val Y)) (rt (val X)) = q := ⟨_, rfl⟩
      have dq1 : decide (q1 ≤ 0) = true := by rw [decide_eq_true_iff, ← hq1]; exact cmpi_le0 (rt_mono HLE.out)
      have HQ1 := Lib.hid hq1
      clear hq1
      obtain ⟨q2, hq2⟩ : ∃ q : Int, cmpi (rt (val Y * 2 ^ 2) - (rt (val Y) + rt (val Y))) (1) = q := ⟨_, rfl⟩
      have dq2 : decide (q2 ≤ 0) = true := by rw [decide_eq_true_iff, ← hq2]; exact cmpi_le0 (by have := rt_four (val Y); omega)
      have HQ2 := Lib.hid hq2
      clear hq2
      clear h0 h1
      go_enter Try.func10, Try.ntmps10
      go_wp2_with fail
      refine (examples_any w).mono ?_
      rintro e w1 ⟨rfl, hb1⟩
      have L1 := Lib.hid (L0.out.step hb1)
      clear hb1
      go_wp2_with fail
      refine Calls.mono (cmp_l (xs := X) (ys := Y) (x := val X) (y := val Y) L1.out (by simp) (by simp) HnX.out HnY.out rfl rfl (by omega) (by omega) (q := 1) (cmpi_gt HAB.out)) ?_
      rintro e w2 ⟨rfl, h1⟩
      have L2 := Lib.hid h1
      clear h1
      go_wp2_with fail
      refine Calls.mono (sqrt_l (xs := Y) (x := val Y) L2.out (by simp) HnY.out rfl (by omega)) ?_
      rintro e w3 ⟨A3, c3, B3, d3, rfl, h1⟩
      have L3 := Lib.hid h1
      clear h1
      have lq3 := digs_len_mono _ _ (rt_self (val Y))
      have lr3 := digs_sub_len (val Y) (rt (val Y) * rt (val Y))
      go_wp2_with fail
      refine Calls.mono (sqrt_l (xs := X) (x := val X) L3.out (by simp) HnX.out rfl (by omega)) ?_
      rintro e w4 ⟨A4, c4, B4, d4, rfl, h1⟩
      have L4 := Lib.hid h1
      clear h1
      have lq4 := digs_len_mono _ _ (rt_self (val X))
      have lr4 := digs_sub_len (val X) (rt (val X) * rt (val X))
      go_wp2_with fail
      refine Calls.mono (shl_l (xs := Y) (x := val Y) L4.out (by simp) HnY.out rfl (by omega) (i := 2) (k := 2) rfl (by omega)) ?_
      rintro e w5 ⟨A5, c5, rfl, h1⟩
      have L5 := Lib.hid h1
      clear h1
      have len5 := digs_shl_len (val Y) 2
      go_wp2_with fail
      refine Calls.mono (sqrt_l (xs := digs ((val Y) * 2 ^ 2)) (x := (val Y) * 2 ^ 2) L5.out (by simp) rfl (val_digs _) (by omega)) ?_
      rintro e w6 ⟨A6, c6, B6, d6, rfl, h1⟩
      have L6 := Lib.hid h1
      clear h1
      have lq6 := digs_len_mono _ _ (rt_self ((val Y) * 2 ^ 2))
      have lr6 := digs_sub_len ((val Y) * 2 ^ 2) (rt ((val Y) * 2 ^ 2) * rt ((val Y) * 2 ^ 2))
      go_wp2_with fail
      refine Calls.mono (add_l (xs := digs (rt (val Y))) (ys := digs (rt (val Y))) (x := rt (val Y)) (y := rt (val Y)) L6.out (by simp) (by simp) rfl rfl (val_digs _) (val_digs _) (by omega) (by omega)) ?_
      rintro e w7 ⟨A7, c7, rfl, h1⟩
      have L7 := Lib.hid h1
      clear h1
      have len7 := digs_add_len (rt (val Y)) (rt (val Y))
      go_wp2_with fail
      refine Calls.mono (sub_l (xs := digs (rt ((val Y) * 2 ^ 2))) (ys := digs ((rt (val Y)) + (rt (val Y)))) (x := rt ((val Y) * 2 ^ 2)) (y := (rt (val Y)) + (rt (val Y))) L7.out (by simp) (by simp) rfl rfl (val_digs _) (val_digs _) (by omega) (by omega) (rt_four _).1) ?_
      rintro e w8 ⟨A8, c8, rfl, h1⟩
      have L8 := Lib.hid h1
      clear h1
      have len8 := digs_sub_len (rt ((val Y) * 2 ^ 2)) ((rt (val Y)) + (rt (val Y)))
      go_wp2_with fail
      refine Calls.mono (divmod_l_no (xs := Y) (ys := Z) L8.out (by simp) (by simp) HnY.out HnZ.out HZ.out (by omega) (by omega)) ?_
      rintro e w9 ⟨rfl, h1⟩
      have L9 := Lib.hid h1
      clear h1
      go_wp2_with fail
      refine Calls.mono (divmod_l_no (xs := X) (ys := Z) L9.out (by simp) (by simp) HnX.out HnZ.out HZ.out (by omega) (by omega)) ?_
      rintro e w10 ⟨rfl, h1⟩
      have L10 := Lib.hid h1
      clear h1
      go_wp2_with fail
      refine Calls.mono (cmp_l (xs := digs (rt (val Y))) (ys := digs (rt (val X))) (x := rt (val Y)) (y := rt (val X)) L10.out (by simp) (by simp) rfl rfl (val_digs _) (val_digs _) (by omega) (by omega) (q := q1) HQ1.out) ?_
      rintro e w11 ⟨rfl, h1⟩
      have L11 := Lib.hid h1
      clear h1
      go_wp2_with fail
      have Lnone := Lib.hid (L11.out.new1 1 1 rfl (by omega))
      go_wp2_with fail
      refine Calls.mono (cmp_l (xs := digs ((rt ((val Y) * 2 ^ 2)) - ((rt (val Y)) + (rt (val Y))))) (ys := [1]) (x := (rt ((val Y) * 2 ^ 2)) - ((rt (val Y)) + (rt (val Y)))) (y := 1) Lnone.out (by simp) (by simp) rfl rfl (val_digs _) (by simp [val]) (by omega) (by simp <;> omega) (q := q2) HQ2.out) ?_
      rintro e w12 ⟨rfl, h1⟩
      have L12 := Lib.hid h1
      clear h1
      have Lnn := Lib.hid L12.out.none_
      go_wp2_with fail
      refine Calls.mono (cmp_l (xs := []) (ys := []) (x := 0) (y := 0) Lnn.out (by simp) (by simp) rfl rfl (by simp [val]) (by simp [val]) (by simp <;> omega) (by simp <;> omega) (q := 0) (cmpi_eq rfl)) ?_
      rintro e w13 ⟨rfl, h1⟩
      have L13 := Lib.hid h1
      clear h1
      go_wp2
      go_ret
      exact ⟨rfl, L13.out.1⟩
    · have HLE := Lib.hid (show val Y ≤ val X by omega)
      have HAB := Lib.hid h0
      have HZ := Lib.hid h1
      obtain ⟨q1, hq1⟩ : ∃ q : Int, cmpi (rt (val Y)) (rt (val X)) = q := ⟨_, rfl⟩
      have dq1 : decide (q1 ≤ 0) = true := by rw [decide_eq_true_iff, ← hq1]; exact cmpi_le0 (rt_mono HLE.out)
      have HQ1 := Lib.hid hq1
      clear hq1
      obtain ⟨q2, hq2⟩ : ∃ q : Int, cmpi (rt (val Y * 2 ^ 2) - (rt (val Y) + rt (val Y))) (1) = q := ⟨_, rfl⟩
      have dq2 : decide (q2 ≤ 0) = true := by rw [decide_eq_true_iff, ← hq2]; exact cmpi_le0 (by have := rt_four (val Y); omega)
      have HQ2 := Lib.hid hq2
      clear hq2
      obtain ⟨q3, hq3⟩ : ∃ q : Int, cmpi (val Y / val Z) (val X / val Z) = q := ⟨_, rfl⟩
      have dq3 : decide (q3 ≤ 0) = true := by rw [decide_eq_true_iff, ← hq3]; exact cmpi_le0 (Nat.div_le_div_right HLE.out)
      have HQ3 := Lib.hid hq3
      clear hq3
      clear h0 h1
      go_enter Try.func10, Try.ntmps10
      go_wp2_with fail
      refine (examples_any w).mono ?_
      rintro e w1 ⟨rfl, hb1⟩
      have L1 := Lib.hid (L0.out.step hb1)
      clear hb1
      go_wp2_with fail
      refine Calls.mono (cmp_l (xs := X) (ys := Y) (x := val X) (y := val Y) L1.out (by simp) (by simp) HnX.out HnY.out rfl rfl (by omega) (by omega) (q := 1) (cmpi_gt HAB.out)) ?_
      rintro e w2 ⟨rfl, h1⟩
      have L2 := Lib.hid h1
      clear h1
      go_wp2_with fail
      refine Calls.mono (sqrt_l (xs := Y) (x := val Y) L2.out (by simp) HnY.out rfl (by omega)) ?_
      rintro e w3 ⟨A3, c3, B3, d3, rfl, h1⟩
      have L3 := Lib.hid h1
      clear h1
      have lq3 := digs_len_mono _ _ (rt_self (val Y))
      have lr3 := digs_sub_len (val Y) (rt (val Y) * rt (val Y))
      go_wp2_with fail
      refine Calls.mono (sqrt_l (xs := X) (x := val X) L3.out (by simp) HnX.out rfl (by omega)) ?_
      rintro e w4 ⟨A4, c4, B4, d4, rfl, h1⟩
      have L4 := Lib.hid h1
      clear h1
      have lq4 := digs_len_mono _ _ (rt_self (val X))
      have lr4 := digs_sub_len (val X) (rt (val X) * rt (val X))
      go_wp2_with fail
      refine Calls.mono (shl_l (xs := Y) (x := val Y) L4.out (by simp) HnY.out rfl (by omega) (i := 2) (k := 2) rfl (by omega)) ?_
      rintro e w5 ⟨A5, c5, rfl, h1⟩
      have L5 := Lib.hid h1
      clear h1
      have len5 := digs_shl_len (val Y) 2
      go_wp2_with fail
      refine Calls.mono (sqrt_l (xs := digs ((val Y) * 2 ^ 2)) (x := (val Y) * 2 ^ 2) L5.out (by simp) rfl (val_digs _) (by omega)) ?_
      rintro e w6 ⟨A6, c6, B6, d6, rfl, h1⟩
      have L6 := Lib.hid h1
      clear h1
      have lq6 := digs_len_mono _ _ (rt_self ((val Y) * 2 ^ 2))
      have lr6 := digs_sub_len ((val Y) * 2 ^ 2) (rt ((val Y) * 2 ^ 2) * rt ((val Y) * 2 ^ 2))
      go_wp2_with fail
      refine Calls.mono (add_l (xs := digs (rt (val Y))) (ys := digs (rt (val Y))) (x := rt (val Y)) (y := rt (val Y)) L6.out (by simp) (by simp) rfl rfl (val_digs _) (val_digs _) (by omega) (by omega)) ?_
      rintro e w7 ⟨A7, c7, rfl, h1⟩
      have L7 := Lib.hid h1
      clear h1
      have len7 := digs_add_len (rt (val Y)) (rt (val Y))
      go_wp2_with fail
      refine Calls.mono (sub_l (xs := digs (rt ((val Y) * 2 ^ 2))) (ys := digs ((rt (val Y)) + (rt (val Y)))) (x := rt ((val Y) * 2 ^ 2)) (y := (rt (val Y)) + (rt (val Y))) L7.out (by simp) (by simp) rfl rfl (val_digs _) (val_digs _) (by omega) (by omega) (rt_four _).1) ?_
      rintro e w8 ⟨A8, c8, rfl, h1⟩
      have L8 := Lib.hid h1
      clear h1
      have len8 := digs_sub_len (rt ((val Y) * 2 ^ 2)) ((rt (val Y)) + (rt (val Y)))
      go_wp2_with fail
      refine Calls.mono (divmod_l (xs := Y) (ys := Z) (x := val Y) (y := val Z) L8.out (by simp) (by simp) HnY.out HnZ.out rfl rfl (by omega) (by omega) HZ.out) ?_
      rintro e w9 ⟨A9, c9, B9, d9, rfl, h1⟩
      have L9 := Lib.hid h1
      clear h1
      have lq9 := digs_len_mono _ _ (Nat.div_le_self (val Y) (val Z))
      have lr9 := digs_len_mono _ _ (Nat.mod_le (val Y) (val Z))
      go_wp2_with fail
      refine Calls.mono (divmod_l (xs := X) (ys := Z) (x := val X) (y := val Z) L9.out (by simp) (by simp) HnX.out HnZ.out rfl rfl (by omega) (by omega) HZ.out) ?_
      rintro e w10 ⟨A10, c10, B10, d10, rfl, h1⟩
      have L10 := Lib.hid h1
      clear h1
      have lq10 := digs_len_mono _ _ (Nat.div_le_self (val X) (val Z))
      have lr10 := digs_len_mono _ _ (Nat.mod_le (val X) (val Z))
      go_wp2_with fail
      refine Calls.mono (cmp_l (xs := digs (rt (val Y))) (ys := digs (rt (val X))) (x := rt (val Y)) (y := rt (val X)) L10.out (by simp) (by simp) rfl rfl (val_digs _) (val_digs _) (by omega) (by omega) (q := q1) HQ1.out) ?_
      rintro e w11 ⟨rfl, h1⟩
      have L11 := Lib.hid h1
      clear h1
      go_wp2_with fail
      have Lnone := Lib.hid (L11.out.new1 1 1 rfl (by omega))
      go_wp2_with fail
      refine Calls.mono (cmp_l (xs := digs ((rt ((val Y) * 2 ^ 2)) - ((rt (val Y)) + (rt (val Y))))) (ys := [1]) (x := (rt ((val Y) * 2 ^ 2)) - ((rt (val Y)) + (rt (val Y)))) (y := 1) Lnone.out (by simp) (by simp) rfl rfl (val_digs _) (by simp [val]) (by omega) (by simp <;> omega) (q := q2) HQ2.out) ?_
      rintro e w12 ⟨rfl, h1⟩
      have L12 := Lib.hid h1
      clear h1
      go_wp2_with fail
      refine Calls.mono (cmp_l (xs := digs ((val Y) / (val Z))) (ys := digs ((val X) / (val Z))) (x := (val Y) / (val Z)) (y := (val X) / (val Z)) L12.out (by simp) (by simp) rfl rfl (val_digs _) (val_digs _) (by omega) (by omega) (q := q3) HQ3.out) ?_
      rintro e w13 ⟨rfl, h1⟩
      have L13 := Lib.hid h1
      clear h1
      go_wp2
      go_ret
      exact ⟨rfl, L13.out.1⟩
  · by_cases h1 : val Z = 0
    · have HLE := Lib.hid (show val X ≤ val Y by omega)
      have HAB := Lib.hid h0
      obtain ⟨q0, hq0⟩ : ∃ q : Int, cmpi (val X) (val Y) = q := ⟨_, rfl⟩
      have dq0 : decide (0 < q0) = false := by rw [decide_eq_false_iff_not, ← hq0]; exact Int.not_lt.2 (cmpi_le0 HLE.out)
      have HQ0 := Lib.hid hq0
      clear hq0
      have HZ := Lib.hid h1
      obtain ⟨q1, hq1⟩ : ∃ q : Int, cmpi (rt (val X)) (rt (val Y)) = q := ⟨_, rfl⟩
      have dq1 : decide (q1 ≤ 0) = true := by rw [decide_eq_true_iff, ← hq1]; exact cmpi_le0 (rt_mono HLE.out)
      have HQ1 := Lib.hid hq1
      clear hq1
      obtain ⟨q2, hq2⟩ : ∃ q : Int, cmpi (rt (val X * 2 ^ 2) - (rt (val X) + rt (val X))) (1) = q := ⟨_, rfl⟩
      have dq2 : decide (q2 ≤ 0) = true := by rw [decide_eq_true_iff, ← hq2]; exact cmpi_le0 (by have := rt_four (val X); omega)
      have HQ2 := Lib.hid hq2
      clear hq2
      clear h0 h1
      go_enter Try.func10, Try.ntmps10
      go_wp2_with fail
      refine (examples_any w).mono ?_
      rintro e w1 ⟨rfl, hb1⟩
      have L1 := Lib.hid (L0.out.step hb1)
      clear hb1
      go_wp2_with fail
      refine Calls.mono (cmp_l (xs := X) (ys := Y) (x := val X) (y := val Y) L1.out (by simp) (by simp) HnX.out HnY.out rfl rfl (by omega) (by omega) (q := q0) HQ0.out) ?_
      rintro e w2 ⟨rfl, h1⟩
      have L2 := Lib.hid h1
      clear h1
      go_wp2_with fail
      refine Calls.mono (sqrt_l (xs := X) (x := val X) L2.out (by simp) HnX.out rfl (by omega)) ?_
      rintro e w3 ⟨A3, c3, B3, d3, rfl, h1⟩
      have L3 := Lib.hid h1
      clear h1
      have lq3 := digs_len_mono _ _ (rt_self (val X))
      have lr3 := digs_sub_len (val X) (rt (val X) * rt (val X))
      go_wp2_with fail
      refine Calls.mono (sqrt_l (xs := Y) (x := val Y) L3.out (by simp) HnY.out rfl (by omega)) ?_
      rintro e w4 ⟨A4, c4, B4, d4, rfl, h1⟩
      have L4 := Lib.hid h1
      clear h1
      have lq4 := digs_len_mono _ _ (rt_self (val Y))
      have lr4 := digs_sub_len (val Y) (rt (val Y) * rt (val Y))
      go_wp2_with fail
      refine Calls.mono (shl_l (xs := X) (x := val X) L4.out (by simp) HnX.out rfl (by omega) (i := 2) (k := 2) rfl (by omega)) ?_
      rintro e w5 ⟨A5, c5, rfl, h1⟩
      have L5 := Lib.hid h1
      clear h1
      have len5 := digs_shl_len (val X) 2
      go_wp2_with fail
      refine Calls.mono (sqrt_l (xs := digs ((val X) * 2 ^ 2)) (x := (val X) * 2 ^ 2) L5.out (by simp) rfl (val_digs _) (by omega)) ?_
      rintro e w6 ⟨A6, c6, B6, d6, rfl, h1⟩
      have L6 := Lib.hid h1
      clear h1
      have lq6 := digs_len_mono _ _ (rt_self ((val X) * 2 ^ 2))
      have lr6 := digs_sub_len ((val X) * 2 ^ 2) (rt ((val X) * 2 ^ 2) * rt ((val X) * 2 ^ 2))
      go_wp2_with fail
      refine Calls.mono (add_l (xs := digs (rt (val X))) (ys := digs (rt (val X))) (x := rt (val X)) (y := rt (val X)) L6.out (by simp) (by simp) rfl rfl (val_digs _) (val_digs _) (by omega) (by omega)) ?_
      rintro e w7 ⟨A7, c7, rfl, h1⟩
      have L7 := Lib.hid h1
      clear h1
      have len7 := digs_add_len (rt (val X)) (rt (val X))
      go_wp2_with fail
      refine Calls.mono (sub_l (xs := digs (rt ((val X) * 2 ^ 2))) (ys := digs ((rt (val X)) + (rt (val X)))) (x := rt ((val X) * 2 ^ 2)) (y := (rt (val X)) + (rt (val X))) L7.out (by simp) (by simp) rfl rfl (val_digs _) (val_digs _) (by omega) (by omega) (rt_four _).1) ?_
      rintro e w8 ⟨A8, c8, rfl, h1⟩
      have L8 := Lib.hid h1
      clear h1
      have len8 := digs_sub_len (rt ((val X) * 2 ^ 2)) ((rt (val X)) + (rt (val X)))
      go_wp2_with fail
      refine Calls.mono (divmod_l_no (xs := X) (ys := Z) L8.out (by simp) (by simp) HnX.out HnZ.out HZ.out (by omega) (by omega)) ?_
      rintro e w9 ⟨rfl, h1⟩
      have L9 := Lib.hid h1
      clear h1
      go_wp2_with fail
      refine Calls.mono (divmod_l_no (xs := Y) (ys := Z) L9.out (by simp) (by simp) HnY.out HnZ.out HZ.out (by omega) (by omega)) ?_
      rintro e w10 ⟨rfl, h1⟩
      have L10 := Lib.hid h1
      clear h1
      go_wp2_with fail
      refine Calls.mono (cmp_l (xs := digs (rt (val X))) (ys := digs (rt (val Y))) (x := rt (val X)) (y := rt (val Y)) L10.out (by simp) (by simp) rfl rfl (val_digs _) (val_digs _) (by omega) (by omega) (q := q1) HQ1.out) ?_
      rintro e w11 ⟨rfl, h1⟩
      have L11 := Lib.hid h1
      clear h1
      go_wp2_with fail
      have Lnone := Lib.hid (L11.out.new1 1 1 rfl (by omega))
      go_wp2_with fail
      refine Calls.mono (cmp_l (xs := digs ((rt ((val X) * 2 ^ 2)) - ((rt (val X)) + (rt (val X))))) (ys := [1]) (x := (rt ((val X) * 2 ^ 2)) - ((rt (val X)) + (rt (val X)))) (y := 1) Lnone.out (by simp) (by simp) rfl rfl (val_digs _) (by simp [val]) (by omega) (by simp <;> omega) (q := q2) HQ2.out) ?_
      rintro e w12 ⟨rfl, h1⟩
      have L12 := Lib.hid h1
      clear h1
      have Lnn := Lib.hid L12.out.none_
      go_wp2_with fail
      refine Calls.mono (cmp_l (xs := []) (ys := []) (x := 0) (y := 0) Lnn.out (by simp) (by simp) rfl rfl (by simp [val]) (by simp [val]) (by simp <;> omega) (by simp <;> omega) (q := 0) (cmpi_eq rfl)) ?_
      rintro e w13 ⟨rfl, h1⟩
      have L13 := Lib.hid h1
      clear h1
      go_wp2
      go_ret
      exact ⟨rfl, L13.out.1⟩
    · have HLE := Lib.hid (show val X ≤ val Y by omega)
      have HAB := Lib.hid h0
      obtain ⟨q0, hq0⟩ : ∃ q : Int, cmpi (val X) (val Y) = q := ⟨_, rfl⟩
      have dq0 : decide (0 < q0) = false := by rw [decide_eq_false_iff_not, ← hq0]; exact Int.not_lt.2 (cmpi_le0 HLE.out)
      have HQ0 := Lib.hid hq0
      clear hq0
      have HZ := Lib.hid h1
      obtain ⟨q1, hq1⟩ : ∃ q : Int, cmpi (rt (val X)) (rt (val Y)) = q := ⟨_, rfl⟩
      have dq1 : decide (q1 ≤ 0) = true := by rw [decide_eq_true_iff, ← hq1]; exact cmpi_le0 (rt_mono HLE.out)
      have HQ1 := Lib.hid hq1
      clear hq1
      obtain ⟨q2, hq2⟩ : ∃ q : Int, cmpi (rt (val X * 2 ^ 2) - (rt (val X) + rt (val X))) (1) = q := ⟨_, rfl⟩
      have dq2 : decide (q2 ≤ 0) = true := by rw [decide_eq_true_iff, ← hq2]; exact cmpi_le0 (by have := rt_four (val X); omega)
      have HQ2 := Lib.hid hq2
      clear hq2
      obtain ⟨q3, hq3⟩ : ∃ q : Int, cmpi (val X / val Z) (val Y / val Z) = q := ⟨_, rfl⟩
      have dq3 : decide (q3 ≤ 0) = true := by rw [decide_eq_true_iff, ← hq3]; exact cmpi_le0 (Nat.div_le_div_right HLE.out)
      have HQ3 := Lib.hid hq3
      clear hq3
      clear h0 h1
      go_enter Try.func10, Try.ntmps10
      go_wp2_with fail
      refine (examples_any w).mono ?_
      rintro e w1 ⟨rfl, hb1⟩
      have L1 := Lib.hid (L0.out.step hb1)
      clear hb1
      go_wp2_with fail
      refine Calls.mono (cmp_l (xs := X) (ys := Y) (x := val X) (y := val Y) L1.out (by simp) (by simp) HnX.out HnY.out rfl rfl (by omega) (by omega) (q := q0) HQ0.out) ?_
      rintro e w2 ⟨rfl, h1⟩
      have L2 := Lib.hid h1
      clear h1
      go_wp2_with fail
      refine Calls.mono (sqrt_l (xs := X) (x := val X) L2.out (by simp) HnX.out rfl (by omega)) ?_
      rintro e w3 ⟨A3, c3, B3, d3, rfl, h1⟩
      have L3 := Lib.hid h1
      clear h1
      have lq3 := digs_len_mono _ _ (rt_self (val X))
      have lr3 := digs_sub_len (val X) (rt (val X) * rt (val X))
      go_wp2_with fail
      refine Calls.mono (sqrt_l (xs := Y) (x := val Y) L3.out (by simp) HnY.out rfl (by omega)) ?_
      rintro e w4 ⟨A4, c4, B4, d4, rfl, h1⟩
      have L4 := Lib.hid h1
      clear h1
      have lq4 := digs_len_mono _ _ (rt_self (val Y))
      have lr4 := digs_sub_len (val Y) (rt (val Y) * rt (val Y))
      go_wp2_with fail
      refine Calls.mono (shl_l (xs := X) (x := val X) L4.out (by simp) HnX.out rfl (by omega) (i := 2) (k := 2) rfl (by omega)) ?_
      rintro e w5 ⟨A5, c5, rfl, h1⟩
      have L5 := Lib.hid h1
      clear h1
      have len5 := digs_shl_len (val X) 2
      go_wp2_with fail
      refine Calls.mono (sqrt_l (xs := digs ((val X) * 2 ^ 2)) (x := (val X) * 2 ^ 2) L5.out (by simp) rfl (val_digs _) (by omega)) ?_
      rintro e w6 ⟨A6, c6, B6, d6, rfl, h1⟩
      have L6 := Lib.hid h1
      clear h1
      have lq6 := digs_len_mono _ _ (rt_self ((val X) * 2 ^ 2))
      have lr6 := digs_sub_len ((val X) * 2 ^ 2) (rt ((val X) * 2 ^ 2) * rt ((val X) * 2 ^ 2))
      go_wp2_with fail
      refine Calls.mono (add_l (xs := digs (rt (val X))) (ys := digs (rt (val X))) (x := rt (val X)) (y := rt (val X)) L6.out (by simp) (by simp) rfl rfl (val_digs _) (val_digs _) (by omega) (by omega)) ?_
      rintro e w7 ⟨A7, c7, rfl, h1⟩
      have L7 := Lib.hid h1
      clear h1
      have len7 := digs_add_len (rt (val X)) (rt (val X))
      go_wp2_with fail
      refine Calls.mono (sub_l (xs := digs (rt ((val X) * 2 ^ 2))) (ys := digs ((rt (val X)) + (rt (val X)))) (x := rt ((val X) * 2 ^ 2)) (y := (rt (val X)) + (rt (val X))) L7.out (by simp) (by simp) rfl rfl (val_digs _) (val_digs _) (by omega) (by omega) (rt_four _).1) ?_
      rintro e w8 ⟨A8, c8, rfl, h1⟩
      have L8 := Lib.hid h1
      clear h1
      have len8 := digs_sub_len (rt ((val X) * 2 ^ 2)) ((rt (val X)) + (rt (val X)))
      go_wp2_with fail
      refine Calls.mono (divmod_l (xs := X) (ys := Z) (x := val X) (y := val Z) L8.out (by simp) (by simp) HnX.out HnZ.out rfl rfl (by omega) (by omega) HZ.out) ?_
      rintro e w9 ⟨A9, c9, B9, d9, rfl, h1⟩
      have L9 := Lib.hid h1
      clear h1
      have lq9 := digs_len_mono _ _ (Nat.div_le_self (val X) (val Z))
      have lr9 := digs_len_mono _ _ (Nat.mod_le (val X) (val Z))
      go_wp2_with fail
      refine Calls.mono (divmod_l (xs := Y) (ys := Z) (x := val Y) (y := val Z) L9.out (by simp) (by simp) HnY.out HnZ.out rfl rfl (by omega) (by omega) HZ.out) ?_
      rintro e w10 ⟨A10, c10, B10, d10, rfl, h1⟩
      have L10 := Lib.hid h1
      clear h1
      have lq10 := digs_len_mono _ _ (Nat.div_le_self (val Y) (val Z))
      have lr10 := digs_len_mono _ _ (Nat.mod_le (val Y) (val Z))
      go_wp2_with fail
      refine Calls.mono (cmp_l (xs := digs (rt (val X))) (ys := digs (rt (val Y))) (x := rt (val X)) (y := rt (val Y)) L10.out (by simp) (by simp) rfl rfl (val_digs _) (val_digs _) (by omega) (by omega) (q := q1) HQ1.out) ?_
      rintro e w11 ⟨rfl, h1⟩
      have L11 := Lib.hid h1
      clear h1
      go_wp2_with fail
      have Lnone := Lib.hid (L11.out.new1 1 1 rfl (by omega))
      go_wp2_with fail
      refine Calls.mono (cmp_l (xs := digs ((rt ((val X) * 2 ^ 2)) - ((rt (val X)) + (rt (val X))))) (ys := [1]) (x := (rt ((val X) * 2 ^ 2)) - ((rt (val X)) + (rt (val X)))) (y := 1) Lnone.out (by simp) (by simp) rfl rfl (val_digs _) (by simp [val]) (by omega) (by simp <;> omega) (q := q2) HQ2.out) ?_
      rintro e w12 ⟨rfl, h1⟩
      have L12 := Lib.hid h1
      clear h1
      go_wp2_with fail
      refine Calls.mono (cmp_l (xs := digs ((val X) / (val Z))) (ys := digs ((val Y) / (val Z))) (x := (val X) / (val Z)) (y := (val Y) / (val Z)) L12.out (by simp) (by simp) rfl rfl (val_digs _) (val_digs _) (by omega) (by omega) (q := q3) HQ3.out) ?_
      rintro e w13 ⟨rfl, h1⟩
      have L13 := Lib.hid h1
      clear h1
      go_wp2
      go_ret
      exact ⟨rfl, L13.out.1⟩
end Go.Proofs.Ytceningojnfgpaa
