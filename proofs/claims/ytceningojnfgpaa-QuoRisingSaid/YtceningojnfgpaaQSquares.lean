/-
  astrolabelaw03.QuoSquares: the root's square, and the rest, are the number; the rest is at most twice the root.
-/
import Derived.Test.YtceningojnfgpaaExam
namespace Go.Proofs.Ytceningojnfgpaa
open Go.RowKit
theorem rt_square (x : Nat) : rt (x * x) = x := (rt_is (Nat.le_refl _) (Nat.mul_lt_mul_of_le_of_lt (Nat.le_succ x) (Nat.lt_succ_self x) (by omega))).symm
theorem cmpi_le0 {a b : Nat} (h : a ≤ b) : cmpi a b ≤ 0 := by
  unfold cmpi
  rcases Nat.lt_or_ge a b with h1 | h1
  · rw [if_pos h1]; omega
  · rw [if_neg (by omega), if_pos (by omega)]; omega
theorem root_rest (x : Nat) : x - rt x * rt x ≤ rt x + rt x := by
  have h := (rt_spec x).2
  rw [Nat.add_mul, Nat.mul_add] at h
  omega
set_option maxHeartbeats 8000000 in
set_option maxRecDepth 100000 in
theorem qsquares_any (A : Option Addr) (ca : Nat) (xs : List Nat)  (w : World) (hX : Dg w A ca xs)  :
    Calls Try.prog 6 #[.slice A xs.length ca] w fun e w' => e = .returned (.bool true) ∧ Below w.heap.size w w' := by
  have L0 := Lib.hid ((live_start w).add (hX.take 30))
  have mX := hX.1
  have nX : (0 : Int) ≤ min (xs.length : Int) 30 := by omega
  have kX : min (xs.length : Int) 30 ≤ (ca : Int) := by omega
  have HnX := Lib.hid (show (min (xs.length : Int) 30).toNat = (xs.take 30).length from by rw [List.length_take]; omega)
  have lX : (xs.take 30).length ≤ 30 := by rw [List.length_take]; omega
  have dX := digs_len_le (hX.take 30).2.1
  have oX := Lib.hid (hX.take 30).2.1
  clear hX mX
  generalize xs.take 30 = X at *
  go_enter Try.func6, Try.ntmps6
  go_wp2_with fail
  refine (examples_any w).mono ?_
  rintro e w1 ⟨rfl, hb1⟩
  have L1 := Lib.hid (L0.out.step hb1)
  clear hb1
  go_wp2_with fail
  refine Calls.mono (sqrt_l (xs := X) (x := val X) L1.out (by simp) HnX.out rfl (by omega)) ?_
  rintro e w2 ⟨A2, c2, B2, d2, rfl, h1⟩
  have L2 := Lib.hid h1
  clear h1
  have lq2 := digs_len_mono _ _ (rt_self (val X))
  have lr2 := digs_sub_len (val X) (rt (val X) * rt (val X))
  go_wp2_with fail
  refine Calls.mono (mul_l (xs := digs (rt (val X))) (ys := digs (rt (val X))) (x := rt (val X)) (y := rt (val X)) L2.out (by simp) (by simp) rfl rfl (val_digs _) (val_digs _) (by omega) (by omega)) ?_
  rintro e w3 ⟨A3, c3, rfl, h1⟩
  have L3 := Lib.hid h1
  clear h1
  have len3 := digs_mul_len (rt (val X)) (rt (val X))
  go_wp2_with fail
  refine Calls.mono (add_l (xs := digs ((rt (val X)) * (rt (val X)))) (ys := digs ((val X) - rt (val X) * rt (val X))) (x := (rt (val X)) * (rt (val X))) (y := (val X) - rt (val X) * rt (val X)) L3.out (by simp) (by simp) rfl rfl (val_digs _) (val_digs _) (by omega) (by omega)) ?_
  rintro e w4 ⟨A4, c4, rfl, h1⟩
  have L4 := Lib.hid h1
  clear h1
  have len4 := digs_add_len ((rt (val X)) * (rt (val X))) ((val X) - rt (val X) * rt (val X))
  go_wp2_with fail
  refine Calls.mono (trim_l (xs := X) (x := val X) L4.out (by simp) HnX.out rfl (by omega)) ?_
  rintro e w5 ⟨A5, c5, rfl, h1⟩
  have L5 := Lib.hid h1
  clear h1
  go_wp2_with fail
  refine Calls.mono (digits_l (xs := digs (((rt (val X)) * (rt (val X))) + ((val X) - rt (val X) * rt (val X)))) (ys := digs (val X)) L5.out (by simp) (by simp) rfl rfl (by first | omega | simp) (by rw [Nat.add_sub_cancel' (rt_spec (val X)).1])) ?_
  rintro e w6 ⟨rfl, h1⟩
  have L6 := Lib.hid h1
  clear h1
  go_wp2_with fail
  refine Calls.mono (mul_l (xs := X) (ys := X) (x := val X) (y := val X) L6.out (by simp) (by simp) HnX.out HnX.out rfl rfl (by omega) (by omega)) ?_
  rintro e w7 ⟨A7, c7, rfl, h1⟩
  have L7 := Lib.hid h1
  clear h1
  have len7 := digs_mul_len (val X) (val X)
  go_wp2_with fail
  refine Calls.mono (sqrt_l (xs := digs ((val X) * (val X))) (x := (val X) * (val X)) L7.out (by simp) rfl (val_digs _) (by omega)) ?_
  rintro e w8 ⟨A8, c8, B8, d8, rfl, h1⟩
  rw [rt_square] at h1
  rw [rt_square]
  rw [Nat.sub_self, digs_zero] at h1
  rw [Nat.sub_self, digs_zero]
  have L8 := Lib.hid h1
  clear h1
  have lq8 := digs_len_mono _ _ (rt_self ((val X) * (val X)))
  go_wp2_with fail
  refine Calls.mono (trim_l (xs := X) (x := val X) L8.out (by simp) HnX.out rfl (by omega)) ?_
  rintro e w9 ⟨A9, c9, rfl, h1⟩
  have L9 := Lib.hid h1
  clear h1
  go_wp2_with fail
  refine Calls.mono (digits_l (xs := digs (val X)) (ys := digs (val X)) L9.out (by simp) (by simp) rfl rfl (by first | omega | simp) (rfl)) ?_
  rintro e w10 ⟨rfl, h1⟩
  have L10 := Lib.hid h1
  clear h1
  go_wp2_with fail
  refine Calls.mono (add_l (xs := digs (rt (val X))) (ys := digs (rt (val X))) (x := rt (val X)) (y := rt (val X)) L10.out (by simp) (by simp) rfl rfl (val_digs _) (val_digs _) (by omega) (by omega)) ?_
  rintro e w11 ⟨A11, c11, rfl, h1⟩
  have L11 := Lib.hid h1
  clear h1
  have len11 := digs_add_len (rt (val X)) (rt (val X))
  obtain ⟨q, hq⟩ : ∃ q : Int, cmpi (val X - rt (val X) * rt (val X)) (rt (val X) + rt (val X)) = q := ⟨_, rfl⟩
  have dq : decide (q ≤ 0) = true := by rw [decide_eq_true_iff, ← hq]; exact cmpi_le0 (root_rest _)
  have HQ := Lib.hid hq
  clear hq
  go_wp2_with fail
  refine Calls.mono (cmp_l (xs := digs ((val X) - rt (val X) * rt (val X))) (ys := digs ((rt (val X)) + (rt (val X)))) (x := (val X) - rt (val X) * rt (val X)) (y := (rt (val X)) + (rt (val X))) L11.out (by simp) (by simp) rfl rfl (val_digs _) (val_digs _) (by omega) (by omega) (q := q) HQ.out) ?_
  rintro e w12 ⟨rfl, h1⟩
  have L12 := Lib.hid h1
  clear h1
  go_wp2
  go_ret
  exact ⟨rfl, L12.out.1⟩
end Go.Proofs.Ytceningojnfgpaa
