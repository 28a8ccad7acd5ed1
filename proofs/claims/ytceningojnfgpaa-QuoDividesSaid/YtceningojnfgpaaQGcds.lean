/-
  astrolabelaw03.QuoGcds: the greatest common divisor divides both; of both times a third number it is that so often; whichever comes first, it is the same.
-/
import Derived.Test.YtceningojnfgpaaExam
namespace Go.Proofs.Ytceningojnfgpaa
open Go.RowKit
theorem digs_gcd_len (x y : Nat) : (digs (Nat.gcd x y)).length ≤ max (digs x).length (digs y).length := by
  rcases Nat.eq_zero_or_pos x with h | h
  · subst h; rw [Nat.gcd_zero_left]; exact Nat.le_max_right _ _
  · exact Nat.le_trans (digs_len_mono _ _ (Nat.gcd_le_left y h)) (Nat.le_max_left _ _)
theorem gcd_ne {x y : Nat} (h : ¬ (x = 0 ∧ y = 0)) : Nat.gcd x y ≠ 0 := fun e => h (Nat.gcd_eq_zero_iff.1 e)
theorem gcd_rest {x y : Nat} : x % Nat.gcd x y = 0 := Nat.mod_eq_zero_of_dvd (Nat.gcd_dvd_left x y)
theorem gcd_rest' {x y : Nat} : y % Nat.gcd x y = 0 := Nat.mod_eq_zero_of_dvd (Nat.gcd_dvd_right x y)
set_option maxHeartbeats 8000000 in
set_option maxRecDepth 100000 in
theorem qgcds_any (A : Option Addr) (ca : Nat) (xs : List Nat) (B : Option Addr) (cb : Nat) (ys : List Nat) (C : Option Addr) (cc : Nat) (zs : List Nat)  (w : World) (hX : Dg w A ca xs) (hY : Dg w B cb ys) (hZ : Dg w C cc zs)  :
    Calls Try.prog 7 #[.slice A xs.length ca, .slice B ys.length cb, .slice C zs.length cc] w fun e w' => e = .returned (.bool true) ∧ Below w.heap.size w w' := by
  have L0 := Lib.hid ((((live_start w).add (hX.take 6)).add (hY.take 6)).add (hZ.take 6))
  have mX := hX.1
  have nX : (0 : Int) ≤ min (xs.length : Int) 6 := by omega
  have kX : min (xs.length : Int) 6 ≤ (ca : Int) := by omega
  have HnX := Lib.hid (show (min (xs.length : Int) 6).toNat = (xs.take 6).length from by rw [List.length_take]; omega)
  have lX : (xs.take 6).length ≤ 6 := by rw [List.length_take]; omega
  have dX := digs_len_le (hX.take 6).2.1
  have oX := Lib.hid (hX.take 6).2.1
  have mY := hY.1
  have nY : (0 : Int) ≤ min (ys.length : Int) 6 := by omega
  have kY : min (ys.length : Int) 6 ≤ (cb : Int) := by omega
  have HnY := Lib.hid (show (min (ys.length : Int) 6).toNat = (ys.take 6).length from by rw [List.length_take]; omega)
  have lY : (ys.take 6).length ≤ 6 := by rw [List.length_take]; omega
  have dY := digs_len_le (hY.take 6).2.1
  have oY := Lib.hid (hY.take 6).2.1
  have mZ := hZ.1
  have nZ : (0 : Int) ≤ min (zs.length : Int) 6 := by omega
  have kZ : min (zs.length : Int) 6 ≤ (cc : Int) := by omega
  have HnZ := Lib.hid (show (min (zs.length : Int) 6).toNat = (zs.take 6).length from by rw [List.length_take]; omega)
  have lZ : (zs.take 6).length ≤ 6 := by rw [List.length_take]; omega
  have dZ := digs_len_le (hZ.take 6).2.1
  have oZ := Lib.hid (hZ.take 6).2.1
  clear hX mX hY mY hZ mZ
  generalize xs.take 6 = X at *
  generalize ys.take 6 = Y at *
  generalize zs.take 6 = Z at *
  by_cases h0 : val X = 0 ∧ val Y = 0
  · have H0 := Lib.hid (show Nat.gcd (val X) (val Y) = 0 by rw [h0.1, h0.2]; rfl)
    have HX := Lib.hid h0.1
    have HY := Lib.hid h0.2
    clear h0
    go_enter Try.func7, Try.ntmps7
    go_wp2_with fail
    refine (examples_any w).mono ?_
    rintro e w1 ⟨rfl, hb1⟩
    have L1 := Lib.hid (L0.out.step hb1)
    clear hb1
    go_wp2_with fail
    refine Calls.mono (gcd_l (xs := X) (ys := Y) (x := val X) (y := val Y) L1.out (by simp) (by simp) HnX.out HnY.out rfl rfl (by omega) (by omega)) ?_
    rintro e w2 ⟨A2, c2, rfl, h1⟩
    rw [H0.out, digs_zero] at h1
    rw [H0.out, digs_zero]
    have L2 := Lib.hid h1
    clear h1
    have len2 := digs_gcd_len (val X) (val Y)
    go_wp2_with fail
    refine Calls.mono (gcd_l (xs := Y) (ys := X) (x := val Y) (y := val X) L2.out (by simp) (by simp) HnY.out HnX.out rfl rfl (by omega) (by omega)) ?_
    rintro e w3 ⟨A3, c3, rfl, h1⟩
    rw [Nat.gcd_comm, H0.out, digs_zero] at h1
    rw [Nat.gcd_comm, H0.out, digs_zero]
    have L3 := Lib.hid h1
    clear h1
    have len3 := digs_gcd_len (val Y) (val X)
    go_wp2_with fail
    refine Calls.mono (digits_l (xs := []) (ys := []) L3.out (by simp) (by simp) rfl rfl (by first | omega | simp) (rfl)) ?_
    rintro e w4 ⟨rfl, h1⟩
    have L4 := Lib.hid h1
    clear h1
    go_wp2_with fail
    refine Calls.mono (bits_l (xs := X) (x := val X) L4.out (by simp) HnX.out rfl (by omega) (q := 0) (by rw [HX.out, blen_zero]; rfl)) ?_
    rintro e w5 ⟨rfl, h1⟩
    have L5 := Lib.hid h1
    clear h1
    go_wp2_with fail
    refine Calls.mono (bits_l (xs := Y) (x := val Y) L5.out (by simp) HnY.out rfl (by omega) (q := 0) (by rw [HY.out, blen_zero]; rfl)) ?_
    rintro e w6 ⟨rfl, h1⟩
    have L6 := Lib.hid h1
    clear h1
    go_wp2
    go_ret
    exact ⟨rfl, L6.out.1⟩
  by_cases h1 : val X = 0
  · have H0 := Lib.hid (gcd_ne h0)
    have HX := Lib.hid h1
    have HB := Lib.hid (blen_ne (v := val Y) (fun e => h0 ⟨h1, e⟩))
    clear h1
    clear h0
    go_enter Try.func7, Try.ntmps7
    go_wp2_with fail
    refine (examples_any w).mono ?_
    rintro e w1 ⟨rfl, hb1⟩
    have L1 := Lib.hid (L0.out.step hb1)
    clear hb1
    go_wp2_with fail
    refine Calls.mono (gcd_l (xs := X) (ys := Y) (x := val X) (y := val Y) L1.out (by simp) (by simp) HnX.out HnY.out rfl rfl (by omega) (by omega)) ?_
    rintro e w2 ⟨A2, c2, rfl, h1⟩
    have L2 := Lib.hid h1
    clear h1
    have len2 := digs_gcd_len (val X) (val Y)
    go_wp2_with fail
    refine Calls.mono (gcd_l (xs := Y) (ys := X) (x := val Y) (y := val X) L2.out (by simp) (by simp) HnY.out HnX.out rfl rfl (by omega) (by omega)) ?_
    rintro e w3 ⟨A3, c3, rfl, h1⟩
    rw [Nat.gcd_comm (val Y) (val X)] at h1
    rw [Nat.gcd_comm (val Y) (val X)]
    have L3 := Lib.hid h1
    clear h1
    have len3 := digs_gcd_len (val Y) (val X)
    go_wp2_with fail
    refine Calls.mono (digits_l (xs := digs (Nat.gcd (val X) (val Y))) (ys := digs (Nat.gcd (val X) (val Y))) L3.out (by simp) (by simp) rfl rfl (by first | omega | simp) (rfl)) ?_
    rintro e w4 ⟨rfl, h1⟩
    have L4 := Lib.hid h1
    clear h1
    go_wp2_with fail
    refine Calls.mono (bits_l (xs := X) (x := val X) L4.out (by simp) HnX.out rfl (by omega) (q := 0) (by rw [HX.out, blen_zero]; rfl)) ?_
    rintro e w5 ⟨rfl, h1⟩
    have L5 := Lib.hid h1
    clear h1
    have tb := HB.out
    go_wp2_with fail
    refine Calls.mono (bits_l (xs := Y) (x := val Y) L5.out (by simp) HnY.out rfl (by omega) (q := (blen (val Y) : Int)) rfl) ?_
    rintro e w6 ⟨rfl, h1⟩
    have L6 := Lib.hid h1
    clear h1
    go_wp2_with fail
    refine Calls.mono (divmod_l (xs := X) (ys := digs (Nat.gcd (val X) (val Y))) (x := val X) (y := Nat.gcd (val X) (val Y)) L6.out (by simp) (by simp) HnX.out rfl rfl (val_digs _) (by omega) (by omega) H0.out) ?_
    rintro e w7 ⟨A7, c7, B7, d7, rfl, h1⟩
    rw [gcd_rest, digs_zero] at h1
    rw [gcd_rest, digs_zero]
    have L7 := Lib.hid h1
    clear h1
    have lq7 := digs_len_mono _ _ (Nat.div_le_self (val X) (Nat.gcd (val X) (val Y)))
    have lr7 := digs_len_mono _ _ (Nat.mod_le (val X) (Nat.gcd (val X) (val Y)))
    go_wp2_with fail
    refine Calls.mono (divmod_l (xs := Y) (ys := digs (Nat.gcd (val X) (val Y))) (x := val Y) (y := Nat.gcd (val X) (val Y)) L7.out (by simp) (by simp) HnY.out rfl rfl (val_digs _) (by omega) (by omega) H0.out) ?_
    rintro e w8 ⟨A8, c8, B8, d8, rfl, h1⟩
    rw [gcd_rest', digs_zero] at h1
    rw [gcd_rest', digs_zero]
    have L8 := Lib.hid h1
    clear h1
    have lq8 := digs_len_mono _ _ (Nat.div_le_self (val Y) (Nat.gcd (val X) (val Y)))
    have lr8 := digs_len_mono _ _ (Nat.mod_le (val Y) (Nat.gcd (val X) (val Y)))
    go_wp2_with fail
    refine Calls.mono (mul_l (xs := X) (ys := Z) (x := val X) (y := val Z) L8.out (by simp) (by simp) HnX.out HnZ.out rfl rfl (by omega) (by omega)) ?_
    rintro e w9 ⟨A9, c9, rfl, h1⟩
    have L9 := Lib.hid h1
    clear h1
    have len9 := digs_mul_len (val X) (val Z)
    go_wp2_with fail
    refine Calls.mono (mul_l (xs := Y) (ys := Z) (x := val Y) (y := val Z) L9.out (by simp) (by simp) HnY.out HnZ.out rfl rfl (by omega) (by omega)) ?_
    rintro e w10 ⟨A10, c10, rfl, h1⟩
    have L10 := Lib.hid h1
    clear h1
    have len10 := digs_mul_len (val Y) (val Z)
    go_wp2_with fail
    refine Calls.mono (gcd_l (xs := digs ((val X) * (val Z))) (ys := digs ((val Y) * (val Z))) (x := (val X) * (val Z)) (y := (val Y) * (val Z)) L10.out (by simp) (by simp) rfl rfl (val_digs _) (val_digs _) (by omega) (by omega)) ?_
    rintro e w11 ⟨A11, c11, rfl, h1⟩
    rw [Nat.gcd_mul_right] at h1
    rw [Nat.gcd_mul_right]
    have L11 := Lib.hid h1
    clear h1
    have len11 := digs_gcd_len ((val X) * (val Z)) ((val Y) * (val Z))
    go_wp2_with fail
    refine Calls.mono (mul_l (xs := digs (Nat.gcd (val X) (val Y))) (ys := Z) (x := Nat.gcd (val X) (val Y)) (y := val Z) L11.out (by simp) (by simp) rfl HnZ.out (val_digs _) rfl (by omega) (by omega)) ?_
    rintro e w12 ⟨A12, c12, rfl, h1⟩
    have L12 := Lib.hid h1
    clear h1
    have len12 := digs_mul_len (Nat.gcd (val X) (val Y)) (val Z)
    go_wp2_with fail
    refine Calls.mono (digits_l (xs := digs (Nat.gcd (val X) (val Y) * val Z)) (ys := digs ((Nat.gcd (val X) (val Y)) * (val Z))) L12.out (by simp) (by simp) rfl rfl (by first | omega | simp) (rfl)) ?_
    rintro e w13 ⟨rfl, h1⟩
    have L13 := Lib.hid h1
    clear h1
    go_wp2
    go_ret
    exact ⟨rfl, L13.out.1⟩
  · have H0 := Lib.hid (gcd_ne h0)
    have HB := Lib.hid (blen_ne (v := val X) h1)
    clear h1
    clear h0
    go_enter Try.func7, Try.ntmps7
    go_wp2_with fail
    refine (examples_any w).mono ?_
    rintro e w1 ⟨rfl, hb1⟩
    have L1 := Lib.hid (L0.out.step hb1)
    clear hb1
    go_wp2_with fail
    refine Calls.mono (gcd_l (xs := X) (ys := Y) (x := val X) (y := val Y) L1.out (by simp) (by simp) HnX.out HnY.out rfl rfl (by omega) (by omega)) ?_
    rintro e w2 ⟨A2, c2, rfl, h1⟩
    have L2 := Lib.hid h1
    clear h1
    have len2 := digs_gcd_len (val X) (val Y)
    go_wp2_with fail
    refine Calls.mono (gcd_l (xs := Y) (ys := X) (x := val Y) (y := val X) L2.out (by simp) (by simp) HnY.out HnX.out rfl rfl (by omega) (by omega)) ?_
    rintro e w3 ⟨A3, c3, rfl, h1⟩
    rw [Nat.gcd_comm (val Y) (val X)] at h1
    rw [Nat.gcd_comm (val Y) (val X)]
    have L3 := Lib.hid h1
    clear h1
    have len3 := digs_gcd_len (val Y) (val X)
    go_wp2_with fail
    refine Calls.mono (digits_l (xs := digs (Nat.gcd (val X) (val Y))) (ys := digs (Nat.gcd (val X) (val Y))) L3.out (by simp) (by simp) rfl rfl (by first | omega | simp) (rfl)) ?_
    rintro e w4 ⟨rfl, h1⟩
    have L4 := Lib.hid h1
    clear h1
    have tb := HB.out
    go_wp2_with fail
    refine Calls.mono (bits_l (xs := X) (x := val X) L4.out (by simp) HnX.out rfl (by omega) (q := (blen (val X) : Int)) rfl) ?_
    rintro e w5 ⟨rfl, h1⟩
    have L5 := Lib.hid h1
    clear h1
    go_wp2_with fail
    refine Calls.mono (divmod_l (xs := X) (ys := digs (Nat.gcd (val X) (val Y))) (x := val X) (y := Nat.gcd (val X) (val Y)) L5.out (by simp) (by simp) HnX.out rfl rfl (val_digs _) (by omega) (by omega) H0.out) ?_
    rintro e w6 ⟨A6, c6, B6, d6, rfl, h1⟩
    rw [gcd_rest, digs_zero] at h1
    rw [gcd_rest, digs_zero]
    have L6 := Lib.hid h1
    clear h1
    have lq6 := digs_len_mono _ _ (Nat.div_le_self (val X) (Nat.gcd (val X) (val Y)))
    have lr6 := digs_len_mono _ _ (Nat.mod_le (val X) (Nat.gcd (val X) (val Y)))
    go_wp2_with fail
    refine Calls.mono (divmod_l (xs := Y) (ys := digs (Nat.gcd (val X) (val Y))) (x := val Y) (y := Nat.gcd (val X) (val Y)) L6.out (by simp) (by simp) HnY.out rfl rfl (val_digs _) (by omega) (by omega) H0.out) ?_
    rintro e w7 ⟨A7, c7, B7, d7, rfl, h1⟩
    rw [gcd_rest', digs_zero] at h1
    rw [gcd_rest', digs_zero]
    have L7 := Lib.hid h1
    clear h1
    have lq7 := digs_len_mono _ _ (Nat.div_le_self (val Y) (Nat.gcd (val X) (val Y)))
    have lr7 := digs_len_mono _ _ (Nat.mod_le (val Y) (Nat.gcd (val X) (val Y)))
    go_wp2_with fail
    refine Calls.mono (mul_l (xs := X) (ys := Z) (x := val X) (y := val Z) L7.out (by simp) (by simp) HnX.out HnZ.out rfl rfl (by omega) (by omega)) ?_
    rintro e w8 ⟨A8, c8, rfl, h1⟩
    have L8 := Lib.hid h1
    clear h1
    have len8 := digs_mul_len (val X) (val Z)
    go_wp2_with fail
    refine Calls.mono (mul_l (xs := Y) (ys := Z) (x := val Y) (y := val Z) L8.out (by simp) (by simp) HnY.out HnZ.out rfl rfl (by omega) (by omega)) ?_
    rintro e w9 ⟨A9, c9, rfl, h1⟩
    have L9 := Lib.hid h1
    clear h1
    have len9 := digs_mul_len (val Y) (val Z)
    go_wp2_with fail
    refine Calls.mono (gcd_l (xs := digs ((val X) * (val Z))) (ys := digs ((val Y) * (val Z))) (x := (val X) * (val Z)) (y := (val Y) * (val Z)) L9.out (by simp) (by simp) rfl rfl (val_digs _) (val_digs _) (by omega) (by omega)) ?_
    rintro e w10 ⟨A10, c10, rfl, h1⟩
    rw [Nat.gcd_mul_right] at h1
    rw [Nat.gcd_mul_right]
    have L10 := Lib.hid h1
    clear h1
    have len10 := digs_gcd_len ((val X) * (val Z)) ((val Y) * (val Z))
    go_wp2_with fail
    refine Calls.mono (mul_l (xs := digs (Nat.gcd (val X) (val Y))) (ys := Z) (x := Nat.gcd (val X) (val Y)) (y := val Z) L10.out (by simp) (by simp) rfl HnZ.out (val_digs _) rfl (by omega) (by omega)) ?_
    rintro e w11 ⟨A11, c11, rfl, h1⟩
    have L11 := Lib.hid h1
    clear h1
    have len11 := digs_mul_len (Nat.gcd (val X) (val Y)) (val Z)
    go_wp2_with fail
    refine Calls.mono (digits_l (xs := digs (Nat.gcd (val X) (val Y) * val Z)) (ys := digs ((Nat.gcd (val X) (val Y)) * (val Z))) L11.out (by simp) (by simp) rfl rfl (by first | omega | simp) (rfl)) ?_
    rintro e w12 ⟨rfl, h1⟩
    have L12 := Lib.hid h1
    clear h1
    go_wp2
    go_ret
    exact ⟨rfl, L12.out.1⟩
end Go.Proofs.Ytceningojnfgpaa
