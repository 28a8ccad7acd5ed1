/-
  astrolabelaw03.QuoRests: a number with so many divisors more has the same rest; the rest of a sum is that of the rests' sum.
-/
import Derived.Test.YtceningojnfgpaaExam
namespace Go.Proofs.Ytceningojnfgpaa
open Go.RowKit
set_option maxHeartbeats 8000000 in
set_option maxRecDepth 100000 in
theorem qrests_any (A : Option Addr) (ca : Nat) (xs : List Nat) (B : Option Addr) (cb : Nat) (ys : List Nat) (C : Option Addr) (cc : Nat) (zs : List Nat)  (w : World) (hX : Dg w A ca xs) (hY : Dg w B cb ys) (hZ : Dg w C cc zs)  :
    Calls Try.prog 9 #[.slice A xs.length ca, .slice B ys.length cb, .slice C zs.length cc] w fun e w' => e = .returned (.bool true) ∧ Below w.heap.size w w' := by
  have L0 := Lib.hid ((((live_start w).add (hX.take 20)).add (hY.take 20)).add (hZ.take 20))
  have mX := hX.1
  have nX : (0 : Int) ≤ min (xs.length : Int) 20 := by omega
  have kX : min (xs.length : Int) 20 ≤ (ca : Int) := by omega
  have HnX := Lib.hid (show (min (xs.length : Int) 20).toNat = (xs.take 20).length from by rw [List.length_take]; omega)
  have lX : (xs.take 20).length ≤ 20 := by rw [List.length_take]; omega
  have dX := digs_len_le (hX.take 20).2.1
  have oX := Lib.hid (hX.take 20).2.1
  have mY := hY.1
  have nY : (0 : Int) ≤ min (ys.length : Int) 20 := by omega
  have kY : min (ys.length : Int) 20 ≤ (cb : Int) := by omega
  have HnY := Lib.hid (show (min (ys.length : Int) 20).toNat = (ys.take 20).length from by rw [List.length_take]; omega)
  have lY : (ys.take 20).length ≤ 20 := by rw [List.length_take]; omega
  have dY := digs_len_le (hY.take 20).2.1
  have oY := Lib.hid (hY.take 20).2.1
  have mZ := hZ.1
  have nZ : (0 : Int) ≤ min (zs.length : Int) 20 := by omega
  have kZ : min (zs.length : Int) 20 ≤ (cc : Int) := by omega
  have HnZ := Lib.hid (show (min (zs.length : Int) 20).toNat = (zs.take 20).length from by rw [List.length_take]; omega)
  have lZ : (zs.take 20).length ≤ 20 := by rw [List.length_take]; omega
  have dZ := digs_len_le (hZ.take 20).2.1
  have oZ := Lib.hid (hZ.take 20).2.1
  clear hX mX hY mY hZ mZ
  generalize xs.take 20 = X at *
  generalize ys.take 20 = Y at *
  generalize zs.take 20 = Z at *
  by_cases h0 : val Z = 0
  · have H0 := Lib.hid h0
    clear h0
    go_enter Try.func9, Try.ntmps9
    go_wp2_with fail
    refine (examples_any w).mono ?_
    rintro e w1 ⟨rfl, hb1⟩
    have L1 := Lib.hid (L0.out.step hb1)
    clear hb1
    go_wp2_with fail
    refine Calls.mono (bits_l (xs := Z) (x := val Z) L1.out (by simp) HnZ.out rfl (by omega) (q := 0) (by rw [H0.out, blen_zero]; rfl)) ?_
    rintro e w2 ⟨rfl, h1⟩
    have L2 := Lib.hid h1
    clear h1
    go_wp2_with fail
    refine Calls.mono (divmod_l_no (xs := X) (ys := Z) L2.out (by simp) (by simp) HnX.out HnZ.out H0.out (by omega) (by omega)) ?_
    rintro e w3 ⟨rfl, h1⟩
    have L3 := Lib.hid h1
    clear h1
    go_wp2
    go_ret
    exact ⟨rfl, L3.out.1⟩
  · have H0 := Lib.hid h0
    have HB := Lib.hid (blen_ne (v := val Z) h0)
    clear h0
    go_enter Try.func9, Try.ntmps9
    go_wp2_with fail
    refine (examples_any w).mono ?_
    rintro e w1 ⟨rfl, hb1⟩
    have L1 := Lib.hid (L0.out.step hb1)
    clear hb1
    have tb := HB.out
    go_wp2_with fail
    refine Calls.mono (bits_l (xs := Z) (x := val Z) L1.out (by simp) HnZ.out rfl (by omega) (q := (blen (val Z) : Int)) rfl) ?_
    rintro e w2 ⟨rfl, h1⟩
    have L2 := Lib.hid h1
    clear h1
    go_wp2_with fail
    refine Calls.mono (divmod_l (xs := X) (ys := Z) (x := val X) (y := val Z) L2.out (by simp) (by simp) HnX.out HnZ.out rfl rfl (by omega) (by omega) H0.out) ?_
    rintro e w3 ⟨A3, c3, B3, d3, rfl, h1⟩
    have L3 := Lib.hid h1
    clear h1
    have lq3 := digs_len_mono _ _ (Nat.div_le_self (val X) (val Z))
    have lr3 := digs_len_mono _ _ (Nat.mod_le (val X) (val Z))
    go_wp2_with fail
    refine Calls.mono (divmod_l (xs := Y) (ys := Z) (x := val Y) (y := val Z) L3.out (by simp) (by simp) HnY.out HnZ.out rfl rfl (by omega) (by omega) H0.out) ?_
    rintro e w4 ⟨A4, c4, B4, d4, rfl, h1⟩
    have L4 := Lib.hid h1
    clear h1
    have lq4 := digs_len_mono _ _ (Nat.div_le_self (val Y) (val Z))
    have lr4 := digs_len_mono _ _ (Nat.mod_le (val Y) (val Z))
    go_wp2_with fail
    refine Calls.mono (mul_l (xs := Y) (ys := Z) (x := val Y) (y := val Z) L4.out (by simp) (by simp) HnY.out HnZ.out rfl rfl (by omega) (by omega)) ?_
    rintro e w5 ⟨A5, c5, rfl, h1⟩
    have L5 := Lib.hid h1
    clear h1
    have len5 := digs_mul_len (val Y) (val Z)
    go_wp2_with fail
    refine Calls.mono (add_l (xs := X) (ys := digs ((val Y) * (val Z))) (x := val X) (y := (val Y) * (val Z)) L5.out (by simp) (by simp) HnX.out rfl rfl (val_digs _) (by omega) (by omega)) ?_
    rintro e w6 ⟨A6, c6, rfl, h1⟩
    have L6 := Lib.hid h1
    clear h1
    have len6 := digs_add_len (val X) ((val Y) * (val Z))
    go_wp2_with fail
    refine Calls.mono (divmod_l (xs := digs ((val X) + ((val Y) * (val Z)))) (ys := Z) (x := (val X) + ((val Y) * (val Z))) (y := val Z) L6.out (by simp) (by simp) rfl HnZ.out (val_digs _) rfl (by omega) (by omega) H0.out) ?_
    rintro e w7 ⟨A7, c7, B7, d7, rfl, h1⟩
    rw [Nat.add_mul_mod_self_right] at h1
    rw [Nat.add_mul_mod_self_right]
    have L7 := Lib.hid h1
    clear h1
    have lq7 := digs_len_mono _ _ (Nat.div_le_self ((val X) + ((val Y) * (val Z))) (val Z))
    have lr7 := digs_len_mono _ _ (Nat.mod_le ((val X) + ((val Y) * (val Z))) (val Z))
    go_wp2_with fail
    refine Calls.mono (add_l (xs := X) (ys := Y) (x := val X) (y := val Y) L7.out (by simp) (by simp) HnX.out HnY.out rfl rfl (by omega) (by omega)) ?_
    rintro e w8 ⟨A8, c8, rfl, h1⟩
    have L8 := Lib.hid h1
    clear h1
    have len8 := digs_add_len (val X) (val Y)
    go_wp2_with fail
    refine Calls.mono (divmod_l (xs := digs ((val X) + (val Y))) (ys := Z) (x := (val X) + (val Y)) (y := val Z) L8.out (by simp) (by simp) rfl HnZ.out (val_digs _) rfl (by omega) (by omega) H0.out) ?_
    rintro e w9 ⟨A9, c9, B9, d9, rfl, h1⟩
    have L9 := Lib.hid h1
    clear h1
    have lq9 := digs_len_mono _ _ (Nat.div_le_self ((val X) + (val Y)) (val Z))
    have lr9 := digs_len_mono _ _ (Nat.mod_le ((val X) + (val Y)) (val Z))
    go_wp2_with fail
    refine Calls.mono (add_l (xs := digs ((val X) % (val Z))) (ys := digs ((val Y) % (val Z))) (x := (val X) % (val Z)) (y := (val Y) % (val Z)) L9.out (by simp) (by simp) rfl rfl (val_digs _) (val_digs _) (by omega) (by omega)) ?_
    rintro e w10 ⟨A10, c10, rfl, h1⟩
    have L10 := Lib.hid h1
    clear h1
    have len10 := digs_add_len ((val X) % (val Z)) ((val Y) % (val Z))
    go_wp2_with fail
    refine Calls.mono (divmod_l (xs := digs (((val X) % (val Z)) + ((val Y) % (val Z)))) (ys := Z) (x := ((val X) % (val Z)) + ((val Y) % (val Z))) (y := val Z) L10.out (by simp) (by simp) rfl HnZ.out (val_digs _) rfl (by omega) (by omega) H0.out) ?_
    rintro e w11 ⟨A11, c11, B11, d11, rfl, h1⟩
    rw [← Nat.add_mod] at h1
    rw [← Nat.add_mod]
    have L11 := Lib.hid h1
    clear h1
    have lq11 := digs_len_mono _ _ (Nat.div_le_self (((val X) % (val Z)) + ((val Y) % (val Z))) (val Z))
    have lr11 := digs_len_mono _ _ (Nat.mod_le (((val X) % (val Z)) + ((val Y) % (val Z))) (val Z))
    go_wp2_with fail
    refine Calls.mono (digits_l (xs := digs (val X % val Z)) (ys := digs ((val X) % (val Z))) L11.out (by simp) (by simp) rfl rfl (by first | omega | simp) (rfl)) ?_
    rintro e w12 ⟨rfl, h1⟩
    have L12 := Lib.hid h1
    clear h1
    go_wp2_with fail
    refine Calls.mono (digits_l (xs := digs (((val X) + (val Y)) % (val Z))) (ys := digs ((val X + val Y) % val Z)) L12.out (by simp) (by simp) rfl rfl (by first | omega | simp) (rfl)) ?_
    rintro e w13 ⟨rfl, h1⟩
    have L13 := Lib.hid h1
    clear h1
    go_wp2
    go_ret
    exact ⟨rfl, L13.out.1⟩
end Go.Proofs.Ytceningojnfgpaa
