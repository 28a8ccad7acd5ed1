/-
  astrolabelaw01.NatProducts: products may be taken in any order; a product with a sum is the sum of both products; with nought it is nought, with 1 the number.
-/
import Derived.Test.YtjnbdbgggcfbjaaExam
namespace Go.Proofs.Ytjnbdbgggcfbjaa
open Go.RowKit
set_option maxHeartbeats 4000000 in
set_option maxRecDepth 100000 in
theorem prods_any (A : Option Addr) (ca : Nat) (xs : List Nat) (B : Option Addr) (cb : Nat) (ys : List Nat) (C : Option Addr) (cc : Nat) (zs : List Nat)  (w : World) (hX : Dg w A ca xs) (hY : Dg w B cb ys) (hZ : Dg w C cc zs)  :
    Calls Try.prog 6 #[.slice A xs.length ca, .slice B ys.length cb, .slice C zs.length cc] w fun e w' => e = .returned (.bool true) ∧ Below w.heap.size w w' := by
  have L0 := Lib.hid ((((live_start w).add (hX.take 40)).add (hY.take 40)).add (hZ.take 40))
  have mX := hX.1
  have nX : (0 : Int) ≤ min (xs.length : Int) 40 := by omega
  have kX : min (xs.length : Int) 40 ≤ (ca : Int) := by omega
  have HnX := Lib.hid (show (min (xs.length : Int) 40).toNat = (xs.take 40).length from by rw [List.length_take]; omega)
  have lX : (xs.take 40).length ≤ 40 := by rw [List.length_take]; omega
  have dX := digs_len_le (hX.take 40).2.1
  have oX := Lib.hid (hX.take 40).2.1
  have mY := hY.1
  have nY : (0 : Int) ≤ min (ys.length : Int) 40 := by omega
  have kY : min (ys.length : Int) 40 ≤ (cb : Int) := by omega
  have HnY := Lib.hid (show (min (ys.length : Int) 40).toNat = (ys.take 40).length from by rw [List.length_take]; omega)
  have lY : (ys.take 40).length ≤ 40 := by rw [List.length_take]; omega
  have dY := digs_len_le (hY.take 40).2.1
  have oY := Lib.hid (hY.take 40).2.1
  have mZ := hZ.1
  have nZ : (0 : Int) ≤ min (zs.length : Int) 40 := by omega
  have kZ : min (zs.length : Int) 40 ≤ (cc : Int) := by omega
  have HnZ := Lib.hid (show (min (zs.length : Int) 40).toNat = (zs.take 40).length from by rw [List.length_take]; omega)
  have lZ : (zs.take 40).length ≤ 40 := by rw [List.length_take]; omega
  have dZ := digs_len_le (hZ.take 40).2.1
  have oZ := Lib.hid (hZ.take 40).2.1
  clear hX mX hY mY hZ mZ
  generalize xs.take 40 = X at *
  generalize ys.take 40 = Y at *
  generalize zs.take 40 = Z at *
  go_enter Try.func6, Try.ntmps6
  go_wp2_with fail
  refine (examples_any w).mono ?_
  rintro e w1 ⟨rfl, hb1⟩
  have L1 := Lib.hid (L0.out.step hb1)
  clear hb1
  go_wp2_with fail
  refine Calls.mono (mul_l (xs := X) (ys := Y) (x := val X) (y := val Y) L1.out (by simp) (by simp) HnX.out HnY.out rfl rfl (by omega) (by omega)) ?_
  rintro e w2 ⟨A2, c2, rfl, h1⟩
  have L2 := Lib.hid h1
  clear h1
  have len2 := digs_mul_len (val X) (val Y)
  go_wp2_with fail
  refine Calls.mono (mul_l (xs := Y) (ys := X) (x := val Y) (y := val X) L2.out (by simp) (by simp) HnY.out HnX.out rfl rfl (by omega) (by omega)) ?_
  rintro e w3 ⟨A3, c3, rfl, h1⟩
  have L3 := Lib.hid h1
  clear h1
  have len3 := digs_mul_len (val Y) (val X)
  go_wp2_with fail
  refine Calls.mono (digits_l (xs := digs ((val X) * (val Y))) (ys := digs ((val Y) * (val X))) L3.out (by simp) (by simp) rfl rfl (by omega) (by rw [Nat.mul_comm])) ?_
  rintro e w4 ⟨rfl, h1⟩
  have L4 := Lib.hid h1
  clear h1
  go_wp2_with fail
  refine Calls.mono (mul_l (xs := digs ((val X) * (val Y))) (ys := Z) (x := (val X) * (val Y)) (y := val Z) L4.out (by simp) (by simp) rfl HnZ.out (val_digs _) rfl (by omega) (by omega)) ?_
  rintro e w5 ⟨A5, c5, rfl, h1⟩
  have L5 := Lib.hid h1
  clear h1
  have len5 := digs_mul_len ((val X) * (val Y)) (val Z)
  go_wp2_with fail
  refine Calls.mono (mul_l (xs := Y) (ys := Z) (x := val Y) (y := val Z) L5.out (by simp) (by simp) HnY.out HnZ.out rfl rfl (by omega) (by omega)) ?_
  rintro e w6 ⟨A6, c6, rfl, h1⟩
  have L6 := Lib.hid h1
  clear h1
  have len6 := digs_mul_len (val Y) (val Z)
  go_wp2_with fail
  refine Calls.mono (mul_l (xs := X) (ys := digs ((val Y) * (val Z))) (x := val X) (y := (val Y) * (val Z)) L6.out (by simp) (by simp) HnX.out rfl rfl (val_digs _) (by omega) (by omega)) ?_
  rintro e w7 ⟨A7, c7, rfl, h1⟩
  have L7 := Lib.hid h1
  clear h1
  have len7 := digs_mul_len (val X) ((val Y) * (val Z))
  go_wp2_with fail
  refine Calls.mono (digits_l (xs := digs (((val X) * (val Y)) * (val Z))) (ys := digs ((val X) * ((val Y) * (val Z)))) L7.out (by simp) (by simp) rfl rfl (by omega) (by rw [Nat.mul_assoc])) ?_
  rintro e w8 ⟨rfl, h1⟩
  have L8 := Lib.hid h1
  clear h1
  go_wp2_with fail
  refine Calls.mono (add_l (xs := Y) (ys := Z) (x := val Y) (y := val Z) L8.out (by simp) (by simp) HnY.out HnZ.out rfl rfl (by omega) (by omega)) ?_
  rintro e w9 ⟨A9, c9, rfl, h1⟩
  have L9 := Lib.hid h1
  clear h1
  have len9 := digs_add_len (val Y) (val Z)
  go_wp2_with fail
  refine Calls.mono (mul_l (xs := X) (ys := digs ((val Y) + (val Z))) (x := val X) (y := (val Y) + (val Z)) L9.out (by simp) (by simp) HnX.out rfl rfl (val_digs _) (by omega) (by omega)) ?_
  rintro e w10 ⟨A10, c10, rfl, h1⟩
  have L10 := Lib.hid h1
  clear h1
  have len10 := digs_mul_len (val X) ((val Y) + (val Z))
  go_wp2_with fail
  refine Calls.mono (mul_l (xs := X) (ys := Z) (x := val X) (y := val Z) L10.out (by simp) (by simp) HnX.out HnZ.out rfl rfl (by omega) (by omega)) ?_
  rintro e w11 ⟨A11, c11, rfl, h1⟩
  have L11 := Lib.hid h1
  clear h1
  have len11 := digs_mul_len (val X) (val Z)
  go_wp2_with fail
  refine Calls.mono (add_l (xs := digs ((val X) * (val Y))) (ys := digs ((val X) * (val Z))) (x := (val X) * (val Y)) (y := (val X) * (val Z)) L11.out (by simp) (by simp) rfl rfl (val_digs _) (val_digs _) (by omega) (by omega)) ?_
  rintro e w12 ⟨A12, c12, rfl, h1⟩
  have L12 := Lib.hid h1
  clear h1
  have len12 := digs_add_len ((val X) * (val Y)) ((val X) * (val Z))
  go_wp2_with fail
  refine Calls.mono (digits_l (xs := digs ((val X) * ((val Y) + (val Z)))) (ys := digs (((val X) * (val Y)) + ((val X) * (val Z)))) L12.out (by simp) (by simp) rfl rfl (by omega) (by rw [Nat.mul_add])) ?_
  rintro e w13 ⟨rfl, h1⟩
  have L13 := Lib.hid h1
  clear h1
  go_wp2_with fail
  have Lnone := Lib.hid (L13.out.new2 1 0 1 0 rfl rfl (by omega) (by omega))
  go_wp2_with fail
  refine Calls.mono (mul_l (xs := X) (ys := [1, 0]) (x := val X) (y := 1) Lnone.out (by simp) (by simp) HnX.out rfl rfl (by simp [val]) (by omega) (by simp <;> omega)) ?_
  rintro e w14 ⟨A14, c14, rfl, h1⟩
  rw [Nat.mul_one] at h1
  rw [Nat.mul_one]
  have L14 := Lib.hid h1
  clear h1
  have len14 := digs_mul_len (val X) (1)
  go_wp2_with fail
  refine Calls.mono (trim_l (xs := X) (x := val X) L14.out (by simp) HnX.out rfl (by omega)) ?_
  rintro e w15 ⟨A15, c15, rfl, h1⟩
  have L15 := Lib.hid h1
  clear h1
  go_wp2_with fail
  refine Calls.mono (digits_l (xs := digs (val X)) (ys := digs (val X)) L15.out (by simp) (by simp) rfl rfl (by omega) (rfl)) ?_
  rintro e w16 ⟨rfl, h1⟩
  have L16 := Lib.hid h1
  clear h1
  go_wp2_with fail
  have Lnnought := Lib.hid (L16.out.new1 0 0 rfl (by omega))
  go_wp2_with fail
  refine Calls.mono (mul_l (xs := X) (ys := [0]) (x := val X) (y := 0) Lnnought.out (by simp) (by simp) HnX.out rfl rfl (by simp [val]) (by omega) (by simp <;> omega)) ?_
  rintro e w17 ⟨A17, c17, rfl, h1⟩
  rw [Nat.mul_zero, digs_zero] at h1
  rw [Nat.mul_zero, digs_zero]
  have L17 := Lib.hid h1
  clear h1
  have len17 := digs_mul_len (val X) (0)
  go_wp2
  go_ret
  exact ⟨rfl, L17.out.1⟩
end Go.Proofs.Ytjnbdbgggcfbjaa
