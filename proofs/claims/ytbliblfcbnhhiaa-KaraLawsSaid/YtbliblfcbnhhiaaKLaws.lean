/-
  astrolabelaw02.KaraLaws: products may be taken in any order; the square of a sum is both squares, and twice the product.
-/
import Derived.Test.YtbliblfcbnhhiaaExam
namespace Go.Proofs.Ytbliblfcbnhhiaa
open Go.RowKit
theorem square_sum (a b : Nat) : (a + b) * (a + b) = a * a + b * b + (a * b + a * b) := by
  have e : b * a = a * b := Nat.mul_comm _ _
  simp only [Nat.add_mul, Nat.mul_add, e]; omega
set_option maxHeartbeats 8000000 in
set_option maxRecDepth 100000 in
theorem klaws_any (A : Option Addr) (ca : Nat) (xs : List Nat) (B : Option Addr) (cb : Nat) (ys : List Nat) (C : Option Addr) (cc : Nat) (zs : List Nat)  (w : World) (hX : Dg w A ca xs) (hY : Dg w B cb ys) (hZ : Dg w C cc zs)  :
    Calls Try.prog 4 #[.slice A xs.length ca, .slice B ys.length cb, .slice C zs.length cc] w fun e w' => e = .returned (.bool true) ∧ Below w.heap.size w w' := by
  have L0 := Lib.hid ((((live_start w).add (hX.take 50)).add (hY.take 50)).add (hZ.take 50))
  have mX := hX.1
  have nX : (0 : Int) ≤ min (xs.length : Int) 50 := by omega
  have kX : min (xs.length : Int) 50 ≤ (ca : Int) := by omega
  have HnX := Lib.hid (show (min (xs.length : Int) 50).toNat = (xs.take 50).length from by rw [List.length_take]; omega)
  have lX : (xs.take 50).length ≤ 50 := by rw [List.length_take]; omega
  have dX := digs_len_le (hX.take 50).2.1
  have oX := Lib.hid (hX.take 50).2.1
  have mY := hY.1
  have nY : (0 : Int) ≤ min (ys.length : Int) 50 := by omega
  have kY : min (ys.length : Int) 50 ≤ (cb : Int) := by omega
  have HnY := Lib.hid (show (min (ys.length : Int) 50).toNat = (ys.take 50).length from by rw [List.length_take]; omega)
  have lY : (ys.take 50).length ≤ 50 := by rw [List.length_take]; omega
  have dY := digs_len_le (hY.take 50).2.1
  have oY := Lib.hid (hY.take 50).2.1
  have mZ := hZ.1
  have nZ : (0 : Int) ≤ min (zs.length : Int) 50 := by omega
  have kZ : min (zs.length : Int) 50 ≤ (cc : Int) := by omega
  have HnZ := Lib.hid (show (min (zs.length : Int) 50).toNat = (zs.take 50).length from by rw [List.length_take]; omega)
  have lZ : (zs.take 50).length ≤ 50 := by rw [List.length_take]; omega
  have dZ := digs_len_le (hZ.take 50).2.1
  have oZ := Lib.hid (hZ.take 50).2.1
  clear hX mX hY mY hZ mZ
  generalize xs.take 50 = X at *
  generalize ys.take 50 = Y at *
  generalize zs.take 50 = Z at *
  go_enter Try.func4, Try.ntmps4
  go_wp2_with fail
  refine (examples_any w).mono ?_
  rintro e w1 ⟨rfl, hb1⟩
  have L1 := Lib.hid (L0.out.step hb1)
  clear hb1
  go_wp2_with fail
  refine Calls.mono (kara_l (xs := X) (ys := Y) (x := val X) (y := val Y) L1.out (by simp) (by simp) HnX.out HnY.out rfl rfl (by omega) (by omega)) ?_
  rintro e w2 ⟨A2, c2, rfl, h1⟩
  have L2 := Lib.hid h1
  clear h1
  have len2 := digs_mul_len (val X) (val Y)
  go_wp2_with fail
  refine Calls.mono (kara_l (xs := Y) (ys := X) (x := val Y) (y := val X) L2.out (by simp) (by simp) HnY.out HnX.out rfl rfl (by omega) (by omega)) ?_
  rintro e w3 ⟨A3, c3, rfl, h1⟩
  have L3 := Lib.hid h1
  clear h1
  have len3 := digs_mul_len (val Y) (val X)
  go_wp2_with fail
  refine Calls.mono (digits_l (xs := digs ((val X) * (val Y))) (ys := digs ((val Y) * (val X))) L3.out (by simp) (by simp) rfl rfl (by first | omega | simp) (by rw [Nat.mul_comm])) ?_
  rintro e w4 ⟨rfl, h1⟩
  have L4 := Lib.hid h1
  clear h1
  go_wp2_with fail
  refine Calls.mono (kara_l (xs := digs ((val X) * (val Y))) (ys := Z) (x := (val X) * (val Y)) (y := val Z) L4.out (by simp) (by simp) rfl HnZ.out (val_digs _) rfl (by omega) (by omega)) ?_
  rintro e w5 ⟨A5, c5, rfl, h1⟩
  have L5 := Lib.hid h1
  clear h1
  have len5 := digs_mul_len ((val X) * (val Y)) (val Z)
  go_wp2_with fail
  refine Calls.mono (kara_l (xs := Y) (ys := Z) (x := val Y) (y := val Z) L5.out (by simp) (by simp) HnY.out HnZ.out rfl rfl (by omega) (by omega)) ?_
  rintro e w6 ⟨A6, c6, rfl, h1⟩
  have L6 := Lib.hid h1
  clear h1
  have len6 := digs_mul_len (val Y) (val Z)
  go_wp2_with fail
  refine Calls.mono (kara_l (xs := X) (ys := digs ((val Y) * (val Z))) (x := val X) (y := (val Y) * (val Z)) L6.out (by simp) (by simp) HnX.out rfl rfl (val_digs _) (by omega) (by omega)) ?_
  rintro e w7 ⟨A7, c7, rfl, h1⟩
  have L7 := Lib.hid h1
  clear h1
  have len7 := digs_mul_len (val X) ((val Y) * (val Z))
  go_wp2_with fail
  refine Calls.mono (digits_l (xs := digs (((val X) * (val Y)) * (val Z))) (ys := digs ((val X) * ((val Y) * (val Z)))) L7.out (by simp) (by simp) rfl rfl (by first | omega | simp) (by rw [Nat.mul_assoc])) ?_
  rintro e w8 ⟨rfl, h1⟩
  have L8 := Lib.hid h1
  clear h1
  go_wp2_with fail
  refine Calls.mono (square_l (xs := X) (x := val X) L8.out (by simp) HnX.out rfl (by omega)) ?_
  rintro e w9 ⟨A9, c9, rfl, h1⟩
  have L9 := Lib.hid h1
  clear h1
  have len9 := digs_mul_len (val X) (val X)
  go_wp2_with fail
  refine Calls.mono (square_l (xs := Y) (x := val Y) L9.out (by simp) HnY.out rfl (by omega)) ?_
  rintro e w10 ⟨A10, c10, rfl, h1⟩
  have L10 := Lib.hid h1
  clear h1
  have len10 := digs_mul_len (val Y) (val Y)
  go_wp2_with fail
  refine Calls.mono (add_l (xs := digs ((val X) * (val X))) (ys := digs ((val Y) * (val Y))) (x := (val X) * (val X)) (y := (val Y) * (val Y)) L10.out (by simp) (by simp) rfl rfl (val_digs _) (val_digs _) (by omega) (by omega)) ?_
  rintro e w11 ⟨A11, c11, rfl, h1⟩
  have L11 := Lib.hid h1
  clear h1
  have len11 := digs_add_len ((val X) * (val X)) ((val Y) * (val Y))
  go_wp2_with fail
  refine Calls.mono (add_l (xs := digs ((val X) * (val Y))) (ys := digs ((val X) * (val Y))) (x := (val X) * (val Y)) (y := (val X) * (val Y)) L11.out (by simp) (by simp) rfl rfl (val_digs _) (val_digs _) (by omega) (by omega)) ?_
  rintro e w12 ⟨A12, c12, rfl, h1⟩
  have L12 := Lib.hid h1
  clear h1
  have len12 := digs_add_len ((val X) * (val Y)) ((val X) * (val Y))
  go_wp2_with fail
  refine Calls.mono (add_l (xs := digs (((val X) * (val X)) + ((val Y) * (val Y)))) (ys := digs (((val X) * (val Y)) + ((val X) * (val Y)))) (x := ((val X) * (val X)) + ((val Y) * (val Y))) (y := ((val X) * (val Y)) + ((val X) * (val Y))) L12.out (by simp) (by simp) rfl rfl (val_digs _) (val_digs _) (by omega) (by omega)) ?_
  rintro e w13 ⟨A13, c13, rfl, h1⟩
  have L13 := Lib.hid h1
  clear h1
  have len13 := digs_add_len (((val X) * (val X)) + ((val Y) * (val Y))) (((val X) * (val Y)) + ((val X) * (val Y)))
  go_wp2_with fail
  refine Calls.mono (add_l (xs := X) (ys := Y) (x := val X) (y := val Y) L13.out (by simp) (by simp) HnX.out HnY.out rfl rfl (by omega) (by omega)) ?_
  rintro e w14 ⟨A14, c14, rfl, h1⟩
  have L14 := Lib.hid h1
  clear h1
  have len14 := digs_add_len (val X) (val Y)
  go_wp2_with fail
  refine Calls.mono (square_l (xs := digs ((val X) + (val Y))) (x := (val X) + (val Y)) L14.out (by simp) rfl (val_digs _) (by omega)) ?_
  rintro e w15 ⟨A15, c15, rfl, h1⟩
  have L15 := Lib.hid h1
  clear h1
  have len15 := digs_mul_len ((val X) + (val Y)) ((val X) + (val Y))
  go_wp2_with fail
  refine Calls.mono (digits_l (xs := digs (((val X) + (val Y)) * ((val X) + (val Y)))) (ys := digs ((((val X) * (val X)) + ((val Y) * (val Y))) + (((val X) * (val Y)) + ((val X) * (val Y))))) L15.out (by simp) (by simp) rfl rfl (by first | omega | simp) (by rw [square_sum])) ?_
  rintro e w16 ⟨rfl, h1⟩
  have L16 := Lib.hid h1
  clear h1
  go_wp2
  go_ret
  exact ⟨rfl, L16.out.1⟩
end Go.Proofs.Ytbliblfcbnhhiaa
