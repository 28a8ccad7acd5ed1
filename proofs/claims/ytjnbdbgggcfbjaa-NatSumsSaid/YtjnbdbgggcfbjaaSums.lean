/-
  astrolabelaw01.NatSums: sums may be taken in any order; a sum less one part is the other one; nothing is below a part of itself.
-/
import Derived.Test.YtjnbdbgggcfbjaaExam
namespace Go.Proofs.Ytjnbdbgggcfbjaa
open Go.RowKit
set_option maxHeartbeats 4000000 in
set_option maxRecDepth 100000 in
theorem sums_any (A : Option Addr) (ca : Nat) (xs : List Nat) (B : Option Addr) (cb : Nat) (ys : List Nat) (C : Option Addr) (cc : Nat) (zs : List Nat)  (w : World) (hX : Dg w A ca xs) (hY : Dg w B cb ys) (hZ : Dg w C cc zs)  :
    Calls Try.prog 5 #[.slice A xs.length ca, .slice B ys.length cb, .slice C zs.length cc] w fun e w' => e = .returned (.bool true) ∧ Below w.heap.size w w' := by
  have L0 := Lib.hid ((((live_start w).add (hX.take 60)).add (hY.take 60)).add (hZ.take 60))
  have mX := hX.1
  have nX : (0 : Int) ≤ min (xs.length : Int) 60 := by omega
  have kX : min (xs.length : Int) 60 ≤ (ca : Int) := by omega
  have HnX := Lib.hid (show (min (xs.length : Int) 60).toNat = (xs.take 60).length from by rw [List.length_take]; omega)
  have lX : (xs.take 60).length ≤ 60 := by rw [List.length_take]; omega
  have dX := digs_len_le (hX.take 60).2.1
  have oX := Lib.hid (hX.take 60).2.1
  have mY := hY.1
  have nY : (0 : Int) ≤ min (ys.length : Int) 60 := by omega
  have kY : min (ys.length : Int) 60 ≤ (cb : Int) := by omega
  have HnY := Lib.hid (show (min (ys.length : Int) 60).toNat = (ys.take 60).length from by rw [List.length_take]; omega)
  have lY : (ys.take 60).length ≤ 60 := by rw [List.length_take]; omega
  have dY := digs_len_le (hY.take 60).2.1
  have oY := Lib.hid (hY.take 60).2.1
  have mZ := hZ.1
  have nZ : (0 : Int) ≤ min (zs.length : Int) 60 := by omega
  have kZ : min (zs.length : Int) 60 ≤ (cc : Int) := by omega
  have HnZ := Lib.hid (show (min (zs.length : Int) 60).toNat = (zs.take 60).length from by rw [List.length_take]; omega)
  have lZ : (zs.take 60).length ≤ 60 := by rw [List.length_take]; omega
  have dZ := digs_len_le (hZ.take 60).2.1
  have oZ := Lib.hid (hZ.take 60).2.1
  clear hX mX hY mY hZ mZ
  generalize xs.take 60 = X at *
  generalize ys.take 60 = Y at *
  generalize zs.take 60 = Z at *
  go_enter Try.func5, Try.ntmps5
  go_wp2_with fail
  refine (examples_any w).mono ?_
  rintro e w1 ⟨rfl, hb1⟩
  have L1 := Lib.hid (L0.out.step hb1)
  clear hb1
  go_wp2_with fail
  refine Calls.mono (add_l (xs := X) (ys := Y) (x := val X) (y := val Y) L1.out (by simp) (by simp) HnX.out HnY.out rfl rfl (by omega) (by omega)) ?_
  rintro e w2 ⟨A2, c2, rfl, h1⟩
  have L2 := Lib.hid h1
  clear h1
  have len2 := digs_add_len (val X) (val Y)
  go_wp2_with fail
  refine Calls.mono (add_l (xs := Y) (ys := X) (x := val Y) (y := val X) L2.out (by simp) (by simp) HnY.out HnX.out rfl rfl (by omega) (by omega)) ?_
  rintro e w3 ⟨A3, c3, rfl, h1⟩
  have L3 := Lib.hid h1
  clear h1
  have len3 := digs_add_len (val Y) (val X)
  go_wp2_with fail
  refine Calls.mono (digits_l (xs := digs ((val X) + (val Y))) (ys := digs ((val Y) + (val X))) L3.out (by simp) (by simp) rfl rfl (by omega) (by rw [Nat.add_comm])) ?_
  rintro e w4 ⟨rfl, h1⟩
  have L4 := Lib.hid h1
  clear h1
  go_wp2_with fail
  refine Calls.mono (add_l (xs := digs ((val X) + (val Y))) (ys := Z) (x := (val X) + (val Y)) (y := val Z) L4.out (by simp) (by simp) rfl HnZ.out (val_digs _) rfl (by omega) (by omega)) ?_
  rintro e w5 ⟨A5, c5, rfl, h1⟩
  have L5 := Lib.hid h1
  clear h1
  have len5 := digs_add_len ((val X) + (val Y)) (val Z)
  go_wp2_with fail
  refine Calls.mono (add_l (xs := Y) (ys := Z) (x := val Y) (y := val Z) L5.out (by simp) (by simp) HnY.out HnZ.out rfl rfl (by omega) (by omega)) ?_
  rintro e w6 ⟨A6, c6, rfl, h1⟩
  have L6 := Lib.hid h1
  clear h1
  have len6 := digs_add_len (val Y) (val Z)
  go_wp2_with fail
  refine Calls.mono (add_l (xs := X) (ys := digs ((val Y) + (val Z))) (x := val X) (y := (val Y) + (val Z)) L6.out (by simp) (by simp) HnX.out rfl rfl (val_digs _) (by omega) (by omega)) ?_
  rintro e w7 ⟨A7, c7, rfl, h1⟩
  have L7 := Lib.hid h1
  clear h1
  have len7 := digs_add_len (val X) ((val Y) + (val Z))
  go_wp2_with fail
  refine Calls.mono (digits_l (xs := digs (((val X) + (val Y)) + (val Z))) (ys := digs ((val X) + ((val Y) + (val Z)))) L7.out (by simp) (by simp) rfl rfl (by omega) (by rw [Nat.add_assoc])) ?_
  rintro e w8 ⟨rfl, h1⟩
  have L8 := Lib.hid h1
  clear h1
  go_wp2_with fail
  refine Calls.mono (sub_l (xs := digs ((val X) + (val Y))) (ys := Y) (x := (val X) + (val Y)) (y := val Y) L8.out (by simp) (by simp) rfl HnY.out (val_digs _) rfl (by omega) (by omega) (Nat.le_add_left _ _)) ?_
  rintro e w9 ⟨A9, c9, rfl, h1⟩
  rw [Nat.add_sub_cancel] at h1
  rw [Nat.add_sub_cancel]
  have L9 := Lib.hid h1
  clear h1
  have len9 := digs_sub_len ((val X) + (val Y)) (val Y)
  go_wp2_with fail
  refine Calls.mono (trim_l (xs := X) (x := val X) L9.out (by simp) HnX.out rfl (by omega)) ?_
  rintro e w10 ⟨A10, c10, rfl, h1⟩
  have L10 := Lib.hid h1
  clear h1
  go_wp2_with fail
  refine Calls.mono (digits_l (xs := digs (val X)) (ys := digs (val X)) L10.out (by simp) (by simp) rfl rfl (by omega) (rfl)) ?_
  rintro e w11 ⟨rfl, h1⟩
  have L11 := Lib.hid h1
  clear h1
  by_cases h0 : val Y = 0
  · have H0 := Lib.hid h0
    clear h0
    go_wp2_with fail
    refine Calls.mono (cmp_l (xs := digs ((val X) + (val Y))) (ys := X) (x := (val X) + (val Y)) (y := val X) L11.out (by simp) (by simp) rfl HnX.out (val_digs _) rfl (by omega) (by omega) (q := 0) (cmpi_eq (by have := H0.out; omega))) ?_
    rintro e w12 ⟨rfl, h1⟩
    have L12 := Lib.hid h1
    clear h1
    go_wp2_with fail
    refine Calls.mono (cmp_l (xs := digs ((val X) + (val Y))) (ys := X) (x := (val X) + (val Y)) (y := val X) L12.out (by simp) (by simp) rfl HnX.out (val_digs _) rfl (by omega) (by omega) (q := 0) (cmpi_eq (by have := H0.out; omega))) ?_
    rintro e w13 ⟨rfl, h1⟩
    have L13 := Lib.hid h1
    clear h1
    go_wp2_with fail
    refine Calls.mono (bits_l (xs := Y) (x := val Y) L13.out (by simp) HnY.out rfl (by omega) (q := 0) (by rw [H0.out, blen_zero]; rfl)) ?_
    rintro e w14 ⟨rfl, h1⟩
    have L14 := Lib.hid h1
    clear h1
    go_wp2
    go_ret
    exact ⟨rfl, L14.out.1⟩
  · have H0 := Lib.hid h0
    have HB := Lib.hid (blen_ne (v := val Y) h0)
    clear h0
    go_wp2_with fail
    refine Calls.mono (cmp_l (xs := digs ((val X) + (val Y))) (ys := X) (x := (val X) + (val Y)) (y := val X) L11.out (by simp) (by simp) rfl HnX.out (val_digs _) rfl (by omega) (by omega) (q := 1) (cmpi_gt (by have := H0.out; omega))) ?_
    rintro e w12 ⟨rfl, h1⟩
    have L12 := Lib.hid h1
    clear h1
    go_wp2_with fail
    refine Calls.mono (cmp_l (xs := digs ((val X) + (val Y))) (ys := X) (x := (val X) + (val Y)) (y := val X) L12.out (by simp) (by simp) rfl HnX.out (val_digs _) rfl (by omega) (by omega) (q := 1) (cmpi_gt (by have := H0.out; omega))) ?_
    rintro e w13 ⟨rfl, h1⟩
    have L13 := Lib.hid h1
    clear h1
    have t0 := HB.out
    go_wp2_with fail
    refine Calls.mono (bits_l (xs := Y) (x := val Y) L13.out (by simp) HnY.out rfl (by omega) (q := (blen (val Y) : Int)) rfl) ?_
    rintro e w14 ⟨rfl, h1⟩
    have L14 := Lib.hid h1
    clear h1
    go_wp2
    go_ret
    exact ⟨rfl, L14.out.1⟩
end Go.Proofs.Ytjnbdbgggcfbjaa
