/-
  astrolabelaw01.NatReckons: any two numbers stand, and have the sum, the difference and the product, that the chapter says.
-/
import Derived.Test.YtjnbdbgggcfbjaaExam
import Derived.Test.YtjnbdbgggcfbjaaLive3
namespace Go.Proofs.Ytjnbdbgggcfbjaa
open Go.RowKit
set_option maxHeartbeats 8000000 in
set_option maxRecDepth 100000 in
theorem reckons_any (A : Option Addr) (ca : Nat) (xs : List Nat) (B : Option Addr) (cb : Nat) (ys : List Nat)  (w : World) (hX : Dg w A ca xs) (hY : Dg w B cb ys)  :
    Calls Try.prog 3 #[.slice A xs.length ca, .slice B ys.length cb] w fun e w' => e = .returned (.bool true) ∧ Below w.heap.size w w' := by
  have L0 := Lib.hid (((live_start w).add (hX.take 60)).add (hY.take 60))
  have mX := hX.1
  have nX : (0 : Int) ≤ min (xs.length : Int) 60 := by omega
  have kX : min (xs.length : Int) 60 ≤ (ca : Int) := by omega
  have HnX := Lib.hid (show (min (xs.length : Int) 60).toNat = (xs.take 60).length from by rw [List.length_take]; omega)
  have lX : (xs.take 60).length ≤ 60 := by rw [List.length_take]; omega
  have dX := digs_len_le (hX.take 60).2.1
  have oX := Lib.hid (hX.take 60).2.1
  have mY := hY.1
  have nY : (0 : Int) ≤ min (ys.length : Int) 60 := by omega
  have kY : min (ys.length : Int) 60 ≤ (cb : Int) := by omega
  have HnY := Lib.hid (show (min (ys.length : Int) 60).toNat = (ys.take 60).length from by rw [List.length_take]; omega)
  have lY : (ys.take 60).length ≤ 60 := by rw [List.length_take]; omega
  have dY := digs_len_le (hY.take 60).2.1
  have oY := Lib.hid (hY.take 60).2.1
  clear hX mX hY mY
  generalize xs.take 60 = X at *
  generalize ys.take 60 = Y at *
  obtain ⟨q, hq⟩ : ∃ q, cmpi (val X) (val Y) = q := ⟨_, rfl⟩
  have HQ := Lib.hid hq
  clear hq
  by_cases h0 : val X < val Y
  · have H0 := Lib.hid h0
    clear h0
    go_enter Try.func3, Try.ntmps3
    go_wp2_with fail
    refine (examples_any w).mono ?_
    rintro e w1 ⟨rfl, hb1⟩
    have L1 := Lib.hid (L0.out.step hb1)
    clear hb1
    go_wp2_with fail
    refine Calls.mono (add_l (xs := X) (ys := Y) (x := val X) (y := val Y) L1.out (by simp) (by simp) HnX.out HnY.out rfl rfl (by omega) (by omega)) ?_
    rintro e w2 ⟨A2, c2, rfl, h1⟩
    have L2 := Lib.hid h1
    clear h1
    have len2 := digs_add_len (val X) (val Y)
    go_wp2_with fail
    refine Calls.mono (radd_l (xs := X) (ys := Y) (x := val X) (y := val Y) L2.out (by simp) (by simp) HnX.out HnY.out rfl rfl (by omega) (by omega)) ?_
    rintro e w3 ⟨A3, c3, rfl, h1⟩
    have L3 := Lib.hid h1
    clear h1
    have len3 := digs_add_len (val X) (val Y)
    go_wp2_with fail
    refine Calls.mono (digits_l (xs := digs ((val X) + (val Y))) (ys := digs ((val X) + (val Y))) L3.out (by simp) (by simp) rfl rfl (by first | omega | simp) (rfl)) ?_
    rintro e w4 ⟨rfl, h1⟩
    have L4 := Lib.hid h1
    clear h1
    go_wp2_with fail
    refine Calls.mono (mul_l (xs := X) (ys := Y) (x := val X) (y := val Y) L4.out (by simp) (by simp) HnX.out HnY.out rfl rfl (by omega) (by omega)) ?_
    rintro e w5 ⟨A5, c5, rfl, h1⟩
    have L5 := Lib.hid h1
    clear h1
    have len5 := digs_mul_len (val X) (val Y)
    go_wp2_with fail
    refine Calls.mono (rmul_l (xs := X) (ys := Y) (x := val X) (y := val Y) L5.out (by simp) (by simp) HnX.out HnY.out rfl rfl (by omega) (by omega)) ?_
    rintro e w6 ⟨A6, c6, rfl, h1⟩
    have L6 := Lib.hid h1
    clear h1
    have len6 := digs_mul_len (val X) (val Y)
    go_wp2_with fail
    refine Calls.mono (digits_l (xs := digs ((val X) * (val Y))) (ys := digs ((val X) * (val Y))) L6.out (by simp) (by simp) rfl rfl (by first | omega | simp) (rfl)) ?_
    rintro e w7 ⟨rfl, h1⟩
    have L7 := Lib.hid h1
    clear h1
    go_wp2_with fail
    refine Calls.mono (sub_l_no (xs := X) (ys := Y) (x := val X) (y := val Y) L7.out (by simp) (by simp) HnX.out HnY.out rfl rfl (by omega) (by omega) H0.out) ?_
    rintro e w8 ⟨rfl, h1⟩
    have L8 := Lib.hid h1
    clear h1
    go_wp2_with fail
    refine Calls.mono (rsub_l_no (xs := X) (ys := Y) (x := val X) (y := val Y) L8.out (by simp) (by simp) HnX.out HnY.out rfl rfl (by omega) (by omega) H0.out) ?_
    rintro e w9 ⟨rfl, h1⟩
    have L9 := Lib.hid h1
    clear h1
    have Lnn := Lib.hid L9.out.none_
    go_wp2_with fail
    refine Calls.mono (digits_l (xs := []) (ys := []) Lnn.out (by simp) (by simp) rfl rfl (by first | omega | simp) (rfl)) ?_
    rintro e w10 ⟨rfl, h1⟩
    have L10 := Lib.hid h1
    clear h1
    go_wp2_with fail
    refine Calls.mono (cmp_l (xs := X) (ys := Y) (x := val X) (y := val Y) L10.out (by simp) (by simp) HnX.out HnY.out rfl rfl (by omega) (by omega) (q := q) HQ.out) ?_
    rintro e w11 ⟨rfl, h1⟩
    have L11 := Lib.hid h1
    clear h1
    go_wp2_with fail
    refine Calls.mono (rcmp_l (xs := X) (ys := Y) (x := val X) (y := val Y) L11.out (by simp) (by simp) HnX.out HnY.out rfl rfl (by omega) (by omega) (q := q) HQ.out) ?_
    rintro e w12 ⟨rfl, h1⟩
    have L12 := Lib.hid h1
    clear h1
    go_wp2
    go_ret
    exact ⟨rfl, L12.out.1⟩
  · have H0 := Lib.hid (Nat.le_of_not_lt h0)
    clear h0
    go_enter Try.func3, Try.ntmps3
    go_wp2_with fail
    refine (examples_any w).mono ?_
    rintro e w1 ⟨rfl, hb1⟩
    have L1 := Lib.hid (L0.out.step hb1)
    clear hb1
    go_wp2_with fail
    refine Calls.mono (add_l (xs := X) (ys := Y) (x := val X) (y := val Y) L1.out (by simp) (by simp) HnX.out HnY.out rfl rfl (by omega) (by omega)) ?_
    rintro e w2 ⟨A2, c2, rfl, h1⟩
    have L2 := Lib.hid h1
    clear h1
    have len2 := digs_add_len (val X) (val Y)
    go_wp2_with fail
    refine Calls.mono (radd_l (xs := X) (ys := Y) (x := val X) (y := val Y) L2.out (by simp) (by simp) HnX.out HnY.out rfl rfl (by omega) (by omega)) ?_
    rintro e w3 ⟨A3, c3, rfl, h1⟩
    have L3 := Lib.hid h1
    clear h1
    have len3 := digs_add_len (val X) (val Y)
    go_wp2_with fail
    refine Calls.mono (digits_l (xs := digs ((val X) + (val Y))) (ys := digs ((val X) + (val Y))) L3.out (by simp) (by simp) rfl rfl (by first | omega | simp) (rfl)) ?_
    rintro e w4 ⟨rfl, h1⟩
    have L4 := Lib.hid h1
    clear h1
    go_wp2_with fail
    refine Calls.mono (mul_l (xs := X) (ys := Y) (x := val X) (y := val Y) L4.out (by simp) (by simp) HnX.out HnY.out rfl rfl (by omega) (by omega)) ?_
    rintro e w5 ⟨A5, c5, rfl, h1⟩
    have L5 := Lib.hid h1
    clear h1
    have len5 := digs_mul_len (val X) (val Y)
    go_wp2_with fail
    refine Calls.mono (rmul_l (xs := X) (ys := Y) (x := val X) (y := val Y) L5.out (by simp) (by simp) HnX.out HnY.out rfl rfl (by omega) (by omega)) ?_
    rintro e w6 ⟨A6, c6, rfl, h1⟩
    have L6 := Lib.hid h1
    clear h1
    have len6 := digs_mul_len (val X) (val Y)
    go_wp2_with fail
    refine Calls.mono (digits_l (xs := digs ((val X) * (val Y))) (ys := digs ((val X) * (val Y))) L6.out (by simp) (by simp) rfl rfl (by first | omega | simp) (rfl)) ?_
    rintro e w7 ⟨rfl, h1⟩
    have L7 := Lib.hid h1
    clear h1
    go_wp2_with fail
    refine Calls.mono (sub_l (xs := X) (ys := Y) (x := val X) (y := val Y) L7.out (by simp) (by simp) HnX.out HnY.out rfl rfl (by omega) (by omega) H0.out) ?_
    rintro e w8 ⟨A8, c8, rfl, h1⟩
    have L8 := Lib.hid h1
    clear h1
    have len8 := digs_sub_len (val X) (val Y)
    go_wp2_with fail
    refine Calls.mono (rsub_l (xs := X) (ys := Y) (x := val X) (y := val Y) L8.out (by simp) (by simp) HnX.out HnY.out rfl rfl (by omega) (by omega) H0.out) ?_
    rintro e w9 ⟨A9, c9, rfl, h1⟩
    have L9 := Lib.hid h1
    clear h1
    have len9 := digs_sub_len (val X) (val Y)
    go_wp2_with fail
    refine Calls.mono (digits_l (xs := digs ((val X) - (val Y))) (ys := digs ((val X) - (val Y))) L9.out (by simp) (by simp) rfl rfl (by first | omega | simp) (rfl)) ?_
    rintro e w10 ⟨rfl, h1⟩
    have L10 := Lib.hid h1
    clear h1
    go_wp2_with fail
    refine Calls.mono (cmp_l (xs := X) (ys := Y) (x := val X) (y := val Y) L10.out (by simp) (by simp) HnX.out HnY.out rfl rfl (by omega) (by omega) (q := q) HQ.out) ?_
    rintro e w11 ⟨rfl, h1⟩
    have L11 := Lib.hid h1
    clear h1
    go_wp2_with fail
    refine Calls.mono (rcmp_l (xs := X) (ys := Y) (x := val X) (y := val Y) L11.out (by simp) (by simp) HnX.out HnY.out rfl rfl (by omega) (by omega) (q := q) HQ.out) ?_
    rintro e w12 ⟨rfl, h1⟩
    have L12 := Lib.hid h1
    clear h1
    go_wp2
    go_ret
    exact ⟨rfl, L12.out.1⟩
end Go.Proofs.Ytjnbdbgggcfbjaa
