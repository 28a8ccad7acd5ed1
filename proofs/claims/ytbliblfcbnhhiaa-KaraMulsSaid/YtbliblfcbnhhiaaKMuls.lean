/-
  astrolabelaw02.KaraMuls: any two numbers have the product, any one the square, and any many digits need the steps, that the chapter says.
-/
import Derived.Test.YtbliblfcbnhhiaaExam
namespace Go.Proofs.Ytbliblfcbnhhiaa
open Go.RowKit
set_option maxHeartbeats 8000000 in
set_option maxRecDepth 100000 in
theorem kmuls_any (A : Option Addr) (ca : Nat) (xs : List Nat) (B : Option Addr) (cb : Nat) (ys : List Nat) (n : Int) (w : World) (hX : Dg w A ca xs) (hY : Dg w B cb ys)  :
    Calls Try.prog 3 #[.slice A xs.length ca, .slice B ys.length cb, .int .i64 n] w fun e w' => e = .returned (.bool true) ∧ Below w.heap.size w w' := by
  have L0 := Lib.hid (((live_start w).add (hX.take 80)).add (hY.take 80))
  have mX := hX.1
  have nX : (0 : Int) ≤ min (xs.length : Int) 80 := by omega
  have kX : min (xs.length : Int) 80 ≤ (ca : Int) := by omega
  have HnX := Lib.hid (show (min (xs.length : Int) 80).toNat = (xs.take 80).length from by rw [List.length_take]; omega)
  have lX : (xs.take 80).length ≤ 80 := by rw [List.length_take]; omega
  have dX := digs_len_le (hX.take 80).2.1
  have oX := Lib.hid (hX.take 80).2.1
  have mY := hY.1
  have nY : (0 : Int) ≤ min (ys.length : Int) 80 := by omega
  have kY : min (ys.length : Int) 80 ≤ (cb : Int) := by omega
  have HnY := Lib.hid (show (min (ys.length : Int) 80).toNat = (ys.take 80).length from by rw [List.length_take]; omega)
  have lY : (ys.take 80).length ≤ 80 := by rw [List.length_take]; omega
  have dY := digs_len_le (hY.take 80).2.1
  have oY := Lib.hid (hY.take 80).2.1
  clear hX mX hY mY
  generalize xs.take 80 = X at *
  generalize ys.take 80 = Y at *
  obtain ⟨N, eN⟩ : ∃ N : Nat, min (max (min n 20000) 0) 1000000 = (N : Int) := ⟨(min (max (min n 20000) 0) 1000000).toNat, by omega⟩
  obtain ⟨q, hq⟩ : ∃ q : Int, (ksteps N : Int) = q := ⟨_, rfl⟩
  have HN := Lib.hid eN
  have HQ := Lib.hid hq
  clear eN hq
  go_enter Try.func3, Try.ntmps3
  go_wp2_with fail
  refine (examples_any w).mono ?_
  rintro e w1 ⟨rfl, hb1⟩
  have L1 := Lib.hid (L0.out.step hb1)
  clear hb1
  go_wp2_with fail
  refine Calls.mono (kara_l (xs := X) (ys := Y) (x := val X) (y := val Y) L1.out (by simp) (by simp) HnX.out HnY.out rfl rfl (by omega) (by omega)) ?_
  rintro e w2 ⟨A2, c2, rfl, h1⟩
  have L2 := Lib.hid h1
  clear h1
  have len2 := digs_mul_len (val X) (val Y)
  go_wp2_with fail
  refine Calls.mono (r2mul_l (xs := X) (ys := Y) (x := val X) (y := val Y) L2.out (by simp) (by simp) HnX.out HnY.out rfl rfl (by omega) (by omega)) ?_
  rintro e w3 ⟨A3, c3, rfl, h1⟩
  have L3 := Lib.hid h1
  clear h1
  go_wp2_with fail
  refine Calls.mono (digits_l (xs := digs ((val X) * (val Y))) (ys := digs ((val X) * (val Y))) L3.out (by simp) (by simp) rfl rfl (by first | omega | simp) (rfl)) ?_
  rintro e w4 ⟨rfl, h1⟩
  have L4 := Lib.hid h1
  clear h1
  go_wp2_with fail
  refine Calls.mono (square_l (xs := X) (x := val X) L4.out (by simp) HnX.out rfl (by omega)) ?_
  rintro e w5 ⟨A5, c5, rfl, h1⟩
  have L5 := Lib.hid h1
  clear h1
  have len5 := digs_mul_len (val X) (val X)
  go_wp2_with fail
  refine Calls.mono (r2mul_l (xs := X) (ys := X) (x := val X) (y := val X) L5.out (by simp) (by simp) HnX.out HnX.out rfl rfl (by omega) (by omega)) ?_
  rintro e w6 ⟨A6, c6, rfl, h1⟩
  have L6 := Lib.hid h1
  clear h1
  go_wp2_with fail
  refine Calls.mono (digits_l (xs := digs ((val X) * (val X))) (ys := digs ((val X) * (val X))) L6.out (by simp) (by simp) rfl rfl (by first | omega | simp) (rfl)) ?_
  rintro e w7 ⟨rfl, h1⟩
  have L7 := Lib.hid h1
  clear h1
  go_wp2_with fail
  refine Calls.mono (steps_l   L7.out     (N := N) (q := q) HN.out HQ.out) ?_
  rintro e w8 ⟨rfl, h1⟩
  have L8 := Lib.hid h1
  clear h1
  go_wp2_with fail
  refine Calls.mono (rsteps_l   L8.out     (N := N) (q := q) HN.out HQ.out) ?_
  rintro e w9 ⟨rfl, h1⟩
  have L9 := Lib.hid h1
  clear h1
  go_wp2
  go_ret
  exact ⟨rfl, L9.out.1⟩
end Go.Proofs.Ytbliblfcbnhhiaa
