/-
  astrolabelaw02.KaraMoves: moved up, two numbers have the product moved up by both ways; with 1 a number is itself, with nought nought.
-/
import Derived.Test.YtbliblfcbnhhiaaExam
import Derived.Test.YtbliblfcbnhhiaaLive2
namespace Go.Proofs.Ytbliblfcbnhhiaa
open Go.RowKit
theorem moves_mul (x y n m : Nat) : x * 2 ^ n * (y * 2 ^ m) = x * y * 2 ^ (n + m) := by
  rw [Nat.pow_add, Nat.mul_mul_mul_comm]
set_option maxHeartbeats 8000000 in
set_option maxRecDepth 100000 in
theorem kmoves_any (A : Option Addr) (ca : Nat) (xs : List Nat) (B : Option Addr) (cb : Nat) (ys : List Nat) (n m : Int) (w : World) (hX : Dg w A ca xs) (hY : Dg w B cb ys) (hn : -9223372036854775808 ≤ n) (hn' : n ≤ 9223372036854775807) (hm : -9223372036854775808 ≤ m) (hm' : m ≤ 9223372036854775807) :
    Calls Try.prog 7 #[.slice A xs.length ca, .slice B ys.length cb, .int .i64 n, .int .i64 m] w fun e w' => e = .returned (.bool true) ∧ Below w.heap.size w w' := by
  have L0 := Lib.hid (((live_start w).add (hX.take 30)).add (hY.take 30))
  have mX := hX.1
  have nX : (0 : Int) ≤ min (xs.length : Int) 30 := by omega
  have kX : min (xs.length : Int) 30 ≤ (ca : Int) := by omega
  have HnX := Lib.hid (show (min (xs.length : Int) 30).toNat = (xs.take 30).length from by rw [List.length_take]; omega)
  have lX : (xs.take 30).length ≤ 30 := by rw [List.length_take]; omega
  have dX := digs_len_le (hX.take 30).2.1
  have oX := Lib.hid (hX.take 30).2.1
  have mY := hY.1
  have nY : (0 : Int) ≤ min (ys.length : Int) 30 := by omega
  have kY : min (ys.length : Int) 30 ≤ (cb : Int) := by omega
  have HnY := Lib.hid (show (min (ys.length : Int) 30).toNat = (ys.take 30).length from by rw [List.length_take]; omega)
  have lY : (ys.take 30).length ≤ 30 := by rw [List.length_take]; omega
  have dY := digs_len_le (hY.take 30).2.1
  have oY := Lib.hid (hY.take 30).2.1
  clear hX mX hY mY
  generalize xs.take 30 = X at *
  generalize ys.take 30 = Y at *
  go_enter Try.func7, Try.ntmps7
  go_wp2_with fail
  refine (examples_any w).mono ?_
  rintro e w1 ⟨rfl, hb1⟩
  have L1 := Lib.hid (L0.out.step hb1)
  clear hb1
  go_upto_if 32 with fail
  go_cut [2] (fun s1 wx => (∃ z : Int, 0 ≤ z ∧ z ≤ 9223372036854775807 ∧ s1 = .int .i64 z) ∧ w1 = wx)
  case first =>
    by_cases h : n < 0
    · have d0 : decide (n < 0) = true := by simp [h]
      go_wp2_with fail
      go_meet
      exact ⟨⟨_, by omega, by omega, rfl⟩, rfl⟩
    · have d0 : decide (n < 0) = false := by simp; omega
      go_wp2_with fail
      go_meet
      exact ⟨⟨_, by omega, by omega, rfl⟩, rfl⟩
  case rest =>
    obtain ⟨⟨z, hz0, hz1, rfl⟩, rfl⟩ := hcut
    go_upto_if 37 with fail
    go_cut [3] (fun s1 wx => (∃ z : Int, 0 ≤ z ∧ z ≤ 9223372036854775807 ∧ s1 = .int .i64 z) ∧ w1 = wx)
    case first =>
      by_cases h : m < 0
      · have d0 : decide (m < 0) = true := by simp [h]
        go_wp2_with fail
        go_meet
        exact ⟨⟨_, by omega, by omega, rfl⟩, rfl⟩
      · have d0 : decide (m < 0) = false := by simp; omega
        go_wp2_with fail
        go_meet
        exact ⟨⟨_, by omega, by omega, rfl⟩, rfl⟩
    case rest =>
      obtain ⟨⟨y, hy0, hy1, rfl⟩, rfl⟩ := hcut
      go_wp2_with fail
      have hN : ∃ N : Nat, z % 601 = (N : Int) ∧ N ≤ 600 := ⟨(z % 601).toNat, by omega, by omega⟩
      have hM : ∃ M : Nat, y % 601 = (M : Int) ∧ M ≤ 600 := ⟨(y % 601).toNat, by omega, by omega⟩
      obtain ⟨N, eN, lN⟩ := hN
      obtain ⟨M, eM, lM⟩ := hM
      have pN : 1 ≤ 2 ^ N := Nat.pow_pos (by omega)
      have pM : 1 ≤ 2 ^ M := Nat.pow_pos (by omega)
      rw [eN]
      rw [eM]
      clear eN eM
      go_wp2_with fail
      refine Calls.mono (shl_l (xs := X) (x := val X) L1.out (by simp) HnX.out rfl (by omega) (i := (N : Int)) (k := N) rfl (by omega)) ?_
      rintro e w2 ⟨A2, c2, rfl, h1⟩
      have L2 := Lib.hid h1
      clear h1
      have len2 := digs_shl_len (val X) N
      go_wp2_with fail
      refine Calls.mono (shl_l (xs := Y) (x := val Y) L2.out (by simp) HnY.out rfl (by omega) (i := (M : Int)) (k := M) rfl (by omega)) ?_
      rintro e w3 ⟨A3, c3, rfl, h1⟩
      have L3 := Lib.hid h1
      clear h1
      have len3 := digs_shl_len (val Y) M
      go_wp2_with fail
      refine Calls.mono (kara_l (xs := X) (ys := Y) (x := val X) (y := val Y) L3.out (by simp) (by simp) HnX.out HnY.out rfl rfl (by omega) (by omega)) ?_
      rintro e w4 ⟨A4, c4, rfl, h1⟩
      have L4 := Lib.hid h1
      clear h1
      have len4 := digs_mul_len (val X) (val Y)
      go_wp2_with fail
      refine Calls.mono (shl_l (xs := digs ((val X) * (val Y))) (x := (val X) * (val Y)) L4.out (by simp) rfl (val_digs _) (by omega) (i := ((N : Int) + (M : Int))) (k := (N + M)) (by omega) (by omega)) ?_
      rintro e w5 ⟨A5, c5, rfl, h1⟩
      have L5 := Lib.hid h1
      clear h1
      have len5 := digs_shl_len ((val X) * (val Y)) (N + M)
      go_wp2_with fail
      refine Calls.mono (kara_l (xs := digs ((val X) * 2 ^ N)) (ys := digs ((val Y) * 2 ^ M)) (x := (val X) * 2 ^ N) (y := (val Y) * 2 ^ M) L5.out (by simp) (by simp) rfl rfl (val_digs _) (val_digs _) (by omega) (by omega)) ?_
      rintro e w6 ⟨A6, c6, rfl, h1⟩
      have L6 := Lib.hid h1
      clear h1
      have len6 := digs_mul_len ((val X) * 2 ^ N) ((val Y) * 2 ^ M)
      go_wp2_with fail
      refine Calls.mono (digits_l (xs := digs (((val X) * 2 ^ N) * ((val Y) * 2 ^ M))) (ys := digs (((val X) * (val Y)) * 2 ^ (N + M))) L6.out (by simp) (by simp) rfl rfl (by first | omega | simp) (by rw [moves_mul])) ?_
      rintro e w7 ⟨rfl, h1⟩
      have L7 := Lib.hid h1
      clear h1
      go_wp2_with fail
      have Lnone := Lib.hid (L7.out.new1 1 1 rfl (by omega))
      go_wp2_with fail
      refine Calls.mono (kara_l (xs := X) (ys := [1]) (x := val X) (y := 1) Lnone.out (by simp) (by simp) HnX.out rfl rfl (by simp [val]) (by omega) (by simp <;> omega)) ?_
      rintro e w8 ⟨A8, c8, rfl, h1⟩
      rw [Nat.mul_one] at h1
      rw [Nat.mul_one]
      have L8 := Lib.hid h1
      clear h1
      go_wp2_with fail
      refine Calls.mono (trim_l (xs := X) (x := val X) L8.out (by simp) HnX.out rfl (by omega)) ?_
      rintro e w9 ⟨A9, c9, rfl, h1⟩
      have L9 := Lib.hid h1
      clear h1
      go_wp2_with fail
      refine Calls.mono (digits_l (xs := digs (val X)) (ys := digs (val X)) L9.out (by simp) (by simp) rfl rfl (by first | omega | simp) (rfl)) ?_
      rintro e w10 ⟨rfl, h1⟩
      have L10 := Lib.hid h1
      clear h1
      have Lnn := Lib.hid L10.out.none_
      go_wp2_with fail
      refine Calls.mono (kara_l (xs := X) (ys := []) (x := val X) (y := 0) Lnn.out (by simp) (by simp) HnX.out rfl rfl (by simp [val]) (by omega) (by simp <;> omega)) ?_
      rintro e w11 ⟨A11, c11, rfl, h1⟩
      rw [Nat.mul_zero, digs_zero] at h1
      rw [Nat.mul_zero, digs_zero]
      have L11 := Lib.hid h1
      clear h1
      go_wp2
      go_ret
      exact ⟨rfl, L11.out.1⟩
end Go.Proofs.Ytbliblfcbnhhiaa
