/-
  astrolabelaw02.KaraOnes: the product of two numbers all of whose bits are 1 is what it must be.
-/
import Derived.Test.YtbliblfcbnhhiaaExam
import Derived.Test.YtbliblfcbnhhiaaLive2
namespace Go.Proofs.Ytbliblfcbnhhiaa
open Go.RowKit
theorem ones_le (n m : Nat) : 2 ^ n + 2 ^ m ≤ 2 ^ (n + m) + 1 := by
  have h1 := Nat.pow_pos (n := n) (show 0 < 2 by omega)
  have h2 := Nat.pow_pos (n := m) (show 0 < 2 by omega)
  rw [Nat.pow_add]
  generalize 2 ^ n = a at *
  generalize 2 ^ m = b at *
  obtain ⟨a, rfl⟩ : ∃ c, a = c + 1 := ⟨a - 1, by omega⟩
  obtain ⟨b, rfl⟩ : ∃ c, b = c + 1 := ⟨b - 1, by omega⟩
  rw [Nat.add_mul, Nat.mul_add]; omega
theorem ones (n m : Nat) : (2 ^ n - 1) * (2 ^ m - 1) = 2 ^ (n + m) + 1 - (2 ^ n + 2 ^ m) := by
  have h1 := Nat.pow_pos (n := n) (show 0 < 2 by omega)
  have h2 := Nat.pow_pos (n := m) (show 0 < 2 by omega)
  rw [Nat.pow_add]
  generalize 2 ^ n = a at *
  generalize 2 ^ m = b at *
  obtain ⟨a, rfl⟩ : ∃ c, a = c + 1 := ⟨a - 1, by omega⟩
  obtain ⟨b, rfl⟩ : ∃ c, b = c + 1 := ⟨b - 1, by omega⟩
  rw [Nat.add_mul, Nat.mul_add, Nat.add_sub_cancel, Nat.add_sub_cancel]; omega
set_option maxHeartbeats 8000000 in
set_option maxRecDepth 100000 in
theorem kones_any (n m : Int) (w : World) (hn : -9223372036854775808 ≤ n) (hn' : n ≤ 9223372036854775807) (hm : -9223372036854775808 ≤ m) (hm' : m ≤ 9223372036854775807) :
    Calls Try.prog 5 #[.int .i64 n, .int .i64 m] w fun e w' => e = .returned (.bool true) ∧ Below w.heap.size w w' := by
  have L0 := Lib.hid (live_start w)
  go_enter Try.func5, Try.ntmps5
  go_wp2_with fail
  refine (examples_any w).mono ?_
  rintro e w1 ⟨rfl, hb1⟩
  have L1 := Lib.hid (L0.out.step hb1)
  clear hb1
  go_upto_if 24 with fail
  go_cut [0] (fun s1 wx => (∃ z : Int, 0 ≤ z ∧ z ≤ 9223372036854775807 ∧ s1 = .int .i64 z) ∧ w1 = wx)
  case first =>
    by_cases h : n < 0
    · have d0 : decide (n < 0) = true := by simp [h]
      go_wp2_with fail
      go_meet
      exact ⟨⟨_, by omega, by omega, rfl⟩, rfl⟩
    · have d0 : decide (n < 0) = false := by simp; omega
      go_wp2_with fail
      go_meet
      exact ⟨⟨_, by omega, by omega, rfl⟩, rfl⟩
  case rest =>
    obtain ⟨⟨z, hz0, hz1, rfl⟩, rfl⟩ := hcut
    go_upto_if 29 with fail
    go_cut [1] (fun s1 wx => (∃ z : Int, 0 ≤ z ∧ z ≤ 9223372036854775807 ∧ s1 = .int .i64 z) ∧ w1 = wx)
    case first =>
      by_cases h : m < 0
      · have d0 : decide (m < 0) = true := by simp [h]
        go_wp2_with fail
        go_meet
        exact ⟨⟨_, by omega, by omega, rfl⟩, rfl⟩
      · have d0 : decide (m < 0) = false := by simp; omega
        go_wp2_with fail
        go_meet
        exact ⟨⟨_, by omega, by omega, rfl⟩, rfl⟩
    case rest =>
      obtain ⟨⟨y, hy0, hy1, rfl⟩, rfl⟩ := hcut
      go_wp2_with fail
      have hN : ∃ N : Nat, 1 + z % 2000 = (N : Int) ∧ N ≤ 2000 := ⟨(1 + z % 2000).toNat, by omega, by omega⟩
      have hM : ∃ M : Nat, 1 + y % 2000 = (M : Int) ∧ M ≤ 2000 := ⟨(1 + y % 2000).toNat, by omega, by omega⟩
      obtain ⟨N, eN, lN⟩ := hN
      obtain ⟨M, eM, lM⟩ := hM
      have pN : 1 ≤ 2 ^ N := Nat.pow_pos (by omega)
      have pM : 1 ≤ 2 ^ M := Nat.pow_pos (by omega)
      rw [eN]
      rw [eM]
      clear eN eM
      go_wp2_with fail
      have Lnone := Lib.hid (L1.out.new1 1 1 rfl (by omega))
      go_wp2_with fail
      refine Calls.mono (shl_l (xs := [1]) (x := 1) Lnone.out (by simp) rfl (by simp [val]) (by simp <;> omega) (i := (N : Int)) (k := N) rfl (by omega)) ?_
      rintro e w2 ⟨A2, c2, rfl, h1⟩
      rw [Nat.one_mul] at h1
      rw [Nat.one_mul]
      have L2 := Lib.hid h1
      clear h1
      have len2 := pow_digs_len N
      go_wp2_with fail
      refine Calls.mono (shl_l (xs := [1]) (x := 1) L2.out (by simp) rfl (by simp [val]) (by simp <;> omega) (i := (M : Int)) (k := M) rfl (by omega)) ?_
      rintro e w3 ⟨A3, c3, rfl, h1⟩
      rw [Nat.one_mul] at h1
      rw [Nat.one_mul]
      have L3 := Lib.hid h1
      clear h1
      have len3 := pow_digs_len M
      go_wp2_with fail
      refine Calls.mono (shl_l (xs := [1]) (x := 1) L3.out (by simp) rfl (by simp [val]) (by simp <;> omega) (i := ((N : Int) + (M : Int))) (k := (N + M)) (by omega) (by omega)) ?_
      rintro e w4 ⟨A4, c4, rfl, h1⟩
      rw [Nat.one_mul] at h1
      rw [Nat.one_mul]
      have L4 := Lib.hid h1
      clear h1
      have len4 := pow_digs_len (N + M)
      have d1 := digs_small (n := 1) (by omega)
      go_wp2_with fail
      refine Calls.mono (sub_l (xs := digs (2 ^ N)) (ys := [1]) (x := 2 ^ N) (y := 1) L4.out (by simp) (by simp) rfl rfl (val_digs _) (by simp [val]) (by omega) (by simp <;> omega) pN) ?_
      rintro e w5 ⟨A5, c5, rfl, h1⟩
      have L5 := Lib.hid h1
      clear h1
      have len5 := digs_sub_len (2 ^ N) (1)
      go_wp2_with fail
      refine Calls.mono (sub_l (xs := digs (2 ^ M)) (ys := [1]) (x := 2 ^ M) (y := 1) L5.out (by simp) (by simp) rfl rfl (val_digs _) (by simp [val]) (by omega) (by simp <;> omega) pM) ?_
      rintro e w6 ⟨A6, c6, rfl, h1⟩
      have L6 := Lib.hid h1
      clear h1
      have len6 := digs_sub_len (2 ^ M) (1)
      go_wp2_with fail
      refine Calls.mono (add_l (xs := digs (2 ^ (N + M))) (ys := [1]) (x := 2 ^ (N + M)) (y := 1) L6.out (by simp) (by simp) rfl rfl (val_digs _) (by simp [val]) (by omega) (by simp <;> omega)) ?_
      rintro e w7 ⟨A7, c7, rfl, h1⟩
      have L7 := Lib.hid h1
      clear h1
      have len7 := digs_add_len (2 ^ (N + M)) (1)
      go_wp2_with fail
      refine Calls.mono (add_l (xs := digs (2 ^ N)) (ys := digs (2 ^ M)) (x := 2 ^ N) (y := 2 ^ M) L7.out (by simp) (by simp) rfl rfl (val_digs _) (val_digs _) (by omega) (by omega)) ?_
      rintro e w8 ⟨A8, c8, rfl, h1⟩
      have L8 := Lib.hid h1
      clear h1
      have len8 := digs_add_len (2 ^ N) (2 ^ M)
      go_wp2_with fail
      refine Calls.mono (sub_l (xs := digs ((2 ^ (N + M)) + 1)) (ys := digs ((2 ^ N) + (2 ^ M))) (x := (2 ^ (N + M)) + 1) (y := (2 ^ N) + (2 ^ M)) L8.out (by simp) (by simp) rfl rfl (val_digs _) (val_digs _) (by omega) (by omega) (ones_le N M)) ?_
      rintro e w9 ⟨A9, c9, rfl, h1⟩
      have L9 := Lib.hid h1
      clear h1
      have len9 := digs_sub_len ((2 ^ (N + M)) + 1) ((2 ^ N) + (2 ^ M))
      go_wp2_with fail
      refine Calls.mono (kara_l (xs := digs ((2 ^ N) - 1)) (ys := digs ((2 ^ M) - 1)) (x := (2 ^ N) - 1) (y := (2 ^ M) - 1) L9.out (by simp) (by simp) rfl rfl (val_digs _) (val_digs _) (by omega) (by omega)) ?_
      rintro e w10 ⟨A10, c10, rfl, h1⟩
      have L10 := Lib.hid h1
      clear h1
      have len10 := digs_mul_len ((2 ^ N) - 1) ((2 ^ M) - 1)
      go_wp2_with fail
      refine Calls.mono (digits_l (xs := digs (((2 ^ N) - 1) * ((2 ^ M) - 1))) (ys := digs (((2 ^ (N + M)) + 1) - ((2 ^ N) + (2 ^ M)))) L10.out (by simp) (by simp) rfl rfl (by first | omega | simp) (by rw [ones])) ?_
      rintro e w11 ⟨rfl, h1⟩
      have L11 := Lib.hid h1
      clear h1
      go_wp2
      go_ret
      exact ⟨rfl, L11.out.1⟩
end Go.Proofs.Ytbliblfcbnhhiaa
