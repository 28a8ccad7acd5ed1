/-
  astrolabelaw02.KaraFewer: more digits never need fewer steps; from 12 digits on there are fewer than by the school's way.
-/
import Derived.Test.YtbliblfcbnhhiaaExam
namespace Go.Proofs.Ytbliblfcbnhhiaa
open Go.RowKit
set_option maxHeartbeats 8000000 in
set_option maxRecDepth 100000 in
theorem kfewer_any (n : Int) (w : World) (hn : -9223372036854775808 ≤ n) (hn' : n ≤ 9223372036854775807) :
    Calls Try.prog 6 #[.int .i64 n] w fun e w' => e = .returned (.bool true) ∧ Below w.heap.size w w' := by
  have L0 := Lib.hid (live_start w)
  go_enter Try.func6, Try.ntmps6
  go_wp2_with fail
  refine (examples_any w).mono ?_
  rintro e w1 ⟨rfl, hb1⟩
  have L1 := Lib.hid (L0.out.step hb1)
  clear hb1
  go_upto_if 9 with fail
  go_cut [0] (fun s1 wx => (∃ z : Int, 0 ≤ z ∧ z ≤ 9223372036854775807 ∧ s1 = .int .i64 z) ∧ w1 = wx)
  case first =>
    by_cases h : n < 0
    · have d0 : decide (n < 0) = true := by simp [h]
      go_wp2_with fail
      go_meet
      exact ⟨⟨_, by omega, by omega, rfl⟩, rfl⟩
    · have d0 : decide (n < 0) = false := by simp; omega
      go_wp2_with fail
      go_meet
      exact ⟨⟨_, by omega, by omega, rfl⟩, rfl⟩
  case rest =>
    obtain ⟨⟨z, hz0, hz1, rfl⟩, rfl⟩ := hcut
    obtain ⟨N, eN, lN⟩ : ∃ N : Nat, z % 20001 = (N : Int) ∧ N ≤ 20000 := ⟨(z % 20001).toNat, by omega, by omega⟩
    have k1 := ksteps_le (show N ≤ 1000000 by omega)
    have k2 := ksteps_up N
    have d1 : decide (ksteps N ≤ ksteps (N + 1)) = true := by simp [k2]
    have b0 : (0 : Int) ≤ (N : Int) * (N : Int) := by rw [← Int.natCast_mul]; omega
    have b1 : (N : Int) * (N : Int) ≤ 400000000 := by have := Nat.mul_le_mul lN lN; rw [← Int.natCast_mul]; omega
    go_wp2_with fail
    rw [eN]
    clear eN
    refine Calls.mono (steps_l (N := N) (q := (ksteps N : Int)) L1.out (by omega) rfl) ?_
    rintro e w2 ⟨rfl, h1⟩
    have L2 := Lib.hid h1
    clear h1
    go_wp2_with fail
    refine Calls.mono (steps_l (N := N + 1) (q := (ksteps (N + 1) : Int)) L2.out (by omega) rfl) ?_
    rintro e w3 ⟨rfl, h1⟩
    have L3 := Lib.hid h1
    clear h1
    by_cases h12 : N < 12
    · have d2 : decide ((N : Int) < 12) = true := by simp; omega
      clear h12
      go_wp2
      go_ret
      exact ⟨rfl, L3.out.1⟩
    · have d2 : decide ((N : Int) < 12) = false := by simp; omega
      have d3 : decide ((ksteps N : Int) < (N : Int) * (N : Int)) = true := by rw [decide_eq_true_iff, ← Int.natCast_mul]; exact Int.ofNat_lt.2 (ksteps_few N (by omega))
      clear h12
      go_wp2
      go_ret
      exact ⟨rfl, L3.out.1⟩
end Go.Proofs.Ytbliblfcbnhhiaa
