/-
  kara.Steps and the reference's: how many products of digits.
-/
import Derived.Test.YtbliblfcbnhhiaaLift
namespace Go.Proofs.Ytbliblfcbnhhiaa
open Go.RowKit
/-- How many products of digits Karatsuba's way makes. -/
def ksteps (n : Nat) : Nat := if h : n < 8 then n * n else 2 * ksteps ((n + 1) / 2) + ksteps ((n + 1) / 2 + 1)
termination_by n
decreasing_by all_goals omega
theorem ksteps_lo {n : Nat} (h : n < 8) : ksteps n = n * n := by rw [ksteps]; simp [h]
theorem ksteps_hi {n : Nat} (h : 8 ≤ n) : ksteps n = 2 * ksteps ((n + 1) / 2) + ksteps ((n + 1) / 2 + 1) := by rw [ksteps]; simp [show ¬ n < 8 by omega]
theorem cube_a (m : Nat) : (m + 4) * (m + 4) * (m + 4) = m * m * m + 12 * (m * m) + 48 * m + 64 := by
  have e1 : (m + 4) * (m + 4) = m * m + 8 * m + 16 := by simp only [Nat.add_mul, Nat.mul_add]; omega
  have t1 : 8 * m * m = 8 * (m * m) := Nat.mul_assoc _ _ _
  rw [e1, Nat.add_mul, Nat.add_mul, Nat.mul_add, Nat.mul_add, t1]
  omega
theorem cube_b (m : Nat) : (m + 5) * (m + 5) * (m + 5) = m * m * m + 15 * (m * m) + 75 * m + 125 := by
  have e1 : (m + 5) * (m + 5) = m * m + 10 * m + 25 := by simp only [Nat.add_mul, Nat.mul_add]; omega
  have t1 : 10 * m * m = 10 * (m * m) := Nat.mul_assoc _ _ _
  rw [e1, Nat.add_mul, Nat.add_mul, Nat.mul_add, Nat.mul_add, t1]
  omega
theorem cube_c (m : Nat) : (2 * m + 7) * (2 * m + 7) * (2 * m + 7) = 8 * (m * m * m) + 84 * (m * m) + 294 * m + 343 := by
  have t3 : 2 * m * (2 * m) = 4 * (m * m) := Nat.mul_mul_mul_comm _ _ _ _
  have t4 : 28 * m * (2 * m) = 56 * (m * m) := Nat.mul_mul_mul_comm _ _ _ _
  have t5 : 4 * (m * m) * (2 * m) = 8 * (m * m * m) := Nat.mul_mul_mul_comm _ _ _ _
  have e3 : (2 * m + 7) * (2 * m + 7) = 4 * (m * m) + 28 * m + 49 := by simp only [Nat.add_mul, Nat.mul_add, t3]; omega
  rw [e3, Nat.add_mul, Nat.add_mul, Nat.mul_add, Nat.mul_add, t4, t5]
  omega
theorem cube_fin (u v m : Nat) : 2 * (u + 12 * v + 48 * m + 64) + (u + 15 * v + 75 * m + 125) ≤ 8 * u + 84 * v + 294 * m + 343 := by omega
theorem cube_le {a n : Nat} (h : a ≤ n) : a * a * a ≤ n * n * n := Nat.mul_le_mul (Nat.mul_le_mul h h) h
theorem cube_step (h n : Nat) (h4 : 4 ≤ h) (hn : 2 * h ≤ n + 1) : 2 * (h * h * h) + (h + 1) * (h + 1) * (h + 1) ≤ n * n * n := by
  obtain ⟨m, rfl⟩ : ∃ m, h = m + 4 := ⟨h - 4, by omega⟩
  have h1 : 2 * m + 7 ≤ n := by omega
  refine Nat.le_trans ?_ (cube_le h1)
  have e5 : m + 4 + 1 = m + 5 := rfl
  rw [cube_c, e5, cube_a, cube_b]
  exact cube_fin _ _ _
theorem ksteps_cube (n : Nat) : ksteps n ≤ n * n * n := by
  induction n using Nat.strongRecOn with
  | ind n ih =>
    by_cases h : n < 8
    · rw [ksteps_lo h]
      rcases Nat.eq_zero_or_pos n with h0 | h0
      · subst h0; omega
      · exact Nat.le_mul_of_pos_right _ h0
    · have h1 := ih ((n + 1) / 2) (by omega)
      have h2 := ih ((n + 1) / 2 + 1) (by omega)
      have h3 := cube_step ((n + 1) / 2) n (by omega) (by omega)
      rw [ksteps_hi (by omega)]
      omega
theorem ksteps_le {n : Nat} (h : n ≤ 1000000) : ksteps n ≤ 1000000000000000000 := by
  have h1 := ksteps_cube n
  have h2 : n * n * n ≤ 1000000 * 1000000 * 1000000 := Nat.mul_le_mul (Nat.mul_le_mul h h) h
  omega
theorem ksteps_up (n : Nat) : ksteps n ≤ ksteps (n + 1) := by
  induction n using Nat.strongRecOn with
  | ind n ih =>
    by_cases h : n < 8
    · by_cases h7 : n < 7
      · rw [ksteps_lo h, ksteps_lo (by omega)]; exact Nat.mul_le_mul (by omega) (by omega)
      · obtain rfl : n = 7 := by omega
        rw [ksteps_lo (by omega), ksteps_hi (by omega), ksteps_lo (by omega), ksteps_lo (by omega)]; omega
    · rw [ksteps_hi (show 8 ≤ n by omega), ksteps_hi (show 8 ≤ n + 1 by omega)]
      rcases (show (n + 1 + 1) / 2 = (n + 1) / 2 ∨ (n + 1 + 1) / 2 = (n + 1) / 2 + 1 by omega) with e | e
      · rw [e]; exact Nat.le_refl _
      · rw [e]
        have h1 := ih ((n + 1) / 2) (by omega)
        have h2 := ih ((n + 1) / 2 + 1) (by omega)
        omega
theorem square_step (h n : Nat) (h4 : 12 ≤ h) (hn : 2 * h ≤ n + 1) : 2 * (h * h) + (h + 1) * (h + 1) < n * n := by
  obtain ⟨m, rfl⟩ : ∃ m, h = m + 12 := ⟨h - 12, by omega⟩
  have h1 : 2 * m + 23 ≤ n := by omega
  have h2 : (2 * m + 23) * (2 * m + 23) ≤ n * n := Nat.mul_le_mul h1 h1
  refine Nat.lt_of_lt_of_le ?_ h2
  have t3 : 2 * m * (2 * m) = 2 * 2 * (m * m) := Nat.mul_mul_mul_comm _ _ _ _
  have e1 : (m + 12) * (m + 12) = m * m + 24 * m + 144 := by simp only [Nat.add_mul, Nat.mul_add]; omega
  have e2 : (m + 12 + 1) * (m + 12 + 1) = m * m + 26 * m + 169 := by simp only [Nat.add_mul, Nat.mul_add]; omega
  have e3 : (2 * m + 23) * (2 * m + 23) = 4 * (m * m) + 92 * m + 529 := by simp only [Nat.add_mul, Nat.mul_add]; omega
  rw [e1, e2, e3]
  omega
theorem ksteps_few (n : Nat) (h : 12 ≤ n) : ksteps n < n * n := by
  induction n using Nat.strongRecOn with
  | ind n ih =>
    by_cases h1 : 23 ≤ n
    · have h2 := ih ((n + 1) / 2) (by omega) (by omega)
      have h3 := ih ((n + 1) / 2 + 1) (by omega) (by omega)
      have h4 := square_step ((n + 1) / 2) n (by omega) (by omega)
      rw [ksteps_hi (by omega)]
      omega
    · have e5 : ksteps 5 = 25 := ksteps_lo (by omega)
      have e6 : ksteps 6 = 36 := ksteps_lo (by omega)
      have e7 : ksteps 7 = 49 := ksteps_lo (by omega)
      have e8 : ksteps 8 = 57 := by rw [ksteps_hi (by omega), ksteps_lo (by omega), ksteps_lo (by omega)]
      have e9 : ksteps 9 = 86 := by rw [ksteps_hi (by omega), e5, e6]
      have e10 : ksteps 10 = 86 := by rw [ksteps_hi (by omega), e5, e6]
      have e11 : ksteps 11 = 121 := by rw [ksteps_hi (by omega), e6, e7]
      have e12 : ksteps 12 = 121 := by rw [ksteps_hi (by omega), e6, e7]
      rcases (show n = 12 ∨ n = 13 ∨ n = 14 ∨ n = 15 ∨ n = 16 ∨ n = 17 ∨ n = 18 ∨ n = 19 ∨ n = 20 ∨ n = 21 ∨ n = 22 by omega) with rfl | rfl | rfl | rfl | rfl | rfl | rfl | rfl | rfl | rfl | rfl
      · rw [e12]; omega
      all_goals (rw [ksteps_hi (by omega)]; simp only [e7, e8, e9, e10, e11, e12, Nat.reduceAdd, Nat.reduceDiv]; omega)
set_option maxHeartbeats 1000000 in
theorem steps_any (N : Nat) : ∀ (n : Int) (w : World), min (max n 0) 1000000 = (N : Int) → Calls Try.prog 13 #[.int .i64 n] w fun e w' => e = .returned (.int .i64 (ksteps N)) ∧ w = w' := by
  induction N using Nat.strongRecOn with
  | ind N ih =>
    intro n w hn
    have hN : N ≤ 1000000 := by omega
    have IH := Lib.hid ih
    have HN := Lib.hid hn
    clear hn ih
    by_cases h8 : N < 8
    · have d0 : decide ((N : Int) < 8) = true := by simp; omega
      have hq : (N : Int) * (N : Int) = ((N * N : Nat) : Int) := (Int.natCast_mul N N).symm
      have hm : N * N ≤ 7 * 7 := Nat.mul_le_mul (by omega) (by omega)
      have HF := Lib.hid (show (N : Int) * (N : Int) = (ksteps N : Int) from by rw [ksteps_lo h8]; exact hq)
      have b0 : (0 : Int) ≤ (N : Int) * (N : Int) := by rw [hq]; omega
      have b1 : (N : Int) * (N : Int) ≤ 49 := by rw [hq]; omega
      clear hq hm h8
      go_enter Try.func13, Try.ntmps13
      go_upto_region 2 with fail
      rw [HN.out]
      go_wp2
      go_ret
      exact ⟨ret_i HF.out, rfl⟩
    · have d0 : decide ((N : Int) < 8) = false := by simp; omega
      obtain ⟨h, hh⟩ : ∃ h, h = (N + 1) / 2 := ⟨_, rfl⟩
      have h1 := ksteps_le (show h ≤ 1000000 by omega)
      have h2 := ksteps_le (show h + 1 ≤ 1000000 by omega)
      have HF := Lib.hid (show ksteps N = 2 * ksteps h + ksteps (h + 1) from by rw [ksteps_hi (by omega), ← hh])
      have HH := Lib.hid (half_any' N w (by omega))
      rw [← hh] at HH
      have I1 := Lib.hid (fun W => IH.out h (by omega) (h : Int) W (by omega))
      have I2 := Lib.hid (fun W => IH.out (h + 1) (by omega) ((h : Int) + 1) W (by omega))
      have hb : h ≤ 1000000 := by omega
      clear hh h8
      go_enter Try.func13, Try.ntmps13
      go_upto_region 2 with fail
      rw [HN.out]
      go_wp2_with fail
      refine HH.out.mono ?_
      rintro e w' ⟨rfl, rfl⟩
      go_wp2_with fail
      refine (I1.out _).mono ?_
      rintro e w' ⟨rfl, rfl⟩
      go_wp2_with fail
      refine (I2.out _).mono ?_
      rintro e w' ⟨rfl, rfl⟩
      go_wp2
      go_ret
      exact ⟨ret_i (by rw [HF.out]; omega), rfl⟩
set_option maxHeartbeats 1000000 in
theorem rsteps_any (N : Nat) : ∀ (n : Int) (w : World), min (max n 0) 1000000 = (N : Int) → Calls Try.prog 14 #[.int .i64 n] w fun e w' => e = .returned (.int .i64 (ksteps N)) ∧ w = w' := by
  induction N using Nat.strongRecOn with
  | ind N ih =>
    intro n w hn
    have hN : N ≤ 1000000 := by omega
    have IH := Lib.hid ih
    have HN := Lib.hid hn
    clear ih
    by_cases h1 : N < 1
    · obtain rfl : N = 0 := by omega
      have d1 : min n 1000000 < 1 := by omega
      have HF := Lib.hid (show (0 : Int) = (ksteps 0 : Int) from by rw [ksteps_lo (by omega)]; rfl)
      clear hn h1
      go_enter Try.func14, Try.ntmps14
      go_wp2
      go_ret
      exact ⟨ret_i HF.out, rfl⟩
    · have HM := Lib.hid (show min n 1000000 = (N : Int) from by omega)
      have d1 : decide ((N : Int) < 1) = false := by simp; omega
      clear hn
      by_cases h8 : N < 8
      · have d0 : decide ((N : Int) < 8) = true := by simp; omega
        have hq : (N : Int) * (N : Int) = ((N * N : Nat) : Int) := (Int.natCast_mul N N).symm
        have hm : N * N ≤ 7 * 7 := Nat.mul_le_mul (by omega) (by omega)
        have HF := Lib.hid (show (N : Int) * (N : Int) = (ksteps N : Int) from by rw [ksteps_lo h8]; exact hq)
        have b0 : (0 : Int) ≤ (N : Int) * (N : Int) := by rw [hq]; omega
        have b1 : (N : Int) * (N : Int) ≤ 49 := by rw [hq]; omega
        clear hq hm h8
        go_enter Try.func14, Try.ntmps14
        go_upto_region 2 with fail
        rw [HM.out]
        go_wp2
        go_ret
        exact ⟨ret_i HF.out, rfl⟩
      · have d0 : decide ((N : Int) < 8) = false := by simp; omega
        obtain ⟨h, hh⟩ : ∃ h, h = (N + 1) / 2 := ⟨_, rfl⟩
        have k1 := ksteps_le (show h ≤ 1000000 by omega)
        have k2 := ksteps_le (show h + 1 ≤ 1000000 by omega)
        have HF := Lib.hid (show ksteps N = 2 * ksteps h + ksteps (h + 1) from by rw [ksteps_hi (by omega), ← hh])
        have I1 := Lib.hid (fun W => IH.out h (by omega) (((N : Int) + 1) / 2) W (by omega))
        have I2 := Lib.hid (fun W => IH.out (h + 1) (by omega) (((N : Int) + 1) / 2 + 1) W (by omega))
        have hb : h ≤ 1000000 := by omega
        clear hh h8
        go_enter Try.func14, Try.ntmps14
        go_upto_region 2 with fail
        rw [HM.out]
        go_wp2_with fail
        refine (I1.out _).mono ?_
        rintro e w' ⟨rfl, rfl⟩
        go_wp2_with fail
        refine (I2.out _).mono ?_
        rintro e w' ⟨rfl, rfl⟩
        go_wp2
        go_ret
        exact ⟨ret_i (by rw [HF.out]; omega), rfl⟩
end Go.Proofs.Ytbliblfcbnhhiaa
