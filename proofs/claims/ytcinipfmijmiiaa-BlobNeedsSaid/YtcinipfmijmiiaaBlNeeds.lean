/-
  BlobNeeds.
-/
import Derived.Test.YtcinipfmijmiiaaBj
namespace Go.Proofs.Ytcinipfmijmiiaa
open Go.RowKit
set_option linter.unusedSimpArgs false
set_option linter.unusedVariables false
set_option maxHeartbeats 8000000 in
set_option maxRecDepth 100000 in
theorem needs_neg (n : Int) (w : World) (n0 : -9223372036854775808 ≤ n) (n1 : n ≤ 9223372036854775807) (hcn : n < 0) : Calls Try.prog 4 #[.int .i64 n] w fun e w' => e = .returned (.bool true) ∧ Below w.heap.size w w' := by
  obtain ⟨zn, hzn⟩ : ∃ z : Int, n + 1 = z := ⟨_, rfl⟩
  have wzn : wrap64 (n + 1) = zn := by rw [hzn]; exact IntWalk.wrap64_in _ ⟨by omega, by omega⟩
  obtain ⟨yn, hyn⟩ : ∃ y : Nat, -zn = (y : Int) := ⟨(-zn).toNat, by omega⟩
  have wyn : Value.int .i64 (wrap64 (-zn)) = .int .i64 (yn : Int) := by rw [IntWalk.wrap64_in _ ⟨by omega, by omega⟩, hyn]
  have dn : decide (n < 0) = true := by simpa using hcn
  have Yn := Lib.hid (show (yn : Int) ≤ 9223372036854775807 by omega)
  have Vn := Lib.hid wyn
  have Wn := Lib.hid (And.intro wzn dn)
  clear hzn wzn wyn hyn dn
  obtain ⟨m, hm⟩ : ∃ m : Nat, (yn : Int).tmod 1000001 = (m : Int) := ⟨yn % 1000001, by rw [Int.tmod_eq_emod_of_nonneg (by omega)]; omega⟩
  have HM := Lib.hid (show m ≤ 1000000 by rw [Int.tmod_eq_emod_of_nonneg (by omega)] at hm; omega)
  have TM := Lib.hid hm
  obtain ⟨k, hk⟩ : ∃ k, nd m = k := ⟨_, rfl⟩
  have HK := Lib.hid (show 1 ≤ k ∧ m ≤ 118 * k ∧ (k = 1 ∨ 118 * (k - 1) < m) ∧ k ≤ 10000 by have := HM.out; rw [← hk]; unfold nd; omega)
  obtain ⟨m1, hm1⟩ : ∃ m1, m + 1 = m1 := ⟨_, rfl⟩
  obtain ⟨k1, hk1⟩ : ∃ k1, nd m1 = k1 := ⟨_, rfl⟩
  have HK1 := Lib.hid (show k ≤ k1 by rw [← hk, ← hk1, ← hm1]; unfold nd; omega)
  have W1 := Lib.hid (show wrap64 ((m : Int) + 1) = (m1 : Int) by rw [IntWalk.wrap64_in _ ⟨by omega, by have := HM.out; omega⟩]; omega)
  obtain ⟨a, ha⟩ : ∃ a, 118 * k = a := ⟨_, rfl⟩
  have W2 := Lib.hid (show wrap64 (118 * (k : Int)) = (a : Int) by rw [IntWalk.wrap64_in _ ⟨by omega, by have := HK.out; omega⟩]; omega)
  obtain ⟨j, hj⟩ : ∃ j, k - 1 = j := ⟨_, rfl⟩
  have W3 := Lib.hid (show wrap64 ((k : Int) - 1) = (j : Int) by have := HK.out.1; rw [IntWalk.wrap64_in _ ⟨by omega, by have := HK.out; omega⟩]; omega)
  obtain ⟨b, hb⟩ : ∃ b, 118 * j = b := ⟨_, rfl⟩
  have W4 := Lib.hid (show wrap64 (118 * (j : Int)) = (b : Int) by rw [IntWalk.wrap64_in _ ⟨by omega, by have := HK.out; omega⟩]; omega)
  obtain ⟨z, hz⟩ : ∃ z : Int, -(m : Int) = z := ⟨_, rfl⟩
  have W5 := Lib.hid (show Value.int .i64 (wrap64 (-(m : Int))) = .int .i64 z by rw [IntWalk.wrap64_in _ ⟨by have := HM.out; omega, by omega⟩, hz])
  have d1 := Lib.hid (show decide ((1 : Int) ≤ (k : Int)) = true from decide_eq_true (by have := HK.out; omega))
  have d2 := Lib.hid (show decide ((m : Int) ≤ (a : Int)) = true from decide_eq_true (by have := HK.out; omega))
  have d2' := Lib.hid (show decide (m ≤ a) = true from decide_eq_true (by have := HK.out; omega))
  have d3 := Lib.hid (show decide ((k : Int) ≤ (k1 : Int)) = true from decide_eq_true (by have := HK1.out; omega))
  have d3' := Lib.hid (show decide (k ≤ k1) = true from decide_eq_true HK1.out)
  have N1 := Lib.hid (fun V => show Calls Try.prog 10 #[.int .i64 (m : Int)] V fun e w' => e = .returned (.int .i64 (k : Int)) ∧ w' = V by have := need_nat m (by have := HM.out; omega) V; rwa [hk] at this)
  have N2 := Lib.hid (fun V => show Calls Try.prog 10 #[.int .i64 (m1 : Int)] V fun e w' => e = .returned (.int .i64 (k1 : Int)) ∧ w' = V by have := need_nat m1 (by have := HM.out; omega) V; rwa [hk1] at this)
  have N3 := Lib.hid (fun V => show Calls Try.prog 10 #[.int .i64 z] V fun e w' => e = .returned (.int .i64 1) ∧ w' = V from need_mid 0 (by omega) V z (by rw [← hz]; omega))
  have K1 : k = 1 ∨ (k ≠ 1 ∧ b < m) := by have := HK.out; omega
  clear hm hk hm1 hk1 ha hj hb hz n0 n1 hcn
  go_enter Try.func4, Try.ntmps4
  go_wp2_with fail
  refine (examples_any w).mono ?_
  rintro e w1 ⟨rfl, hb⟩
  have B1 := Lib.hid hb
  clear hb
  have u1 := Wn.out.1
  have u2 := Wn.out.2
  have u3 := Vn.out
  have t1 := TM.out
  go_wp2_with fail
  rw [u3]
  go_wp2_with fail
  refine (N1.out w1).mono ?_
  rintro e w2 ⟨rfl, hw⟩
  obtain rfl : w1 = w2 := hw.symm
  have e1 := W1.out
  have e2 := W2.out
  have e3 := W3.out
  have e4 := W4.out
  have f1 := d1.out
  have f2 := d2.out
  have f2' := d2'.out
  have f3 := d3.out
  have f3' := d3'.out
  clear hw u2 t1 u1 u3
  rcases K1 with h1 | ⟨h1, h2⟩
  · have q1 : ((k : Int) == 1) = true := by simpa using (show (k : Int) = 1 by omega)
    clear h1
    go_wp2_with fail
    refine (N2.out w1).mono ?_
    rintro e w3 ⟨rfl, hw⟩
    obtain rfl : w1 = w3 := hw.symm

    clear hw
    go_wp2_with fail
    first | rw [W5.out] | skip
    refine (N3.out w1).mono ?_
    rintro e w3 ⟨rfl, hw⟩
    obtain rfl : w1 = w3 := hw.symm
    clear hw
    go_wp2
    go_ret
    exact ⟨rfl, B1.out⟩
  · have q1 : ((k : Int) == 1) = false := by simp; omega
    have q2 : decide ((b : Int) < (m : Int)) = true := decide_eq_true (by omega)
    have q3 : decide (b < m) = true := decide_eq_true h2
    clear h1 h2
    go_wp2_with fail
    refine (N2.out w1).mono ?_
    rintro e w3 ⟨rfl, hw⟩
    obtain rfl : w1 = w3 := hw.symm

    clear hw
    go_wp2_with fail
    first | rw [W5.out] | skip
    refine (N3.out w1).mono ?_
    rintro e w3 ⟨rfl, hw⟩
    obtain rfl : w1 = w3 := hw.symm
    clear hw
    go_wp2
    go_ret
    exact ⟨rfl, B1.out⟩
set_option maxHeartbeats 8000000 in
set_option maxRecDepth 100000 in
theorem needs_pos (n : Int) (w : World) (n0 : -9223372036854775808 ≤ n) (n1 : n ≤ 9223372036854775807) (hcn : ¬ n < 0) : Calls Try.prog 4 #[.int .i64 n] w fun e w' => e = .returned (.bool true) ∧ Below w.heap.size w w' := by
  obtain ⟨yn, hyn⟩ : ∃ y : Nat, n = (y : Int) := ⟨n.toNat, by omega⟩
  have dn : decide ((yn : Int) < 0) = false := decide_eq_false (by omega)
  have Yn := Lib.hid (show (yn : Int) ≤ 9223372036854775807 by omega)
  have Wn := Lib.hid dn
  subst hyn
  clear dn
  obtain ⟨m, hm⟩ : ∃ m : Nat, (yn : Int).tmod 1000001 = (m : Int) := ⟨yn % 1000001, by rw [Int.tmod_eq_emod_of_nonneg (by omega)]; omega⟩
  have HM := Lib.hid (show m ≤ 1000000 by rw [Int.tmod_eq_emod_of_nonneg (by omega)] at hm; omega)
  have TM := Lib.hid hm
  obtain ⟨k, hk⟩ : ∃ k, nd m = k := ⟨_, rfl⟩
  have HK := Lib.hid (show 1 ≤ k ∧ m ≤ 118 * k ∧ (k = 1 ∨ 118 * (k - 1) < m) ∧ k ≤ 10000 by have := HM.out; rw [← hk]; unfold nd; omega)
  obtain ⟨m1, hm1⟩ : ∃ m1, m + 1 = m1 := ⟨_, rfl⟩
  obtain ⟨k1, hk1⟩ : ∃ k1, nd m1 = k1 := ⟨_, rfl⟩
  have HK1 := Lib.hid (show k ≤ k1 by rw [← hk, ← hk1, ← hm1]; unfold nd; omega)
  have W1 := Lib.hid (show wrap64 ((m : Int) + 1) = (m1 : Int) by rw [IntWalk.wrap64_in _ ⟨by omega, by have := HM.out; omega⟩]; omega)
  obtain ⟨a, ha⟩ : ∃ a, 118 * k = a := ⟨_, rfl⟩
  have W2 := Lib.hid (show wrap64 (118 * (k : Int)) = (a : Int) by rw [IntWalk.wrap64_in _ ⟨by omega, by have := HK.out; omega⟩]; omega)
  obtain ⟨j, hj⟩ : ∃ j, k - 1 = j := ⟨_, rfl⟩
  have W3 := Lib.hid (show wrap64 ((k : Int) - 1) = (j : Int) by have := HK.out.1; rw [IntWalk.wrap64_in _ ⟨by omega, by have := HK.out; omega⟩]; omega)
  obtain ⟨b, hb⟩ : ∃ b, 118 * j = b := ⟨_, rfl⟩
  have W4 := Lib.hid (show wrap64 (118 * (j : Int)) = (b : Int) by rw [IntWalk.wrap64_in _ ⟨by omega, by have := HK.out; omega⟩]; omega)
  obtain ⟨z, hz⟩ : ∃ z : Int, -(m : Int) = z := ⟨_, rfl⟩
  have W5 := Lib.hid (show Value.int .i64 (wrap64 (-(m : Int))) = .int .i64 z by rw [IntWalk.wrap64_in _ ⟨by have := HM.out; omega, by omega⟩, hz])
  have d1 := Lib.hid (show decide ((1 : Int) ≤ (k : Int)) = true from decide_eq_true (by have := HK.out; omega))
  have d2 := Lib.hid (show decide ((m : Int) ≤ (a : Int)) = true from decide_eq_true (by have := HK.out; omega))
  have d2' := Lib.hid (show decide (m ≤ a) = true from decide_eq_true (by have := HK.out; omega))
  have d3 := Lib.hid (show decide ((k : Int) ≤ (k1 : Int)) = true from decide_eq_true (by have := HK1.out; omega))
  have d3' := Lib.hid (show decide (k ≤ k1) = true from decide_eq_true HK1.out)
  have N1 := Lib.hid (fun V => show Calls Try.prog 10 #[.int .i64 (m : Int)] V fun e w' => e = .returned (.int .i64 (k : Int)) ∧ w' = V by have := need_nat m (by have := HM.out; omega) V; rwa [hk] at this)
  have N2 := Lib.hid (fun V => show Calls Try.prog 10 #[.int .i64 (m1 : Int)] V fun e w' => e = .returned (.int .i64 (k1 : Int)) ∧ w' = V by have := need_nat m1 (by have := HM.out; omega) V; rwa [hk1] at this)
  have N3 := Lib.hid (fun V => show Calls Try.prog 10 #[.int .i64 z] V fun e w' => e = .returned (.int .i64 1) ∧ w' = V from need_mid 0 (by omega) V z (by rw [← hz]; omega))
  have K1 : k = 1 ∨ (k ≠ 1 ∧ b < m) := by have := HK.out; omega
  clear hm hk hm1 hk1 ha hj hb hz n0 n1 hcn
  go_enter Try.func4, Try.ntmps4
  go_wp2_with fail
  refine (examples_any w).mono ?_
  rintro e w1 ⟨rfl, hb⟩
  have B1 := Lib.hid hb
  clear hb
  have u2 := Wn.out
  have t1 := TM.out
  go_wp2_with fail
  refine (N1.out w1).mono ?_
  rintro e w2 ⟨rfl, hw⟩
  obtain rfl : w1 = w2 := hw.symm
  have e1 := W1.out
  have e2 := W2.out
  have e3 := W3.out
  have e4 := W4.out
  have f1 := d1.out
  have f2 := d2.out
  have f2' := d2'.out
  have f3 := d3.out
  have f3' := d3'.out
  clear hw u2 t1
  rcases K1 with h1 | ⟨h1, h2⟩
  · have q1 : ((k : Int) == 1) = true := by simpa using (show (k : Int) = 1 by omega)
    clear h1
    go_wp2_with fail
    refine (N2.out w1).mono ?_
    rintro e w3 ⟨rfl, hw⟩
    obtain rfl : w1 = w3 := hw.symm

    clear hw
    go_wp2_with fail
    first | rw [W5.out] | skip
    refine (N3.out w1).mono ?_
    rintro e w3 ⟨rfl, hw⟩
    obtain rfl : w1 = w3 := hw.symm
    clear hw
    go_wp2
    go_ret
    exact ⟨rfl, B1.out⟩
  · have q1 : ((k : Int) == 1) = false := by simp; omega
    have q2 : decide ((b : Int) < (m : Int)) = true := decide_eq_true (by omega)
    have q3 : decide (b < m) = true := decide_eq_true h2
    clear h1 h2
    go_wp2_with fail
    refine (N2.out w1).mono ?_
    rintro e w3 ⟨rfl, hw⟩
    obtain rfl : w1 = w3 := hw.symm

    clear hw
    go_wp2_with fail
    first | rw [W5.out] | skip
    refine (N3.out w1).mono ?_
    rintro e w3 ⟨rfl, hw⟩
    obtain rfl : w1 = w3 := hw.symm
    clear hw
    go_wp2
    go_ret
    exact ⟨rfl, B1.out⟩
theorem blobNeeds_any (n : Int) (w : World) (n0 : -9223372036854775808 ≤ n) (n1 : n ≤ 9223372036854775807) : Calls Try.prog 4 #[.int .i64 n] w fun e w' => e = .returned (.bool true) ∧ Below w.heap.size w w' := by
  by_cases h : n < 0
  · exact needs_neg n w n0 n1 h
  · exact needs_pos n w n0 n1 h
end Go.Proofs.Ytcinipfmijmiiaa
