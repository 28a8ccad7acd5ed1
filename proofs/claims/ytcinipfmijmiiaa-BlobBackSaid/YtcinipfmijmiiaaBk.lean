/-
  Pages that are handed out in a row.
-/
import Derived.Test.YtcinipfmijmiiaaBj
namespace Go.Proofs.Ytcinipfmijmiiaa
open Go.RowKit
set_option linter.unusedSimpArgs false
set_option linter.unusedVariables false
/-- The first fresh pages, so many. -/
def rg (m : Nat) : List Nat := List.range' 2 m
theorem rg_len (m : Nat) : (rg m).length = m := by unfold rg; simp
theorem rg_taken (m i : Nat) : taken (nU []) (rg m) i = decide (i < m + 2) := by
  unfold taken nU rg
  rw [Bool.eq_iff_iff]
  simp [List.contains_eq_mem, List.mem_range'_1]
  omega
theorem al_rg {m n : Nat} (h : m + 2 < n) : al (nU []) n (rg m) = some (m + 2) := al_some h (fun i hi => by rw [rg_taken]; simpa using hi) (by rw [rg_taken]; simp)
theorem al_rg_no {m n : Nat} (h : n ≤ m + 2) : al (nU []) n (rg m) = none := al_none (fun i hi => by rw [rg_taken]; simp; omega)
theorem rg_add (m k : Nat) : rg m ++ List.range' (2 + m) k = rg (m + k) := by unfold rg; rw [List.range'_append_1]
theorem als_rg (n m : Nat) : ∀ k, m + k + 2 ≤ n → als (nU []) n (rg m) k = List.range' (2 + m) k := by
  intro k
  induction k with
  | zero => intro _; simp [als]
  | succ k ih =>
    intro h
    have e := ih (by omega)
    have a : al (nU []) n (rg m ++ als (nU []) n (rg m) k) = some (m + k + 2) := by rw [e, rg_add]; exact al_rg (by omega)
    rw [als_next a, e, List.range'_concat]
    congr 2
    omega
theorem als_rg_few {n m k : Nat} (hm : m + 2 ≤ n) (h : n < m + k + 2) : (als (nU []) n (rg m) k).length < k := by
  obtain ⟨i, hi⟩ : ∃ i, n = m + i + 2 := ⟨n - m - 2, by omega⟩
  have e := als_rg n m i (by omega)
  have a : al (nU []) n (rg m ++ als (nU []) n (rg m) i) = none := by rw [e, rg_add]; exact al_rg_no (by omega)
  have s := als_stuck a (k - i)
  rw [show i + (k - i) = k by omega] at s
  rw [s, e]
  simp
  omega
theorem range_two {a k n x : Nat} (h : x ∈ List.range' a k) (ha : 2 ≤ a) (hn : a + k ≤ n) : 2 ≤ x ∧ x < n := by
  have := List.mem_range'_1.1 h
  omega
theorem chs_0 (A : List Nat) (l : List UInt8) : ((chs A l)[0]?.map Prod.fst).getD 0 = (A[0]?).getD 0 := by
  have := congrArg (fun z : List Nat => (z[0]?).getD 0) (chs_fst A l)
  simpa [List.getElem?_map] using this
theorem chs_drop0 (A : List Nat) (l : List UInt8) (i : Nat) : (((chs A l).drop i)[0]?.map Prod.fst).getD 0 = (A[i]?).getD 0 := by
  have := congrArg (fun z : List Nat => (z[i]?).getD 0) (chs_fst A l)
  rw [List.getElem?_drop]
  simpa [List.getElem?_map] using this
end Go.Proofs.Ytcinipfmijmiiaa
