/-
  pager's Keep.
-/
import Derived.Test.YtnpopbobpbbamaaGk
namespace Go.Proofs.Ytnpopbobpbbamaa
open Go.RowKit
set_option linter.unusedSimpArgs false
set_option linter.unusedVariables false
/-- Is there a page among them that may not be kept? -/
def badB (U : Nat → Bool) (P : List Nat) : Bool := P.any fun n => decide (n < 2) || !U n
theorem badB_take {U : Nat → Bool} {P : List Nat} {k : Nat} (hk : k < P.length) : badB U (P.take (k + 1)) = (badB U (P.take k) || (decide (P[k] < 2) || !U P[k])) := by
  unfold badB
  rw [List.take_succ_eq_append_getElem hk, List.any_append]
  simp
theorem badB_of {U : Nat → Bool} {P : List Nat} {k : Nat} (h : badB U (P.take k) = true) : badB U P = true := by
  unfold badB at h ⊢
  rw [List.any_eq_true] at h ⊢
  obtain ⟨x, hx, h1⟩ := h
  exact ⟨x, List.mem_of_mem_take hx, h1⟩
end Go.Proofs.Ytnpopbobpbbamaa
