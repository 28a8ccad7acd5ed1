/-
  The divisor moved up until its first bit is 1.
-/
import Derived.Test.YtceningojnfgpaaKnuth2
import Derived.Test.YtceningojnfgpaaLive2
namespace Go.Proofs.Ytceningojnfgpaa
open Go.RowKit
theorem bits_le : ∀ (k x : Nat), x < 2 ^ k → blen x ≤ k := by
  intro k
  induction k with
  | zero => intro x h; simp at h; subst h; rw [blen_zero]; omega
  | succ k ih =>
    intro x h
    rcases Nat.eq_zero_or_pos x with h0 | h0
    · subst h0; rw [blen_zero]; omega
    · rw [blen_pos (by omega)]
      have := ih (x / 2) (by rw [Nat.pow_succ] at h; omega)
      omega
theorem norm_way {b : Nat} (hb : b ≠ 0) : ∃ s, s ≤ 31 ∧ blen b + s = 32 * (digs b).length := by
  have h := blen_digs b hb
  have hl : 0 < (digs b).length := by
    rcases Nat.eq_zero_or_pos (digs b).length with h0 | h0
    · exact absurd (digs_nil.1 h0) hb
    · exact h0
  have h1 := bits_le 32 _ (getD_lt (ok_digs b) ((digs b).length - 1))
  have h2 : 1 ≤ blen ((digs b)[(digs b).length - 1]?.getD 0) := by
    have hne : (digs b)[(digs b).length - 1]?.getD 0 ≠ 0 := by
      have e : (digs b)[(digs b).length - 1]? = some (digs b)[(digs b).length - 1] := List.getElem?_eq_getElem (by omega)
      rw [e]
      exact last_digs (by rw [List.getLast?_eq_getElem?, e]; rfl)
    rw [blen_pos hne]; omega
  exact ⟨32 * (digs b).length - blen b, by omega, by omega⟩
theorem norm_top {b s : Nat} (hb : b ≠ 0) (hs : blen b + s = 32 * (digs b).length) : (digs (b * 2 ^ s)).length = (digs b).length ∧ 2147483648 ≤ (digs (b * 2 ^ s))[(digs b).length - 1]?.getD 0 := by
  have hv : b * 2 ^ s ≠ 0 := Nat.mul_ne_zero hb (Nat.pos_iff_ne_zero.1 (Nat.pow_pos (by omega)))
  have h := blen_digs _ hv
  rw [blen_shl s hb, hs] at h
  have h1 := bits_le 32 _ (getD_lt (ok_digs (b * 2 ^ s)) ((digs (b * 2 ^ s)).length - 1))
  have hl : 0 < (digs (b * 2 ^ s)).length := by
    rcases Nat.eq_zero_or_pos (digs (b * 2 ^ s)).length with h0 | h0
    · exact absurd (digs_nil.1 h0) hv
    · exact h0
  have h2 : 1 ≤ blen ((digs (b * 2 ^ s))[(digs (b * 2 ^ s)).length - 1]?.getD 0) := by
    have hne : (digs (b * 2 ^ s))[(digs (b * 2 ^ s)).length - 1]?.getD 0 ≠ 0 := by
      have e : (digs (b * 2 ^ s))[(digs (b * 2 ^ s)).length - 1]? = some (digs (b * 2 ^ s))[(digs (b * 2 ^ s)).length - 1] := List.getElem?_eq_getElem (by omega)
      rw [e]
      exact last_digs (by rw [List.getLast?_eq_getElem?, e]; rfl)
    rw [blen_pos hne]; omega
  have e : (digs (b * 2 ^ s)).length = (digs b).length := by omega
  refine ⟨e, ?_⟩
  rw [← e]
  rcases Nat.lt_or_ge ((digs (b * 2 ^ s))[(digs (b * 2 ^ s)).length - 1]?.getD 0) 2147483648 with h3 | h3
  · have := bits_le 31 _ h3; omega
  · exact h3
/-- The number moved up is below the divisor, moved up, B^(m - n + 1) times. -/
theorem norm_start {a b s : Nat} (hb : b ≠ 0) (hle : (digs b).length ≤ (digs a).length) : a * 2 ^ s < b * 2 ^ s * 4294967296 ^ ((digs a).length - (digs b).length + 1) := by
  have h1 : a < 4294967296 ^ (digs a).length := by have := val_lt (ok_digs a); rwa [val_digs] at this
  have hl : 0 < (digs b).length := by
    rcases Nat.eq_zero_or_pos (digs b).length with h0 | h0
    · exact absurd (digs_nil.1 h0) hb
    · exact h0
  have h2 : 4294967296 ^ ((digs b).length - 1) ≤ b := by
    have hne : (digs b)[(digs b).length - 1]?.getD 0 ≠ 0 := by
      have e : (digs b)[(digs b).length - 1]? = some (digs b)[(digs b).length - 1] := List.getElem?_eq_getElem (by omega)
      rw [e]
      exact last_digs (by rw [List.getLast?_eq_getElem?, e]; rfl)
    have := val_pos_of_get _ _ hne
    rwa [val_digs] at this
  have h3 : a < b * 4294967296 ^ ((digs a).length - (digs b).length + 1) := by
    refine Nat.lt_of_lt_of_le h1 (Nat.le_trans (Nat.le_of_eq ?_) (Nat.mul_le_mul_right _ h2))
    rw [← Nat.pow_add]; congr 1; omega
  rw [Nat.mul_right_comm]
  exact Nat.mul_lt_mul_of_pos_right h3 (Nat.pow_pos (by omega))
theorem div_moved (a b s : Nat) : a * 2 ^ s / (b * 2 ^ s) = a / b := Nat.mul_div_mul_right a b (Nat.pow_pos (by omega))
theorem mod_moved (a b s : Nat) : a * 2 ^ s % (b * 2 ^ s) / 2 ^ s = a % b := by
  rw [Nat.mul_mod_mul_right, Nat.mul_div_cancel _ (Nat.pow_pos (by omega))]
theorem div_done {m v q l : Nat} (e : m = l + v * q) (h : l < v) : q = m / v ∧ l = m % v := by
  subst e
  rw [Nat.add_mul_div_left _ _ (by omega), Nat.add_mul_mod_self_left, Nat.div_eq_of_lt h, Nat.mod_eq_of_lt h]; omega
end Go.Proofs.Ytceningojnfgpaa
