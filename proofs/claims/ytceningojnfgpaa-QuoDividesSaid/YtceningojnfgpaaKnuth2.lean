/-
  Plain arithmetic of the long division: a row of digits in its list, a quotient's digit.
-/
import Derived.Test.YtceningojnfgpaaKnuth
import Derived.Test.YtceningojnfgpaaMul
namespace Go.Proofs.Ytceningojnfgpaa
open Go.RowKit
theorem take_step {zs z0 ys : List Nat} {off k d c b b' x t : Nat} (hz : off + k < zs.length) (hz0 : off + k < z0.length) (hy : k < ys.length)
    (h : val (z0.take (off + k)) + 4294967296 ^ (off + k) * (c + b) = val (zs.take (off + k)) + 4294967296 ^ off * (val (ys.take k) * x))
    (hs : z0[off + k]?.getD 0 + 4294967296 * (d + b') = t + (ys[k]?.getD 0 * x + c) + b) :
    val (z0.take (off + (k + 1))) + 4294967296 ^ (off + (k + 1)) * (d + b') = val ((zs.set (off + k) t).take (off + (k + 1))) + 4294967296 ^ off * (val (ys.take (k + 1)) * x) := by
  rw [← Nat.add_assoc, take_set hz, take_one hz0, take_one hy, val_snoc, val_snoc, val_snoc, List.length_take, List.length_take, List.length_take, Nat.min_eq_left (by omega), Nat.min_eq_left (by omega), Nat.min_eq_left (by omega), Nat.pow_succ]
  have e1 : 4294967296 ^ off * ((val (ys.take k) + 4294967296 ^ k * (ys[k]?.getD 0)) * x) = 4294967296 ^ off * (val (ys.take k) * x) + 4294967296 ^ (off + k) * (ys[k]?.getD 0 * x) := by
    rw [Nat.add_mul, Nat.mul_add, Nat.pow_add]; congr 1; simp only [Nat.mul_assoc]
  have e2 : 4294967296 ^ (off + k) * (z0[off + k]?.getD 0) + 4294967296 ^ (off + k) * 4294967296 * (d + b') = 4294967296 ^ (off + k) * t + 4294967296 ^ (off + k) * (ys[k]?.getD 0 * x) + 4294967296 ^ (off + k) * (c + b) := by
    rw [Nat.mul_assoc, ← Nat.mul_add, hs, ← Nat.mul_add, ← Nat.mul_add]; congr 1; omega
  rw [e1]
  omega
theorem take_last {zs z0 : List Nat} {k c b b' t E : Nat} (hz : k < zs.length) (hz0 : k < z0.length)
    (h : val (z0.take k) + 4294967296 ^ k * (c + b) = val (zs.take k) + E) (hs : t + c + b = z0[k]?.getD 0 + 4294967296 * b') :
    val (z0.take (k + 1)) + 4294967296 ^ (k + 1) * b' = val ((zs.set k t).take (k + 1)) + E := by
  rw [take_set hz, take_one hz0, val_snoc, val_snoc, List.length_take, List.length_take, Nat.min_eq_left (by omega), Nat.min_eq_left (by omega), Nat.pow_succ]
  have e2 : 4294967296 ^ k * (z0[k]?.getD 0) + 4294967296 ^ k * 4294967296 * b' = 4294967296 ^ k * t + 4294967296 ^ k * (c + b) := by
    rw [Nat.mul_assoc, ← Nat.mul_add, ← hs, ← Nat.mul_add]; congr 1; omega
  omega
theorem val_split (xs : List Nat) {k : Nat} (h : k ≤ xs.length) : val xs = val (xs.take k) + 4294967296 ^ k * val (xs.drop k) := by
  conv => lhs; rw [← List.take_append_drop k xs, val_append, List.length_take, Nat.min_eq_left h]
theorem whole_of_take {zs z0 : List Nat} {k b E : Nat} (hk : k ≤ z0.length) (hl : zs.length = z0.length) (hd : zs.drop k = z0.drop k) (h : val (z0.take k) + 4294967296 ^ k * b = val (zs.take k) + E) :
    val z0 + 4294967296 ^ k * b = val zs + E := by
  rw [val_split z0 hk, val_split zs (by omega : k ≤ zs.length), hd]; omega
theorem drop_of_get {zs z0 : List Nat} {k : Nat} (h : ∀ j, k ≤ j → zs[j]? = z0[j]?) : zs.drop k = z0.drop k := by
  apply List.ext_getElem?
  intro j
  rw [List.getElem?_drop, List.getElem?_drop, h _ (by omega)]
theorem val_pos_of_get : ∀ (xs : List Nat) (j : Nat), xs[j]?.getD 0 ≠ 0 → 4294967296 ^ j ≤ val xs := by
  intro xs
  induction xs with
  | nil => intro j h; simp at h
  | cons x r ih =>
    intro j h
    rcases j with _ | j
    · simp at h; simp only [val, Nat.pow_zero]; omega
    · have := ih j (by simpa using h); simp only [val, Nat.pow_succ]; omega
/-- A list whose number is below B^k has noughts from k on. -/
theorem drop_zero {xs : List Nat} {k : Nat} (hk : k ≤ xs.length) (h : val xs < 4294967296 ^ k) : val (xs.drop k) = 0 := by
  rcases Nat.eq_zero_or_pos (val (xs.drop k)) with h0 | h0
  · exact h0
  · exfalso
    have := val_split xs hk
    have := Nat.le_mul_of_pos_right (4294967296 ^ k) h0
    omega
theorem below_of_drop {xs : List Nat} (hok : ok32 xs) {k : Nat} (hk : k ≤ xs.length) (h : val (xs.drop k) = 0) : val xs < 4294967296 ^ k := by
  rw [val_split xs hk, h, Nat.mul_zero, Nat.add_zero]; exact val_take_lt hok k hk
/-- A row in its list. -/
theorem val_window {xs : List Nat} (hok : ok32 xs) {j m : Nat} (hk : j + m ≤ xs.length) (h : val xs < 4294967296 ^ (j + m)) : val ((xs.drop j).take m) = val xs / 4294967296 ^ j := by
  have h1 := val_split xs (k := j) (by omega)
  have h2 := val_split (xs.drop j) (k := m) (by rw [List.length_drop]; omega)
  have h3 : val ((xs.drop j).drop m) = 0 := by rw [List.drop_drop]; exact drop_zero hk h
  rw [h3, Nat.mul_zero, Nat.add_zero] at h2
  have h4 := val_take_lt hok j (by omega)
  rw [h1, ← h2, Nat.add_mul_div_left _ _ (Nat.pow_pos (by omega)), Nat.div_eq_of_lt h4, Nat.zero_add]
theorem val_set_zero : ∀ (xs : List Nat) (j d : Nat), j < xs.length → xs[j]?.getD 0 = 0 → val (xs.set j d) = val xs + 4294967296 ^ j * d := by
  intro xs
  induction xs with
  | nil => intro j d h; simp at h
  | cons x r ih =>
    intro j d h h0
    rcases j with _ | j
    · simp at h0; subst h0; simp [val]; omega
    · have := ih j d (by simpa using h) (by simpa using h0)
      simp only [List.set_cons_succ, val, this, Nat.pow_succ]
      rw [Nat.mul_add, Nat.mul_right_comm, Nat.mul_comm _ 4294967296]; omega
/-- One digit of the quotient: what is left, whether the guess was right or one too much. -/
theorem div_fix {L P v Q l x b M : Nat} (hP : 0 < P) (hv : 0 < v) (hl : l = L / P / v) (h1 : l ≤ x) (h2 : x ≤ l + 1) (hvQ : P * v ≤ Q) (hMQ : M < Q) (h : L + Q * b = M + P * (v * x)) :
    P * (v * l) ≤ L ∧ L - P * (v * l) < v * P ∧ ((b = 0 ∧ x = l ∧ M = L - P * (v * l)) ∨ (b = 1 ∧ x = l + 1 ∧ ∀ c M', M' < Q → M' + Q * c = M + P * v → M' = L - P * (v * l))) := by
  have e1 := Nat.div_add_mod L P
  have e2 := Nat.div_add_mod (L / P) v
  have e3 := Nat.mod_lt L hP
  have e4 := Nat.mod_lt (L / P) hv
  rw [← hl] at e2
  have e5 : P * (L / P) = P * (v * l) + P * (L / P % v) := by rw [← Nat.mul_add, e2]
  have e6 : P * (L / P % v) + P ≤ P * v := by have := Nat.mul_le_mul_left P e4; rw [Nat.mul_succ] at this; exact this
  rw [Nat.mul_comm v P]
  have e7 : P * (v * (l + 1)) = P * (v * l) + P * v := by rw [Nat.mul_add, Nat.mul_one, Nat.mul_add]
  generalize eT : P * (v * l) = T at *
  refine ⟨by omega, by omega, ?_⟩
  rcases Nat.lt_or_ge l x with hx | hx
  · have : x = l + 1 := by omega
    subst this
    rw [e7] at h
    right
    have hb : b = 1 := by
      rcases b with _ | _ | b
      · omega
      · rfl
      · exfalso; rw [Nat.mul_add, Nat.mul_add] at h; omega
    subst hb
    refine ⟨rfl, rfl, fun c M' hM' hc => ?_⟩
    rcases c with _ | _ | c
    · omega
    · omega
    · exfalso; rw [Nat.mul_add, Nat.mul_add] at hc; omega
  · have : x = l := by omega
    subst this
    rw [eT] at h
    left
    have hb : b = 0 := by
      rcases b with _ | b
      · rfl
      · exfalso; rw [Nat.mul_add] at h; omega
    subst hb
    exact ⟨rfl, rfl, by omega⟩
end Go.Proofs.Ytceningojnfgpaa
