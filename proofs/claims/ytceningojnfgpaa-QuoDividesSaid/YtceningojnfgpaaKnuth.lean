/-
  Plain arithmetic of the long division: a guessed digit, and what is left.
-/
import Derived.Test.YtceningojnfgpaaRow
namespace Go.Proofs.Ytceningojnfgpaa
theorem kn_start {u v p f t l : Nat} (hf : 0 < f) (hu : u < (t + 1) * p) (hv : f * p ≤ v) (hl : l * v ≤ u) : l ≤ t / f := by
  have h1 : l * f * p ≤ u := Nat.le_trans (by rw [Nat.mul_assoc]; exact Nat.mul_le_mul_left l hv) hl
  have h2 : l * f < t + 1 := Nat.lt_of_mul_lt_mul_right (Nat.lt_of_le_of_lt h1 hu)
  exact (Nat.le_div_iff_mul_le hf).2 (by omega)
/-- A guess that fails the test is too much. -/
theorem kn_down {u v p f s t r d x l : Nat} (hu : u < ((t * 4294967296 + x) + 1) * p) (hv : (f * 4294967296 + s) * p ≤ v) (hl : l * v ≤ u) (ht : d * f + r = t) (hd : r * 4294967296 + x < d * s) : l + 1 ≤ d := by
  rcases Nat.lt_or_ge l d with h | h
  · exact h
  · exfalso
    have h1 : l * (f * 4294967296 + s) * p ≤ u := Nat.le_trans (by rw [Nat.mul_assoc]; exact Nat.mul_le_mul_left l hv) hl
    have h2 : l * (f * 4294967296 + s) < t * 4294967296 + x + 1 := Nat.lt_of_mul_lt_mul_right (Nat.lt_of_le_of_lt h1 hu)
    have h3 := Nat.mul_le_mul_right (f * 4294967296 + s) h
    have h4 : d * (f * 4294967296 + s) = d * f * 4294967296 + d * s := by rw [Nat.mul_add, Nat.mul_assoc]
    have h5 : t * 4294967296 = d * f * 4294967296 + r * 4294967296 := by rw [← ht, Nat.add_mul]
    omega
/-- A guess that passes the test is at most one too much. -/
theorem kn_near {u v p f s t r d x l : Nat} (hu : (t * 4294967296 + x) * p ≤ u) (hv : v < ((f * 4294967296 + s) + 1) * p) (hl : u < (l + 1) * v) (ht : d * f + r = t) (hd : d * s ≤ r * 4294967296 + x) (hb : d ≤ f * 4294967296) : d ≤ l + 1 := by
  rcases Nat.lt_or_ge (l + 1) d with h | h
  · exfalso
    have h4 : d * (f * 4294967296 + s) = d * f * 4294967296 + d * s := by rw [Nat.mul_add, Nat.mul_assoc]
    have h5 : t * 4294967296 = d * f * 4294967296 + r * 4294967296 := by rw [← ht, Nat.add_mul]
    have h6 : d * (f * 4294967296 + s) ≤ t * 4294967296 + x := by omega
    have h7 : d * (f * 4294967296 + s) * p < (l + 1) * v := Nat.lt_of_le_of_lt (Nat.le_trans (Nat.mul_le_mul_right p h6) hu) hl
    have h8 : (l + 1) * v ≤ (d - 1) * v := Nat.mul_le_mul_right v (by omega)
    have h9 : (d - 1) * v ≤ (d - 1) * ((f * 4294967296 + s) + 1) * p := by rw [Nat.mul_assoc]; exact Nat.mul_le_mul_left _ (by omega)
    have h10 : d * (f * 4294967296 + s) < (d - 1) * ((f * 4294967296 + s) + 1) := Nat.lt_of_mul_lt_mul_right (Nat.lt_of_lt_of_le h7 (Nat.le_trans h8 h9))
    obtain ⟨e, rfl⟩ : ∃ e, d = e + 1 := ⟨d - 1, by omega⟩
    rw [Nat.add_sub_cancel, Nat.mul_add e, Nat.add_mul] at h10
    omega
  · exact h
/-- Where the rest is past 32 bits, the guess passes. -/
theorem kn_past {f s t r d x : Nat} (hs : s < 4294967296) (htop : t < (f + 1) * 4294967296) (ht : d * f + r = t) (hr : 4294967296 ≤ r) : d < 4294967296 ∧ d * s ≤ r * 4294967296 + x := by
  have h1 : d * f < f * 4294967296 := by rw [Nat.add_mul] at htop; omega
  have h2 : d < 4294967296 := by rw [Nat.mul_comm f] at h1; exact Nat.lt_of_mul_lt_mul_right h1
  refine ⟨h2, ?_⟩
  have h3 : d * s ≤ 4294967296 * 4294967296 := Nat.mul_le_mul (by omega) (by omega)
  have h4 : 4294967296 * 4294967296 ≤ r * 4294967296 := Nat.mul_le_mul_right _ hr
  omega
theorem kn_top {u v p f t : Nat} (hu : t * p ≤ u) (hv : v < (f + 1) * p) (hl : u < v * 4294967296) : t < (f + 1) * 4294967296 := by
  have h1 : v * 4294967296 < (f + 1) * p * 4294967296 := Nat.mul_lt_mul_of_pos_right hv (by omega)
  have h2 : t * p < (f + 1) * 4294967296 * p := by rw [Nat.mul_right_comm]; omega
  exact Nat.lt_of_mul_lt_mul_right h2
/-- The last digits of a list, and the others. -/
theorem val_top1 {xs : List Nat} {k : Nat} (h : xs.length = k + 1) : val xs = val (xs.take k) + 4294967296 ^ k * (xs[k]?.getD 0) := by
  have e := take_one (xs := xs) (k := k) (by omega)
  rw [List.take_of_length_le (by omega)] at e
  conv => lhs; rw [e]
  rw [val_snoc, List.length_take, Nat.min_eq_left (by omega)]
theorem val_top2 {xs : List Nat} {k : Nat} (h : xs.length = k + 2) : val xs = val (xs.take k) + 4294967296 ^ k * (xs[k]?.getD 0 + 4294967296 * (xs[k + 1]?.getD 0)) := by
  rw [val_top1 (k := k + 1) h, take_one (by omega), val_snoc, List.length_take, Nat.min_eq_left (by omega), Nat.pow_succ, Nat.mul_add, Nat.mul_assoc]; omega
theorem val_take_lt {xs : List Nat} (h : ok32 xs) (k : Nat) (hk : k ≤ xs.length) : val (xs.take k) < 4294967296 ^ k := by
  have := val_lt (xs := xs.take k) (fun x hx => h x (List.mem_of_mem_take hx))
  rwa [List.length_take, Nat.min_eq_left hk] at this
theorem between {a b p t : Nat} (h : b < p) (e : a = b + p * t) : t * p ≤ a ∧ a < (t + 1) * p := by
  rw [Nat.mul_comm p] at e; rw [Nat.add_mul]; omega
/-- What a list is, seen from its first two places. -/
theorem val_seen1 {xs : List Nat} (h : ok32 xs) {k : Nat} (hk : xs.length = k + 1) : (xs[k]?.getD 0) * 4294967296 ^ k ≤ val xs ∧ val xs < (xs[k]?.getD 0 + 1) * 4294967296 ^ k :=
  between (val_take_lt h k (by omega)) (val_top1 hk)
theorem val_seen2 {xs : List Nat} (h : ok32 xs) {k : Nat} (hk : xs.length = k + 2) : (xs[k + 1]?.getD 0 * 4294967296 + xs[k]?.getD 0) * 4294967296 ^ k ≤ val xs ∧ val xs < (xs[k + 1]?.getD 0 * 4294967296 + xs[k]?.getD 0 + 1) * 4294967296 ^ k :=
  between (val_take_lt h k (by omega)) (by rw [val_top2 hk, Nat.mul_comm (xs[k + 1]?.getD 0), Nat.add_comm (4294967296 * _)])
theorem val_seen3 {xs : List Nat} (h : ok32 xs) {k : Nat} (hk : xs.length = k + 3) : ((xs[k + 2]?.getD 0 * 4294967296 + xs[k + 1]?.getD 0) * 4294967296 + xs[k]?.getD 0) * 4294967296 ^ k ≤ val xs ∧
    val xs < ((xs[k + 2]?.getD 0 * 4294967296 + xs[k + 1]?.getD 0) * 4294967296 + xs[k]?.getD 0 + 1) * 4294967296 ^ k := by
  refine between (val_take_lt h k (by omega)) ?_
  have e : xs[k]?.getD 0 + 4294967296 * (xs[k + 1]?.getD 0 + 4294967296 * (xs[k + 2]?.getD 0)) = (xs[k + 2]?.getD 0 * 4294967296 + xs[k + 1]?.getD 0) * 4294967296 + xs[k]?.getD 0 := by omega
  rw [val_top2 (k := k + 1) hk, take_one (by omega), val_snoc, List.length_take, Nat.min_eq_left (by omega), Nat.pow_succ, ← e, Nat.mul_add (4294967296 ^ k) (xs[k]?.getD 0), Nat.mul_assoc (4294967296 ^ k) 4294967296, Nat.add_assoc]
/-- A digit off: what is left. -/
theorem kn_left {u v d l r c p : Nat} (hv : 0 < v) (hl : l = u / v) (h1 : l ≤ d) (h2 : d ≤ l + 1) (e : u + p * c = r + d * v) (hr : r < p) (hu : u < p) (hvp : v ≤ p) : (c = 0 ∧ d = l ∧ r = u % v) ∨ (1 = c ∧ d = l + 1 ∧ (r + v) % p = u % v ∧ p ≤ r + v) := by
  have h3 := Nat.div_add_mod u v
  have h4 := Nat.mod_lt u hv
  rw [← hl, Nat.mul_comm] at h3
  rcases Nat.lt_or_ge l d with h | h
  · have : d = l + 1 := by omega
    subst this
    rw [Nat.add_mul] at e
    right
    have hc : c = 1 := by
      rcases c with _ | _ | c
      · omega
      · rfl
      · exfalso
        have : p * (c + 1 + 1) = p * c + p + p := by rw [Nat.mul_add, Nat.mul_add]; omega
        omega
    subst hc
    refine ⟨rfl, rfl, ?_, by omega⟩
    have : r + v = u % v + p := by omega
    rw [this, Nat.add_mod_right, Nat.mod_eq_of_lt (by omega)]
  · have : d = l := by omega
    subst this
    left
    have hc : c = 0 := by
      rcases c with _ | c
      · rfl
      · exfalso
        have : p * (c + 1) = p * c + p := by rw [Nat.mul_add]; omega
        omega
    subst hc
    exact ⟨rfl, rfl, by omega⟩
end Go.Proofs.Ytceningojnfgpaa
