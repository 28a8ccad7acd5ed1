import Derived.Test.YtfhdhldgflbpjaaDoorMB0
import Derived.Lib.LaidTab
import Derived.Lib.TrailingZeros
import Derived.Lib.AppendIntMem
import Derived.Deep.DeepCutAuto
import Derived.Orders
import Derived.Laws.Rows
import Derived.WalkMore
import Derived.Deep.LoopGhost
import Derived.Laws.CopyOwn
import Derived.Laws.OwnMore
section
/-
  Plain arithmetic of numbers times a power of 2: their form, their size, their order, and how they are rounded. No program in sight.
-/
namespace Go.Proofs.YtfhdhldgflbpjaaDoor
/-- How many bits of a number are 0 from the least one on. -/
def tz (n : Nat) : Nat := if h : n = 0 then 0 else if n % 2 = 1 then 0 else 1 + tz (n / 2)
termination_by n
decreasing_by omega
theorem tz_odd {n : Nat} (h : n % 2 = 1) : tz n = 0 := by
  rw [tz]
  by_cases h0 : n = 0
  · rw [dif_pos h0]
  · rw [dif_neg h0, if_pos h]
theorem tz_even {n : Nat} (h0 : n ≠ 0) (h : n % 2 = 0) : tz n = 1 + tz (n / 2) := by rw [tz]; simp [h0, h]
theorem tz_spec (n : Nat) (h : n ≠ 0) : (n / 2 ^ tz n) % 2 = 1 ∧ n = n / 2 ^ tz n * 2 ^ tz n := by
  induction n using Nat.strongRecOn with
  | ind n ih =>
    by_cases h1 : n % 2 = 1
    · rw [tz_odd h1]; simp [h1]
    · have h2 : n % 2 = 0 := by omega
      have ⟨a, b⟩ := ih (n / 2) (by omega) (by omega)
      rw [tz_even h h2, Nat.pow_add, Nat.pow_one, ← Nat.div_div_eq_div_mul]
      refine ⟨a, ?_⟩
      have : n = 2 * (n / 2) := by omega
      rw [Nat.mul_comm 2, ← Nat.mul_assoc, ← b]; omega
theorem tz_uniq {n k q : Nat} (hq : q % 2 = 1) (h : n = q * 2 ^ k) : tz n = k := by
  induction k generalizing n with
  | zero => simp at h; subst h; exact tz_odd hq
  | succ k ih =>
    have h2 : n = 2 * (q * 2 ^ k) := by rw [h, Nat.pow_succ]; grind
    have hp : 0 < q * 2 ^ k := Nat.mul_pos (by omega) (Nat.pow_pos (by omega))
    rw [tz_even (by omega) (by omega), ih (n := n / 2) (by omega)]; omega
theorem tz_lt {n : Nat} {k : Nat} (h0 : n ≠ 0) (h : n < 2 ^ k) : tz n < k := by
  have ⟨a, b⟩ := tz_spec n h0
  generalize n / 2 ^ tz n = q at a b
  rcases Nat.lt_or_ge (tz n) k with h1 | h1
  · exact h1
  · have h2 : 2 ^ k ≤ 2 ^ tz n := Nat.pow_le_pow_right (by omega) h1
    have h4 := Nat.mul_le_mul_right (2 ^ tz n) (show 1 ≤ q by omega)
    rw [Nat.one_mul, ← b] at h4
    exact absurd (Nat.lt_of_lt_of_le h (Nat.le_trans h2 h4)) (Nat.lt_irrefl _)
theorem val_getD {xs : List Nat} (h : val xs = 0) (i : Nat) : xs[i]?.getD 0 = 0 := by
  induction xs generalizing i with
  | nil => simp
  | cons y s ih =>
    simp only [val] at h
    rcases i with _ | i
    · simp only [List.getElem?_cons_zero, Option.getD_some]; omega
    · rw [List.getElem?_cons_succ]; exact ih (by omega) i
/-- A digit that is not 0, behind digits that are: its own noughts, and 32 for each. -/
theorem tz_val : ∀ (xs : List Nat) (i : Nat), (∀ j, j < i → xs[j]?.getD 0 = 0) → i < xs.length → xs[i]?.getD 0 ≠ 0 → ok32 xs → tz (val xs) = 32 * i + tz (xs[i]?.getD 0) := by
  intro xs
  induction xs with
  | nil => intro i _ h; simp at h
  | cons x r ih =>
    intro i hz hi hne hk
    rcases i with _ | i
    · simp at hne ⊢
      have ⟨a, b⟩ := tz_spec x hne
      have hx : x < 4294967296 := hk x (by simp)
      have hlt := tz_lt hne (show x < 2 ^ 32 by omega)
      refine tz_uniq (q := x / 2 ^ tz x + 2 ^ (32 - tz x) * val r) ?_ ?_
      · have : 2 ^ (32 - tz x) = 2 * 2 ^ (31 - tz x) := by rw [← Nat.pow_succ']; congr 1; omega
        rw [this, Nat.mul_assoc]; omega
      · have e : 2 ^ (32 - tz x) * 2 ^ tz x = 4294967296 := by rw [← Nat.pow_add, show 32 - tz x + tz x = 32 by omega]
        simp only [val]
        rw [Nat.add_mul, ← b, Nat.mul_right_comm, e]
    · have h0 : x = 0 := by simpa using hz 0 (by omega)
      rw [List.getElem?_cons_succ] at hne ⊢
      simp only [List.length_cons] at hi
      subst h0
      have := ih i (fun j hj => by simpa using hz (j + 1) (by omega)) (by omega) hne (fun y hy => hk y (by simp [hy]))
      have hv : val r ≠ 0 := fun h0 => hne (val_getD h0 i)
      have ⟨a, b⟩ := tz_spec (val r) hv
      have e : tz (val (0 :: r)) = tz (val r) + 32 := by
        refine tz_uniq a ?_
        simp only [val]
        rw [Nat.pow_add, ← Nat.mul_assoc, ← b]; omega
      rw [e, this]; omega

/-- A number with as great an exponent as may be: odd, or 0 with the exponent 0. -/
def Nf (m e : Int) : Prop := (m = 0 ∧ e = 0) ∨ m % 2 = 1
/-- The number m times 2^e, its M and its exponent. -/
def nm (m : Int) : Int := if m = 0 then 0 else m / 2 ^ tz m.natAbs
def nx (m e : Int) : Int := if m = 0 then 0 else e + tz m.natAbs
theorem nm_zero : nm 0 = 0 := rfl
theorem nx_zero (e : Int) : nx 0 e = 0 := rfl
theorem nm_back {m : Int} (h : m ≠ 0) : m = nm m * 2 ^ tz m.natAbs ∧ nm m % 2 = 1 ∧ (nm m).natAbs = m.natAbs / 2 ^ tz m.natAbs := by
  have ⟨a, b⟩ := tz_spec m.natAbs (by omega)
  unfold nm
  rw [if_neg h]
  have hd : ((2 : Int) ^ tz m.natAbs) ∣ m := by
    refine Int.natAbs_dvd_natAbs.1 ?_
    rw [Int.natAbs_pow]
    exact ⟨_, by rw [Nat.mul_comm]; exact b⟩
  have e : m / 2 ^ tz m.natAbs * 2 ^ tz m.natAbs = m := Int.ediv_mul_cancel hd
  have e2 : (m / 2 ^ tz m.natAbs).natAbs = m.natAbs / 2 ^ tz m.natAbs := by
    rw [Int.natAbs_ediv_of_dvd hd, Int.natAbs_pow]; rfl
  refine ⟨e.symm, ?_, e2⟩
  rw [← e2] at a
  omega
theorem nf_n (m e : Int) : Nf (nm m) (nx m e) := by
  by_cases h : m = 0
  · subst h; exact .inl ⟨rfl, rfl⟩
  · exact .inr (nm_back h).2.1
theorem nm_neg_iff (m : Int) : decide (nm m < 0) = decide (m < 0) := by
  by_cases h : m = 0
  · subst h; rfl
  · have ⟨a, b, _⟩ := nm_back h
    have hp : (0 : Int) < 2 ^ tz m.natAbs := Int.pow_pos (by omega)
    rw [decide_eq_decide]
    constructor
    · intro h1
      have := Int.mul_le_mul_of_nonneg_right (a := nm m) (b := -1) (by omega) (Int.le_of_lt hp)
      omega
    · intro h1
      by_cases h2 : nm m < 0
      · exact h2
      · have := Int.mul_nonneg (a := nm m) (by omega) (Int.le_of_lt hp); omega
/-- Its value. -/
def dv (m e : Int) : Rat := (m : Rat) * 2 ^ e
theorem two_ne : (2 : Rat) ≠ 0 := by decide
theorem zpow_pos (e : Int) : (0 : Rat) < 2 ^ e := Rat.zpow_pos (by decide)
theorem dv_pow (m : Int) (k : Nat) (e : Int) : dv (m * 2 ^ k) e = dv m (e + k) := by
  unfold dv
  rw [Rat.zpow_add two_ne, Rat.zpow_natCast, Rat.intCast_mul, Rat.intCast_pow]
  grind
theorem dv_zero (e : Int) : dv 0 e = 0 := by unfold dv; rw [Rat.intCast_zero, Rat.zero_mul]
theorem dv_n (m e : Int) : dv (nm m) (nx m e) = dv m e := by
  by_cases h : m = 0
  · subst h; rw [nm_zero, nx_zero, dv_zero, dv_zero]
  · have ⟨a, _⟩ := nm_back h
    conv => rhs; rw [a]
    rw [dv_pow]; unfold nx; rw [if_neg h]
theorem dv_eq0 {m e : Int} : dv m e = 0 ↔ m = 0 := by
  constructor
  · intro h
    unfold dv at h
    rcases Rat.mul_eq_zero.1 h with h | h
    · exact Rat.intCast_eq_zero_iff.1 h
    · have := zpow_pos e
      rw [h] at this; exact absurd this (by decide)
  · rintro rfl; exact dv_zero e
theorem dv_add (a b e : Int) : dv a e + dv b e = dv (a + b) e := by unfold dv; rw [Rat.intCast_add, Rat.add_mul]
theorem dv_neg (a e : Int) : dv (-a) e = -dv a e := by unfold dv; rw [Rat.intCast_neg, Rat.neg_mul]
theorem dv_mul (a b e f : Int) : dv a e * dv b f = dv (a * b) (e + f) := by unfold dv; rw [Rat.zpow_add two_ne, Rat.intCast_mul]; grind
theorem dv_le {a b e : Int} : dv a e ≤ dv b e ↔ a ≤ b := by
  unfold dv
  constructor
  · intro h
    exact Rat.intCast_le_intCast.1 (Rat.le_of_mul_le_mul_right h (zpow_pos e))
  · intro h
    exact Rat.mul_le_mul_of_nonneg_right (Rat.intCast_le_intCast.2 h) (Rat.le_of_lt (zpow_pos e))
theorem dv_inj {a b e : Int} (h : dv a e = dv b e) : a = b := Int.le_antisymm (dv_le.1 (by rw [h]; exact Rat.le_refl)) (dv_le.1 (by rw [h]; exact Rat.le_refl))
/-- Brought down to a lesser exponent. -/
theorem dv_down {m e f : Int} (h : f ≤ e) : dv m e = dv (m * 2 ^ (e - f).toNat) f := by
  rw [dv_pow]; congr 1; omega
theorem nf_zero {m e : Int} (h : Nf m e) (h0 : m = 0) : e = 0 := by rcases h with h | h <;> omega
/-- ONE NUMBER HAS ONE FORM. -/
theorem nf_inj {m e n f : Int} (h : Nf m e) (h' : Nf n f) (hv : dv m e = dv n f) : m = n ∧ e = f := by
  have key : ∀ {m e n f : Int}, Nf m e → Nf n f → dv m e = dv n f → e ≤ f → m = n ∧ e = f := by
    intro m e n f h h' hv hle
    rw [dv_down hle] at hv
    have hm := dv_inj hv
    by_cases h0 : n = 0
    · have hm0 : m = 0 := by rw [hm, h0, Int.zero_mul]
      exact ⟨by omega, by rw [nf_zero h hm0, nf_zero h' h0]⟩
    · have hk : (f - e).toNat = 0 := by
        rcases Nat.eq_zero_or_pos (f - e).toNat with h1 | h1
        · exact h1
        · obtain ⟨k, hk⟩ : ∃ k, (f - e).toNat = k + 1 := ⟨(f - e).toNat - 1, by omega⟩
          rw [hk, Int.pow_succ, ← Int.mul_assoc] at hm
          have hodd : m % 2 = 1 := by
            rcases h with h | h
            · rw [h.1] at hm
              have hp : (0 : Int) < 2 ^ k := Int.pow_pos (by omega)
              rcases Int.mul_eq_zero.1 hm.symm with h2 | h2
              · rcases Int.mul_eq_zero.1 h2 with h3 | h3 <;> omega
              · omega
            · exact h
          omega
      rw [hk] at hm
      exact ⟨by omega, by omega⟩
  rcases Int.le_total e f with h1 | h1
  · exact key h h' hv h1
  · have := key h' h hv.symm h1
    exact ⟨this.1.symm, this.2.symm⟩
theorem nm_odd {m : Int} (h : m % 2 = 1) : nm m = m ∧ ∀ e, nx m e = e := by
  have h0 : m ≠ 0 := by omega
  unfold nm nx
  rw [if_neg h0, tz_odd (by omega)]
  exact ⟨by simp, fun e => by simp [h0]⟩
theorem nf_nm {m e : Int} (h : Nf m e) : nm m = m ∧ nx m e = e := nf_inj (nf_n m e) h (dv_n m e)
/-- What odd hands back is the form of what it was given. -/
theorem nf_of {m e n f : Int} (h : Nf n f) (hv : dv n f = dv m e) : nm m = n ∧ nx m e = f := nf_inj (nf_n m e) h (by rw [dv_n, hv])
/-- How many bits a number's M has. -/
def bl (m : Int) : Nat := blen m.natAbs
theorem blen_bd : ∀ n : Nat, n ≠ 0 → 2 ^ (blen n - 1) ≤ n ∧ n < 2 ^ blen n ∧ 1 ≤ blen n := by
  intro n
  induction n using Nat.strongRecOn with
  | ind n ih =>
    intro h
    rw [blen_pos h]
    by_cases h2 : n / 2 = 0
    · rw [h2, blen_zero]; simp; omega
    · have ⟨a, b, c⟩ := ih (n / 2) (by omega) h2
      have e1 : 2 ^ (1 + blen (n / 2)) = 2 * 2 ^ blen (n / 2) := by rw [Nat.add_comm, Nat.pow_succ]; omega
      have e2 : 2 ^ (1 + blen (n / 2) - 1) = 2 * 2 ^ (blen (n / 2) - 1) := by rw [← Nat.pow_succ']; congr 1; omega
      rw [e1, e2]; omega
theorem blen_uniq {n k : Nat} (h1 : 2 ^ k ≤ n) (h2 : n < 2 ^ (k + 1)) : blen n = k + 1 := by
  have hn : n ≠ 0 := by have := Nat.pow_pos (n := k) (show 0 < 2 by omega); omega
  have ⟨a, b, c⟩ := blen_bd n hn
  have x := (Nat.pow_lt_pow_iff_right (a := 2) (by omega)).1 (Nat.lt_of_le_of_lt h1 b)
  have y := (Nat.pow_lt_pow_iff_right (a := 2) (by omega)).1 (Nat.lt_of_le_of_lt a h2)
  omega
theorem blen_mono {a b : Nat} (h : a ≤ b) : blen a ≤ blen b := by
  by_cases h0 : a = 0
  · subst h0; rw [blen_zero]; omega
  · have ⟨x, _, c⟩ := blen_bd a h0
    have ⟨_, y, _⟩ := blen_bd b (by omega)
    have := (Nat.pow_lt_pow_iff_right (a := 2) (by omega)).1 (Nat.lt_of_le_of_lt (Nat.le_trans x h) y)
    omega
theorem blen_le {n k : Nat} (h : n < 2 ^ k) : blen n ≤ k := by
  by_cases h0 : n = 0
  · subst h0; rw [blen_zero]; omega
  · have ⟨x, _, c⟩ := blen_bd n h0
    have := (Nat.pow_lt_pow_iff_right (a := 2) (by omega)).1 (Nat.lt_of_le_of_lt x h)
    omega
theorem blen_up {n : Nat} (h : n ≠ 0) (k : Nat) : blen (n * 2 ^ k) = blen n + k := by
  have ⟨x, y, c⟩ := blen_bd n h
  have := blen_uniq (n := n * 2 ^ k) (k := blen n - 1 + k) (by rw [Nat.pow_add]; exact Nat.mul_le_mul_right _ x) (by
    rw [show blen n - 1 + k + 1 = blen n + k by omega, Nat.pow_add]; exact Nat.mul_lt_mul_of_pos_right y (Nat.pow_pos (by omega)))
  omega
theorem zpow_add2 (a b : Int) : (2 : Rat) ^ (a + b) = 2 ^ a * 2 ^ b := Rat.zpow_add two_ne a b
theorem dv_one (e : Int) : dv 1 e = 2 ^ e := by unfold dv; rw [Rat.intCast_one, Rat.one_mul]
theorem dv_lt {a b e : Int} : dv a e < dv b e ↔ a < b := by
  rw [← Rat.not_le, dv_le]; omega
theorem zpow_le {a b : Int} : (2 : Rat) ^ a ≤ 2 ^ b ↔ a ≤ b := by
  have key : ∀ a b : Int, a ≤ b → (2 : Rat) ^ a ≤ 2 ^ b := by
    intro a b h
    rw [← dv_one, ← dv_one, dv_down h, dv_le, Int.one_mul]
    have : (0 : Int) < 2 ^ (b - a).toNat := Int.pow_pos (by omega)
    omega
  constructor
  · intro h
    rcases Int.lt_or_le b a with h1 | h1
    · have h2 : (2 : Rat) ^ a ≤ 2 ^ b := h
      have h3 := key (b + 1) a h1
      have h4 : (2 : Rat) ^ (b + 1) = 2 ^ b * 2 := by rw [zpow_add2, Rat.zpow_one]
      have := zpow_pos b
      grind
    · exact h1
  · exact key a b
theorem zpow_lt {a b : Int} : (2 : Rat) ^ a < 2 ^ b ↔ a < b := by rw [← Rat.not_le, zpow_le]; omega
theorem rle_lt {a b c : Rat} (h : a ≤ b) (k : b < c) : a < c := by grind
theorem rlt_le {a b c : Rat} (h : a < b) (k : b ≤ c) : a < c := by grind
/-- From 2^(s - 1) to below 2^s, without its sign. -/
def Sz (r : Rat) (s : Int) : Prop := 2 ^ (s - 1) ≤ r.abs ∧ r.abs < 2 ^ s
theorem Sz.uniq {r : Rat} {s t : Int} (h : Sz r s) (h' : Sz r t) : s = t := by
  have a := zpow_lt.1 (rle_lt h.1 h'.2)
  have b := zpow_lt.1 (rle_lt h'.1 h.2)
  omega
theorem Sz.ne {r : Rat} {s : Int} (h : Sz r s) : r ≠ 0 := by
  rintro rfl
  have := zpow_pos (s - 1)
  have h1 := h.1
  rw [Rat.abs_zero] at h1
  grind
theorem abs_dv (m e : Int) : (dv m e).abs = dv (m.natAbs : Int) e := by
  rcases Int.le_total 0 m with h | h
  · rw [Rat.abs_of_nonneg (by rw [← dv_zero e, dv_le]; exact h)]; congr 1; omega
  · rw [Rat.abs_of_nonpos (by rw [← dv_zero e, dv_le]; exact h), ← dv_neg]; congr 1; omega
theorem dv_two (k : Nat) (e : Int) : dv (2 ^ k : Int) e = 2 ^ (e + k) := by
  have := dv_pow 1 k e
  rw [Int.one_mul] at this; rw [this, dv_one]
theorem sz_dv {m e : Int} (h : m ≠ 0) : Sz (dv m e) (e + bl m) := by
  have ⟨a, b, c⟩ := blen_bd m.natAbs (by omega)
  unfold Sz bl
  rw [abs_dv]
  constructor
  · rw [show e + (blen m.natAbs : Int) - 1 = e + ((blen m.natAbs - 1 : Nat) : Int) by omega, ← dv_two, dv_le]
    exact_mod_cast a
  · rw [← dv_two, dv_lt]; exact_mod_cast b
/-- Rounded at the exponent s: down, or up. -/
def Rn (up : Bool) (r : Rat) (s t : Int) : Prop := if up then dv (t - 1) s < r ∧ r ≤ dv t s else dv t s ≤ r ∧ r < dv (t + 1) s
theorem Rn.uniq {up : Bool} {r : Rat} {s t u : Int} (h : Rn up r s t) (h' : Rn up r s u) : t = u := by
  cases up
  · simp only [Rn, Bool.false_eq_true, if_false] at h h'
    have a := dv_lt.1 (rle_lt h.1 h'.2)
    have b := dv_lt.1 (rle_lt h'.1 h.2)
    omega
  · simp only [Rn, if_true] at h h'
    have a := dv_lt.1 (rlt_le h.1 h'.2)
    have b := dv_lt.1 (rlt_le h'.1 h.2)
    omega
theorem Rn.exact {up : Bool} {t s : Int} : Rn up (dv t s) s t := by
  cases up
  · simp only [Rn, Bool.false_eq_true, if_false]; exact ⟨Rat.le_refl, dv_lt.2 (by omega)⟩
  · simp only [Rn, if_true]; exact ⟨dv_lt.2 (by omega), Rat.le_refl⟩
theorem Rn.neg {up : Bool} {r : Rat} {s t : Int} (h : Rn up r s t) : Rn (!up) (-r) s (-t) := by
  cases up
  · simp only [Rn, Bool.false_eq_true, if_false, Bool.not_false, if_true] at h ⊢
    rw [show -t - 1 = -(t + 1) by omega, dv_neg, dv_neg]
    exact ⟨by have := h.2; grind, by have := h.1; grind⟩
  · simp only [Rn, Bool.false_eq_true, if_false, Bool.not_true, if_true] at h ⊢
    rw [show -t + 1 = -(t - 1) by omega, dv_neg, dv_neg]
    exact ⟨by have := h.2; grind, by have := h.1; grind⟩
/-- M times 2^E is r, rounded to p bits. -/
def RdOf (r : Rat) (p : Nat) (up : Bool) (M E : Int) : Prop := Nf M E ∧ ((r = 0 ∧ M = 0) ∨ ∃ s t : Int, Sz r (s + p) ∧ Rn up r s t ∧ dv M E = dv t s)
theorem RdOf.uniq {r : Rat} {p : Nat} {up : Bool} {M E N F : Int} (h : RdOf r p up M E) (h' : RdOf r p up N F) : M = N ∧ E = F := by
  obtain ⟨n1, h⟩ := h
  obtain ⟨n2, h'⟩ := h'
  refine nf_inj n1 n2 ?_
  rcases h with ⟨h0, hm⟩ | ⟨s, t, hs, ht, hv⟩
  · rcases h' with ⟨_, hn⟩ | ⟨s', t', hs', _⟩
    · rw [hm, hn, dv_zero, dv_zero]
    · exact absurd h0 hs'.ne
  · rcases h' with ⟨h0, _⟩ | ⟨s', t', hs', ht', hv'⟩
    · exact absurd h0 hs.ne
    · have := hs.uniq hs'
      obtain rfl : s = s' := by omega
      rw [hv, hv', ht.uniq ht']
/-- A number of at most p bits is what it is rounded to. -/
theorem rd_self {m e : Int} {p : Nat} {up : Bool} (h : Nf m e) (hp : bl m ≤ p) : RdOf (dv m e) p up m e := by
  refine ⟨h, ?_⟩
  by_cases h0 : m = 0
  · exact .inl ⟨by rw [h0, dv_zero], h0⟩
  · refine .inr ⟨e + bl m - p, m * 2 ^ (p - bl m), ?_, ?_, ?_⟩
    · rw [show e + (bl m : Int) - p + p = e + bl m by omega]; exact sz_dv h0
    · have : dv m e = dv (m * 2 ^ (p - bl m)) (e + bl m - p) := by rw [dv_pow]; congr 1; omega
      rw [this]; exact Rn.exact
    · rw [dv_pow]; congr 1; omega
/-- What is kept of a size: the first p bits; one more, if it is rounded away and something is left. -/
def kept (q p : Nat) (more away : Bool) : Nat := q / 2 ^ (blen q - p) + (if (more || decide (q % 2 ^ (blen q - p) ≠ 0)) && away then 1 else 0)
theorem kept_rn {q p : Nat} {more away : Bool} {r : Rat} {e : Int} (hp : p ≤ blen q) (h1 : 1 ≤ p) (hlo : dv q e ≤ r) (hhi : r < dv (q + 1 : Int) e) (hm : more = decide (r ≠ dv q e)) :
    Sz r (e + (blen q - p : Nat) + p) ∧ Rn away r (e + (blen q - p : Nat)) (kept q p more away) := by
  have hq : q ≠ 0 := by rintro rfl; rw [blen_zero] at hp; omega
  have ⟨a, b, c⟩ := blen_bd q hq
  generalize hd : blen q - p = d
  have hk0 : 0 < 2 ^ d := Nat.pow_pos (by omega)
  have hkk : q / 2 ^ d * 2 ^ d ≤ q := Nat.div_mul_le_self _ _
  have hk2 : q < (q / 2 ^ d + 1) * 2 ^ d := by rw [Nat.add_mul, Nat.one_mul, Nat.mul_comm]; exact Nat.lt_mul_div_succ q hk0 |> fun h => by rw [Nat.mul_add, Nat.mul_one] at h; exact h
  have e1 : dv (q / 2 ^ d : Nat) (e + d) ≤ dv q e := by
    rw [← dv_pow, dv_le]; exact_mod_cast hkk
  have e2 : dv (q + 1 : Int) e ≤ dv ((q / 2 ^ d : Nat) + 1 : Int) (e + d) := by
    rw [← dv_pow, dv_le]; exact_mod_cast hk2
  have hr0 : 0 ≤ r := by
    refine Rat.le_trans ?_ hlo
    rw [← dv_zero e, dv_le]; omega
  refine ⟨?_, ?_⟩
  · unfold Sz
    rw [Rat.abs_of_nonneg hr0]
    constructor
    · refine Rat.le_trans ?_ hlo
      rw [show e + (d : Int) + p - 1 = e + ((blen q - 1 : Nat) : Int) by omega, ← dv_two, dv_le]; exact_mod_cast a
    · refine rlt_le hhi ?_
      rw [show e + (d : Int) + p = e + ((blen q : Nat) : Int) by omega, ← dv_two, dv_le]; exact_mod_cast b
  · have hx : (more || decide (q % 2 ^ d ≠ 0)) = decide (r ≠ dv (q / 2 ^ d : Nat) (e + d)) := by
      rw [hm]
      have e3 : dv (q / 2 ^ d : Nat) (e + d) = dv q e ↔ q % 2 ^ d = 0 := by
        rw [← dv_pow]
        constructor
        · intro h
          have h1 := dv_inj h
          have h2 : q / 2 ^ d * 2 ^ d = q := by exact_mod_cast h1
          have := Nat.div_add_mod q (2 ^ d)
          rw [Nat.mul_comm] at this; omega
        · intro h
          have := Nat.div_add_mod q (2 ^ d)
          rw [h, Nat.add_zero, Nat.mul_comm] at this
          congr 1; exact_mod_cast this
      generalize (q / 2 ^ d : Nat) = k at e1 e3
      by_cases h : r = dv q e
      · by_cases h2 : q % 2 ^ d = 0
        · rw [h, h2, e3.2 h2]; simp
        · have : ¬ dv q e = dv k (e + d) := fun h3 => h2 (e3.1 h3.symm)
          rw [decide_eq_true h2, Bool.or_true, h, decide_eq_true this]
      · have h5 : dv q e < r := by
          rcases Rat.le_iff_lt_or_eq.1 hlo with h3 | h3
          · exact h3
          · exact absurd h3.symm h
        have : ¬ r = dv k (e + d) := fun h3 => by rw [h3] at h5; grind
        rw [decide_eq_true h, decide_eq_true this, Bool.true_or]
    unfold kept
    rw [hd, hx]
    have f1 : dv (q / 2 ^ d : Nat) (e + d) ≤ r := Rat.le_trans e1 hlo
    have f2 : r < dv ((q / 2 ^ d : Nat) + 1 : Int) (e + d) := rlt_le hhi e2
    cases away
    · simp only [Bool.and_false, Bool.false_eq_true, if_false, Rn, Nat.add_zero]
      exact ⟨f1, f2⟩
    · simp only [Bool.and_true, decide_eq_true_eq, Rn, if_true]
      by_cases h : r = dv (q / 2 ^ d : Nat) (e + d)
      · rw [if_neg (by simp [h])]
        rw [Nat.add_zero]
        exact ⟨by rw [h]; exact dv_lt.2 (by omega), by rw [h]; exact Rat.le_refl⟩
      · rw [if_pos h]
        refine ⟨?_, ?_⟩
        · rw [show (((q / 2 ^ d + 1 : Nat) : Int) - 1) = ((q / 2 ^ d : Nat) : Int) by omega]
          rcases Rat.le_iff_lt_or_eq.1 f1 with h3 | h3
          · exact h3
          · exact absurd h3.symm h
        · rw [show ((q / 2 ^ d + 1 : Nat) : Int) = ((q / 2 ^ d : Nat) : Int) + 1 by omega]
          exact Rat.le_of_lt f2
/-- Is it in range? -/
def inR (m e : Int) : Bool := decide (m = 0 ∨ (-131072 ≤ e ∧ e ≤ 131072 ∧ bl m ≤ 262144 ∧ -65536 ≤ e + bl m ∧ e + bl m ≤ 65536))
/-- Which of two numbers is the greater one. -/
def cmpd (a b : Rat) : Int := if a < b then -1 else if b < a then 1 else 0
theorem cmpd_lt {a b : Rat} (h : a < b) : cmpd a b = -1 := if_pos h
theorem cmpd_gt {a b : Rat} (h : b < a) : cmpd a b = 1 := by unfold cmpd; rw [if_neg (by grind), if_pos h]
theorem cmpd_eq {a b : Rat} (h : a = b) : cmpd a b = 0 := by unfold cmpd; rw [if_neg (by grind), if_neg (by grind)]
theorem cmpd_neg (a b : Rat) : cmpd (-a) (-b) = -cmpd a b := by
  by_cases h1 : a < b
  · rw [cmpd_lt h1, cmpd_gt (by grind)]; rfl
  · by_cases h2 : b < a
    · rw [cmpd_gt h2, cmpd_lt (by grind)]
    · rw [cmpd_eq (show a = b by grind), cmpd_eq (by grind)]; rfl
theorem cmpd_swap (a b : Rat) : cmpd b a = -cmpd a b := by
  by_cases h1 : a < b
  · rw [cmpd_lt h1, cmpd_gt h1]; rfl
  · by_cases h2 : b < a
    · rw [cmpd_gt h2, cmpd_lt h2]
    · rw [cmpd_eq (show a = b by grind), cmpd_eq (show b = a by grind)]; rfl
theorem cmpd_le {a b : Rat} : cmpd a b ≤ 0 ↔ a ≤ b := by
  by_cases h1 : a < b
  · rw [cmpd_lt h1]; exact ⟨fun _ => by grind, fun _ => by omega⟩
  · by_cases h2 : b < a
    · rw [cmpd_gt h2]; exact ⟨fun _ => by omega, fun _ => by grind⟩
    · rw [cmpd_eq (show a = b by grind)]; exact ⟨fun _ => by grind, fun _ => by omega⟩
theorem cmpd_lt' {a b : Rat} : cmpd a b < 0 ↔ a < b := by
  by_cases h1 : a < b
  · rw [cmpd_lt h1]; exact ⟨fun _ => h1, fun _ => by omega⟩
  · by_cases h2 : b < a
    · rw [cmpd_gt h2]; exact ⟨fun _ => by omega, fun _ => by grind⟩
    · rw [cmpd_eq (show a = b by grind)]; exact ⟨fun _ => by omega, fun _ => by grind⟩
theorem cmpd_zero {a b : Rat} : cmpd a b = 0 ↔ a = b := by
  by_cases h1 : a < b
  · rw [cmpd_lt h1]; exact ⟨fun _ => by omega, fun _ => by grind⟩
  · by_cases h2 : b < a
    · rw [cmpd_gt h2]; exact ⟨fun _ => by omega, fun _ => by grind⟩
    · rw [cmpd_eq (show a = b by grind)]; exact ⟨fun _ => by grind, fun _ => by omega⟩
theorem cmpd_sub (a b : Rat) : cmpd (a - b) 0 = cmpd a b := by
  by_cases h1 : a < b
  · rw [cmpd_lt h1, cmpd_lt (by grind)]
  · by_cases h2 : b < a
    · rw [cmpd_gt h2, cmpd_gt (by grind)]
    · rw [cmpd_eq (show a = b by grind), cmpd_eq (by grind)]
theorem dv_pos {m e : Int} : 0 < dv m e ↔ 0 < m := by rw [← dv_zero e, dv_lt]
theorem dv_neg0 {m e : Int} : dv m e < 0 ↔ m < 0 := by rw [← dv_zero e, dv_lt]
theorem dv_nonneg {m e : Int} : 0 ≤ dv m e ↔ 0 ≤ m := by rw [← dv_zero e, dv_le]
/-- Both at one exponent. -/
theorem cmpd_same (a b e : Int) : cmpd (dv a e) (dv b e) = if a < b then -1 else if b < a then 1 else 0 := by
  unfold cmpd; simp only [dv_lt]
/-- A number of a lesser size is below, both being above 0. -/
theorem cmpd_size {m e n f : Int} (hm : 0 < m) (hn : 0 < n) (h : e + bl m < f + bl n) : dv m e < dv n f := by
  have a := (sz_dv (m := m) (e := e) (by omega)).2
  have b := (sz_dv (m := n) (e := f) (by omega)).1
  rw [Rat.abs_of_nonneg (Rat.le_of_lt (dv_pos.2 hm))] at a
  rw [Rat.abs_of_nonneg (Rat.le_of_lt (dv_pos.2 hn))] at b
  have c := zpow_le.2 (show e + (bl m : Int) ≤ f + bl n - 1 by omega)
  grind
/-- Their M's, brought to the lesser exponent. -/
def upto (m e g : Int) : Int := m * 2 ^ (e - g).toNat
theorem dv_upto {m e g : Int} (h : g ≤ e) : dv (upto m e g) g = dv m e := (dv_down h).symm
theorem sum_upto (m e n f : Int) : dv (upto m e (min e f) + upto n f (min e f)) (min e f) = dv m e + dv n f := by
  rw [← dv_add, dv_upto (by omega), dv_upto (by omega)]
/-- The number of a value, if it has one. -/
def IsD (r : Rat) (M E : Int) : Prop := Nf M E ∧ dv M E = r
theorem IsD.uniq {r : Rat} {M E N F : Int} (h : IsD r M E) (h' : IsD r N F) : M = N ∧ E = F := nf_inj h.1 h'.1 (by rw [h.2, h'.2])
theorem isD_n (m e : Int) : IsD (dv m e) (nm m) (nx m e) := ⟨nf_n m e, dv_n m e⟩
theorem IsD.of {m e M E : Int} (h : IsD (dv m e) M E) : nm m = M ∧ nx m e = E := nf_of h.1 h.2
theorem bl_zero : bl 0 = 0 := blen_zero
theorem bl_nm (m : Int) (e : Int) : bl (nm m) + nx m e = bl m + (if m = 0 then 0 else e) := by
  by_cases h : m = 0
  · subst h; rw [nm_zero, nx_zero]; simp
  · have ⟨a, b, c⟩ := nm_back h
    have h1 : nm m ≠ 0 := by intro h2; rw [h2] at b; omega
    have : m.natAbs = (nm m).natAbs * 2 ^ tz m.natAbs := by
      have h9 := congrArg Int.natAbs a
      rw [Int.natAbs_mul, Int.natAbs_pow] at h9; exact h9
    have h2 := blen_up (n := (nm m).natAbs) (by omega) (tz m.natAbs)
    rw [← this] at h2
    unfold bl nx; rw [if_neg h, if_neg h, h2]; omega
/-- M times 2^E is the root of x, rounded to p bits. -/
def RsOf (x : Rat) (p : Nat) (up : Bool) (M E : Int) : Prop := Nf M E ∧ ((x = 0 ∧ M = 0) ∨ ∃ s t : Int, (2 ^ (p - 1) : Int) ≤ t ∧ t < 2 ^ p ∧ dv t s * dv t s ≤ x ∧ x < dv (t + 1) s * dv (t + 1) s ∧ dv M E = dv (t + (if up && decide (dv t s * dv t s ≠ x) then 1 else 0)) s)
theorem rsq_le {a b : Rat} (h0 : 0 ≤ a) (h : a ≤ b) : a * a ≤ b * b := by
  have h1 : a * a ≤ a * b := Rat.mul_le_mul_of_nonneg_left h h0
  have h2 : a * b ≤ b * b := Rat.mul_le_mul_of_nonneg_right h (Rat.le_trans h0 h)
  exact Rat.le_trans h1 h2
theorem rsq_lt {a b : Rat} (h0 : 0 ≤ b) (h : a * a < b * b) : a < b := by
  rcases (Rat.le_total : b ≤ a ∨ a ≤ b) with h1 | h1
  · have := rsq_le h0 h1; grind
  · rcases Rat.le_iff_lt_or_eq.1 h1 with h2 | h2
    · exact h2
    · rw [h2] at h; grind
theorem RsOf.uniq {x : Rat} {p : Nat} {up : Bool} {M E N F : Int} (hp : 1 ≤ p) (h : RsOf x p up M E) (h' : RsOf x p up N F) : M = N ∧ E = F := by
  obtain ⟨n1, h⟩ := h
  obtain ⟨n2, h'⟩ := h'
  refine nf_inj n1 n2 ?_
  have pp : (0 : Int) < 2 ^ (p - 1) := Int.pow_pos (by omega)
  have far : ∀ {s t s' t' : Int}, (2 ^ (p - 1) : Int) ≤ t → t < 2 ^ p → x < dv (t + 1) s * dv (t + 1) s → (2 ^ (p - 1) : Int) ≤ t' → dv t' s' * dv t' s' ≤ x → ¬ s < s' := by
    intro s t s' t' h1 h2 h3 h4 h5 hlt
    have a1 : dv (t + 1) s ≤ dv (2 ^ p) s := dv_le.2 (by omega)
    have a2 : dv (2 ^ p : Int) s ≤ dv (2 ^ (p - 1) : Int) s' := by rw [dv_two, dv_two, zpow_le]; omega
    have a3 : dv (2 ^ (p - 1) : Int) s' ≤ dv t' s' := dv_le.2 h4
    have := rsq_le (dv_nonneg.2 (by omega)) (Rat.le_trans a1 (Rat.le_trans a2 a3))
    grind
  have pos0 : ∀ {s t : Int}, (2 ^ (p - 1) : Int) ≤ t → dv t s * dv t s ≤ x → x ≠ 0 := by
    intro s t h1 h2 h0
    have : 0 < dv t s := dv_pos.2 (by omega)
    have := Rat.mul_pos this this
    grind
  rcases h with ⟨h0, hm⟩ | ⟨s, t, a1, a2, a3, a4, a5⟩
  · rcases h' with ⟨_, hn⟩ | ⟨s', t', b1, b2, b3, b4, b5⟩
    · rw [hm, hn, dv_zero, dv_zero]
    · exact absurd h0 (pos0 b1 b3)
  · rcases h' with ⟨h0, _⟩ | ⟨s', t', b1, b2, b3, b4, b5⟩
    · exact absurd h0 (pos0 a1 a3)
    · have c1 := far a1 a2 a4 b1 b3
      have c2 := far b1 b2 b4 a1 a3
      obtain rfl : s = s' := by omega
      have d1 := dv_lt.1 (rsq_lt (dv_nonneg.2 (by omega)) (rle_lt a3 b4))
      have d2 := dv_lt.1 (rsq_lt (dv_nonneg.2 (by omega)) (rle_lt b3 a4))
      obtain rfl : t = t' := by omega
      rw [a5, b5]
/-- The root of a whole number, times a power of 2. -/
theorem kept_rs {q p : Nat} {more up : Bool} {x : Rat} {e : Int} (hp : p ≤ blen q) (h1 : 1 ≤ p) (hlo : dv q e * dv q e ≤ x) (hhi : x < dv (q + 1 : Int) e * dv (q + 1 : Int) e) (hm : more = decide (x ≠ dv q e * dv q e)) {M E : Int} (hn : Nf M E) (hv : dv M E = dv (kept q p more up : Nat) (e + (blen q - p : Nat))) :
    RsOf x p up M E := by
  have hq : q ≠ 0 := by rintro rfl; rw [blen_zero] at hp; omega
  have ⟨a, b, c⟩ := blen_bd q hq
  generalize hd : blen q - p = d at hv
  have hk0 : 0 < 2 ^ d := Nat.pow_pos (by omega)
  have hkk : q / 2 ^ d * 2 ^ d ≤ q := Nat.div_mul_le_self _ _
  have hk2 : q < (q / 2 ^ d + 1) * 2 ^ d := by rw [Nat.add_mul, Nat.one_mul, Nat.mul_comm]; exact Nat.lt_mul_div_succ q hk0 |> fun h => by rw [Nat.mul_add, Nat.mul_one] at h; exact h
  have e1 : dv (q / 2 ^ d : Nat) (e + d) ≤ dv q e := by
    rw [← dv_pow, dv_le]; exact_mod_cast hkk
  have e2 : dv (q + 1 : Int) e ≤ dv ((q / 2 ^ d : Nat) + 1 : Int) (e + d) := by
    rw [← dv_pow, dv_le]; exact_mod_cast hk2
  have e3 : dv (q / 2 ^ d : Nat) (e + d) = dv q e ↔ q % 2 ^ d = 0 := by
    rw [← dv_pow]
    constructor
    · intro h
      have h1 := dv_inj h
      have h2 : q / 2 ^ d * 2 ^ d = q := by exact_mod_cast h1
      have := Nat.div_add_mod q (2 ^ d)
      rw [Nat.mul_comm] at this; omega
    · intro h
      have := Nat.div_add_mod q (2 ^ d)
      rw [h, Nat.add_zero, Nat.mul_comm] at this
      congr 1; exact_mod_cast this
  have k1 : 2 ^ (p - 1) ≤ q / 2 ^ d := by
    rw [Nat.le_div_iff_mul_le hk0, ← Nat.pow_add, show p - 1 + d = blen q - 1 by omega]; exact a
  have k2 : q / 2 ^ d < 2 ^ p := by
    rw [Nat.div_lt_iff_lt_mul hk0, ← Nat.pow_add, show p + d = blen q by omega]; exact b
  unfold kept at hv
  rw [hd] at hv
  generalize (q / 2 ^ d : Nat) = k at *
  have n0 : (0 : Rat) ≤ dv k (e + d) := dv_nonneg.2 (by omega)
  have n1 : (0 : Rat) ≤ dv q e := dv_nonneg.2 (by omega)
  have n2 : (0 : Rat) ≤ dv (q + 1 : Int) e := dv_nonneg.2 (by omega)
  have hx : (more || decide (q % 2 ^ d ≠ 0)) = decide (dv k (e + d) * dv k (e + d) ≠ x) := by
    rw [hm]
    by_cases h : x = dv q e * dv q e
    · by_cases h2 : q % 2 ^ d = 0
      · rw [h, h2, e3.2 h2]; simp
      · have h3 : ¬ dv k (e + d) * dv k (e + d) = x := fun h4 => by
          have h5 : dv k (e + d) < dv q e := by
            rcases Rat.le_iff_lt_or_eq.1 e1 with h6 | h6
            · exact h6
            · exact absurd (e3.1 h6) h2
          have h7 : dv k (e + d) * dv q e < dv q e * dv q e := Rat.mul_lt_mul_of_pos_right h5 (rle_lt n0 h5)
          have h8 : dv k (e + d) * dv k (e + d) ≤ dv k (e + d) * dv q e := Rat.mul_le_mul_of_nonneg_left e1 n0
          grind
        rw [decide_eq_true h2, Bool.or_true, decide_eq_true h3]
    · have h3 : ¬ dv k (e + d) * dv k (e + d) = x := fun h4 => by
        have := rsq_le n0 e1
        grind
      rw [decide_eq_true h, decide_eq_true h3, Bool.true_or]
  refine ⟨hn, .inr ⟨e + d, k, by exact_mod_cast k1, by exact_mod_cast k2, Rat.le_trans (rsq_le n0 e1) hlo, rlt_le hhi (rsq_le n2 e2), ?_⟩⟩
  rw [hv, hx, Bool.and_comm]
  congr 1
  cases up <;> simp
  split <;> simp_all
/-- What is rounded has at most p bits. -/
theorem bl_dv {M E t s : Int} {p : Nat} (h1 : 1 ≤ p) (hn : Nf M E) (hv : dv M E = dv t s) (ht : t.natAbs ≤ 2 ^ p) : bl M ≤ p := by
  have ⟨a, _⟩ := nf_of hn hv
  by_cases h0 : t = 0
  · subst h0; rw [nm_zero] at a; rw [← a, bl_zero]; omega
  · have ⟨b, c, d⟩ := nm_back h0
    rw [← a]
    unfold bl
    rcases Nat.lt_or_ge t.natAbs (2 ^ p) with h | h
    · exact blen_le (Nat.lt_of_le_of_lt (by rw [d]; exact Nat.div_le_self _ _) h)
    · have e : t.natAbs = 2 ^ p := by omega
      have f : tz t.natAbs = p := tz_uniq (q := 1) rfl (by omega)
      rw [d, f, e, Nat.div_self (Nat.pow_pos (by omega))]
      exact blen_le (by have := (Nat.pow_le_pow_iff_right (a := 2) (by omega)).2 h1; omega)
theorem rn_abs {up : Bool} {r : Rat} {s t : Int} {p : Nat} (hs : Sz r (s + p)) (h : Rn up r s t) : t.natAbs ≤ 2 ^ p ∧ (1 ≤ p → 2 ^ (p - 1) ≤ t.natAbs) := by
  have pp : (0 : Int) < 2 ^ p := Int.pow_pos (by omega)
  have hi : r.abs < dv (2 ^ p : Int) s := by rw [dv_two]; exact hs.2
  have lo : 1 ≤ p → dv (2 ^ (p - 1) : Int) s ≤ r.abs := fun h1 => by rw [dv_two, show s + ((p - 1 : Nat) : Int) = s + p - 1 by omega]; exact hs.1
  have key : ∀ {up : Bool} {r : Rat} {t : Int}, 0 ≤ r → r.abs < dv (2 ^ p : Int) s → (1 ≤ p → dv (2 ^ (p - 1) : Int) s ≤ r.abs) → Rn up r s t → 0 ≤ t ∧ t ≤ 2 ^ p ∧ (1 ≤ p → (2 ^ (p - 1) : Int) ≤ t) := by
    intro up r t h0 hi lo h
    rw [Rat.abs_of_nonneg h0] at hi lo
    cases up
    · simp only [Rn, Bool.false_eq_true, if_false] at h
      have := dv_pos.1 (rle_lt h0 h.2)
      have b := dv_lt.1 (rle_lt h.1 hi)
      exact ⟨by omega, by omega, fun h1 => by have := dv_lt.1 (rle_lt (lo h1) h.2); omega⟩
    · simp only [Rn, if_true] at h
      have a := dv_nonneg.1 (Rat.le_trans h0 h.2)
      have b := dv_lt.1 (rlt_le h.1 (Rat.le_of_lt hi))
      exact ⟨a, by omega, fun h1 => dv_le.1 (Rat.le_trans (lo h1) h.2)⟩
  rcases (Rat.le_total : 0 ≤ r ∨ r ≤ 0) with h0 | h0
  · obtain ⟨a, b, c⟩ := key h0 hi lo h
    refine ⟨?_, fun h1 => ?_⟩
    · have : ((t.natAbs : Nat) : Int) ≤ ((2 ^ p : Nat) : Int) := by push_cast; omega
      exact_mod_cast this
    · have : ((2 ^ (p - 1) : Nat) : Int) ≤ ((t.natAbs : Nat) : Int) := by have := c h1; push_cast; omega
      exact_mod_cast this
  · obtain ⟨a, b, c⟩ := key (r := -r) (t := -t) (by grind) (by rw [Rat.abs_neg]; exact hi) (fun h1 => by rw [Rat.abs_neg]; exact lo h1) h.neg
    refine ⟨?_, fun h1 => ?_⟩
    · have : ((t.natAbs : Nat) : Int) ≤ ((2 ^ p : Nat) : Int) := by push_cast; omega
      exact_mod_cast this
    · have : ((2 ^ (p - 1) : Nat) : Int) ≤ ((t.natAbs : Nat) : Int) := by have := c h1; push_cast; omega
      exact_mod_cast this
theorem RdOf.bits {r : Rat} {p : Nat} {up : Bool} {M E : Int} (h1 : 1 ≤ p) (h : RdOf r p up M E) : bl M ≤ p := by
  obtain ⟨n, ⟨_, h0⟩ | ⟨s, t, hs, ht, hv⟩⟩ := h
  · rw [h0, bl_zero]; omega
  · exact bl_dv h1 n hv (rn_abs hs ht).1
theorem RdOf.le {r : Rat} {p : Nat} {M E : Int} (h : RdOf r p false M E) : dv M E ≤ r := by
  obtain ⟨n, ⟨h0, h1⟩ | ⟨s, t, hs, ht, hv⟩⟩ := h
  · rw [h0, h1, dv_zero]; exact Rat.le_refl
  · rw [hv]; simp only [Rn, Bool.false_eq_true, if_false] at ht; exact ht.1
theorem RdOf.ge {r : Rat} {p : Nat} {M E : Int} (h : RdOf r p true M E) : r ≤ dv M E := by
  obtain ⟨n, ⟨h0, h1⟩ | ⟨s, t, hs, ht, hv⟩⟩ := h
  · rw [h0, h1, dv_zero]; exact Rat.le_refl
  · rw [hv]; simp only [Rn, if_true] at ht; exact ht.2
theorem rn_step {up : Bool} {r : Rat} {s t s' t' : Int} (hle : s ≤ s') (h : Rn up r s t) (h' : Rn up (dv t s) s' t') : Rn up r s' t' := by
  cases up
  · simp only [Rn, Bool.false_eq_true, if_false] at h h' ⊢
    refine ⟨Rat.le_trans h'.1 h.1, ?_⟩
    have a := h'.2
    rw [dv_down (m := t' + 1) hle] at a ⊢
    exact rlt_le h.2 (dv_le.2 (by have := dv_lt.1 a; omega))
  · simp only [Rn, if_true] at h h' ⊢
    refine ⟨?_, Rat.le_trans h.2 h'.2⟩
    have a := h'.1
    rw [dv_down (m := t' - 1) hle] at a ⊢
    exact rle_lt (dv_le.2 (by have := dv_lt.1 a; omega)) h.1
/-- Rounded to fewer bits, and to fewer yet: as at once. -/
theorem RdOf.steps {r : Rat} {p q : Nat} {up : Bool} {M E N F : Int} (h1 : 1 ≤ q) (hq : q ≤ p) (h : RdOf r p up M E) (h' : RdOf (dv M E) q up N F) : RdOf r q up N F := by
  obtain ⟨n, ⟨h0, hm⟩ | ⟨s, t, hs, ht, hv⟩⟩ := h
  · obtain ⟨n', h'⟩ := h'
    refine ⟨n', .inl ⟨h0, ?_⟩⟩
    rcases h' with ⟨_, h⟩ | ⟨s', t', hs', _⟩
    · exact h
    · rw [hm, dv_zero] at hs'; exact absurd rfl hs'.ne
  · have ⟨c1, c2⟩ := rn_abs hs ht
    have c2 := c2 (by omega)
    have t0 : t ≠ 0 := by have := Nat.pow_pos (n := p - 1) (show 0 < 2 by omega); omega
    rcases Nat.lt_or_ge t.natAbs (2 ^ p) with hlt | hge
    · have hb : bl t = p := by have := blen_uniq c2 (by rw [show p - 1 + 1 = p by omega]; exact hlt); unfold bl; omega
      have hz := sz_dv (m := t) (e := s) t0
      rw [hb] at hz
      obtain ⟨n', ⟨h0, _⟩ | ⟨s', t', hs', ht', hv'⟩⟩ := h'
      · rw [hv] at h0; exact absurd (dv_eq0.1 h0) t0
      · rw [hv] at hs' ht'
        have e := hs'.uniq hz
        refine ⟨n', .inr ⟨s', t', ?_, rn_step (by omega) ht ht', hv'⟩⟩
        rw [e]; exact hs
    · have e : t.natAbs = 2 ^ p := by omega
      have hb := bl_dv (p := 1) (by omega) n (t := if 0 < t then 1 else -1) (s := s + p) (by
        rw [hv]
        split
        · rw [← dv_pow, Int.one_mul]; congr 1; have : (t.natAbs : Int) = ((2 ^ p : Nat) : Int) := by rw [e]
          push_cast at this; omega
        · rw [← dv_pow]; congr 1; have : (t.natAbs : Int) = ((2 ^ p : Nat) : Int) := by rw [e]
          push_cast at this; omega) (by split <;> decide)
      have hself := rd_self (up := up) n (Nat.le_trans hb h1)
      obtain ⟨rfl, rfl⟩ := h'.uniq hself
      refine ⟨n, .inr ⟨s + p - q, if 0 < t then 2 ^ q else -2 ^ q, by rw [show s + (p : Int) - q + q = s + p by omega]; exact hs, ?_, ?_⟩⟩
      all_goals
        have ev : dv t s = dv (if 0 < t then 2 ^ q else -2 ^ q) (s + p - q) := by
          have : (t.natAbs : Int) = ((2 ^ p : Nat) : Int) := by rw [e]
          push_cast at this
          split
          · rw [show t = 2 ^ p by omega, dv_two, dv_two]; congr 1; omega
          · rw [show t = -2 ^ p by omega, dv_neg, dv_neg, dv_two, dv_two]; congr 2; omega
      · exact rn_step (by omega) ht (by rw [ev]; exact Rn.exact)
      · rw [hv, ev]
end Go.Proofs.YtfhdhldgflbpjaaDoor
end

section
/-
  dyad's small parts: what goes wrong (tell, fails, precision), isZero, sign; TrailingZeros32.
-/
namespace Go.Proofs.YtfhdhldgflbpjaaDoor
open Go.RowKit
set_option linter.unusedSimpArgs false
set_option linter.unusedVariables false
def tab32 : List Int := [0, 1, 28, 2, 29, 14, 24, 3, 30, 22, 20, 15, 25, 17, 4, 8, 31, 27, 13, 23, 21, 19, 16, 7, 26, 12, 18, 6, 11, 5, 10, 9]
/-- The table of bits.TrailingZeros32. -/
def T32 (w : World) : Prop := Lib.TabIs Tryd.prog w "math/bits.deBruijn32tab" .u8 tab32
theorem t32_below {w w' : World} (h : T32 w) (hb : Below w.heap.size w w') : T32 w' := Lib.tabBelow_of_tabIs h w' hb
theorem g32 : Tryd.prog.globalNamed "math/bits.deBruijn32tab" = some 0 := by kernel_rfl
theorem t32_cell {w : World} (h : T32 w) (i : Nat) (hi : i < 32) : w.cell? ⟨0, i, none⟩ = some (.int .u8 (tab32.getD i 0)) := Lib.TabIs.cell h g32 i hi
theorem and_u32 (a b : Nat) (ha : a < 4294967296) (hb : b < 4294967296) : bits .and .u32 (a : Int) (b : Int) = ((a &&& b : Nat) : Int) := by
  have hx : a &&& b < 2 ^ 32 := Nat.and_lt_two_pow _ (by omega)
  have h1 : (BitVec.ofInt 32 (a : Int)).toNat = a := by
    rw [BitVec.ofInt_natCast, BitVec.toNat_ofNat]; exact Nat.mod_eq_of_lt (by omega)
  have h2 : (BitVec.ofInt 32 (b : Int)).toNat = b := by
    rw [BitVec.ofInt_natCast, BitVec.toNat_ofNat]; exact Nat.mod_eq_of_lt (by omega)
  show IntKind.u32.wrap ((BitVec.ofInt 32 (a : Int) &&& BitVec.ofInt 32 (b : Int)).toNat : Int) = _
  rw [BitVec.toNat_and, h1, h2, IntWalk.u32_in _ ⟨by omega, by omega⟩]
theorem tz32_key (x a : Nat) (hx : x < 4294967296) (hx0 : x ≠ 0) (hlow : x &&& (4294967296 - x) = a) :
    bits BinOp.and IntKind.u32 (x : Int) (-(x : Int) % 4294967296) * 125613361 % 4294967296 / 134217728 = ((a * 125613361 % 4294967296 / 134217728 : Nat) : Int) := by
  have e1 : -(x : Int) % 4294967296 = ((4294967296 - x : Nat) : Int) := by omega
  rw [e1, and_u32 x _ hx (by omega), hlow]
  omega
theorem tab32_at : ∀ k, k < 32 → 2 ^ k * 125613361 % 4294967296 / 134217728 < 32 ∧ tab32.getD (2 ^ k * 125613361 % 4294967296 / 134217728) 0 = ((k : Nat) : Int) := by decide +kernel
theorem ctz_tz (x : Nat) (h0 : x ≠ 0) (h : x < 4294967296) : Lib.ctz 32 x = tz x := by
  obtain ⟨m, hm, hk⟩ := Lib.ctzFrom_spec 32 x (by omega) h
  have e : Lib.ctz 32 x = Lib.ctzFrom 32 x := by simp [Lib.ctz, h0]
  rw [e]
  exact (tz_uniq (q := 2 * m + 1) (by omega) (by rw [Nat.mul_comm]; exact hm)).symm
set_option maxHeartbeats 1000000 in
set_option maxRecDepth 100000 in
theorem tz32_core (x k idx : Nat) (w : World) (hx0 : ((x : Int) == 0) = false)
    (key : bits BinOp.and IntKind.u32 (x : Int) (-(x : Int) % 4294967296) * 125613361 % 4294967296 / 134217728 = (idx : Int))
    (hi : idx < 32) (hk : k < 32) (hcell : w.cell? ⟨0, idx, none⟩ = some (.int .u8 k)) :
    Calls Tryd.prog 76 #[.int .u32 x] w fun e w' => e = .returned (.int .i64 k) ∧ w = w' := by
  go_enter Tryd.func76, Tryd.ntmps76
  go_wp2_with (simp only [key])
  go_ret
  exact ⟨rfl, rfl⟩
theorem tz32_any (x : Nat) (h0 : x ≠ 0) (h : x < 4294967296) (w : World) (hT : T32 w) :
    Calls Tryd.prog 76 #[.int .u32 x] w fun e w' => e = .returned (.int .i64 (tz x : Nat)) ∧ w = w' := by
  obtain ⟨hlow, hk⟩ := Lib.lowest_bit 32 x h0 h
  obtain ⟨hi, htab⟩ := tab32_at _ hk
  have hcell := t32_cell hT _ hi
  rw [htab] at hcell
  rw [← ctz_tz x h0 h]
  exact tz32_core x _ _ w (by simp; omega) (tz32_key x _ h h0 hlow) hi hk hcell
set_option maxHeartbeats 1000000 in
set_option maxRecDepth 100000 in
theorem tell_no (g : Nat) (k er : Int) (b : Bool) (w : World) (hc : w.cell? ⟨g, 0, none⟩ = some (.int .i64 k)) (hn : b = false ∨ (k == 0) = false) :
    Calls Tryd.prog 39 #[.pointer (some ⟨g, 0, none⟩), .bool b, .int .i64 er] w fun e w' => e = .returned (.tuple #[]) ∧ w = w' := by
  cases b
  · clear hn
    go_enter Tryd.func39, Tryd.ntmps39
    go_wp2
    go_end0
    exact ⟨rfl, rfl⟩
  · have hk : (k == 0) = false := by simpa using hn
    clear hn
    go_enter Tryd.func39, Tryd.ntmps39
    go_wp2
    go_end0
    exact ⟨rfl, rfl⟩
set_option maxHeartbeats 1000000 in
set_option maxRecDepth 100000 in
theorem tell_yes (g : Nat) (er : Int) (w : World) (hc : w.cell? ⟨g, 0, none⟩ = some (.int .i64 0)) (hf : w.frozen? ⟨g, 0, none⟩ = false) :
    Calls Tryd.prog 39 #[.pointer (some ⟨g, 0, none⟩), .bool true, .int .i64 er] w fun e w' => e = .returned (.tuple #[]) ∧ w.setCell ⟨g, 0, none⟩ (.int .i64 er) = w' := by
  go_enter Tryd.func39, Tryd.ntmps39
  go_wp2
  go_end0
  exact ⟨rfl, rfl⟩
set_option maxHeartbeats 1000000 in
set_option maxRecDepth 100000 in
theorem fails_any (g : Nat) (k : Int) (q : Bool) (w : World) (hc : w.cell? ⟨g, 0, none⟩ = some (.int .i64 k)) (hq : (k != 0) = q) :
    Calls Tryd.prog 43 #[.pointer (some ⟨g, 0, none⟩)] w fun e w' => e = .returned (.bool q) ∧ w = w' := by
  go_enter Tryd.func43, Tryd.ntmps43
  go_wp2
  go_ret
  exact ⟨rfl, rfl⟩
/-- A precision that may be. -/
def precB (p : Int) : Bool := decide (2 ≤ p) && decide (p ≤ 400)
set_option maxRecDepth 100000 in
theorem isZero_any (A : Option Addr) (n c : Nat) (s : Bool) (x : Int) (w : World) (q : Bool) (hq : ((n : Int) == 0) = q) :
    Calls Tryd.prog 48 #[.agg #[.bool s, .slice A n c, .int .i64 x]] w fun e w' => e = .returned (.bool q) ∧ Below w.heap.size w w' := by
  go_enter Tryd.func48, Tryd.ntmps48
  go_wp2
  go_ret
  exact ⟨rfl, below1 _ _⟩
set_option maxHeartbeats 1000000 in
set_option maxRecDepth 100000 in
theorem sign_d (A : Option Addr) (n c : Nat) (t : Bool) (x q : Int) (w : World) (h0 : n = 0 → q = 0) (h1 : n ≠ 0 → q = if t then -1 else 1) :
    Calls Tryd.prog 36 #[.agg #[.bool t, .slice A n c, .int .i64 x]] w fun e w' => e = .returned (.int .i64 q) ∧ Below w.heap.size w w' := by
  by_cases hn : n = 0
  · obtain rfl := h0 hn
    have hq : ((n : Int) == 0) = true := by rw [hn]; rfl
    clear h0 h1 hn
    have HQ := Lib.hid hq
    clear hq
    go_enter Tryd.func36, Tryd.ntmps36
    go_wp2_with fail
    refine (isZero_any A n c t x _ true HQ.out).mono ?_
    rintro e w1 ⟨rfl, hb⟩
    have HB := Lib.hid ((below1 w _).trans (hb.mono (by simp)))
    obtain ⟨hc, hf⟩ := bcell hb
    clear hb
    go_wp2
    go_ret
    exact ⟨rfl, HB.out⟩
  · obtain rfl := h1 hn
    have hq : ((n : Int) == 0) = false := by simp [hn]
    have HQ := Lib.hid hq
    clear h0 h1 hn hq
    cases t
    all_goals
      go_enter Tryd.func36, Tryd.ntmps36
      go_wp2_with fail
      refine (isZero_any A n c _ x _ false HQ.out).mono ?_
      rintro e w1 ⟨rfl, hb⟩
      have HB := Lib.hid ((below1 w _).trans (hb.mono (by simp)))
      obtain ⟨hc, hf⟩ := bcell hb
      clear hb
      go_wp2
      go_ret
      exact ⟨rfl, HB.out⟩
end Go.Proofs.YtfhdhldgflbpjaaDoor
end

section
/-
  dyad.Right, inRange; slices.Clip.
-/
namespace Go.Proofs.YtfhdhldgflbpjaaDoor
open Go.RowKit
set_option linter.unusedSimpArgs false
set_option linter.unusedVariables false
/-- Is it right: M right and odd, E in its range; or both 0? -/
def dyR (s : Bool) (xs : List Nat) (e : Int) : Bool :=
  if xs.length = 0 then !s && (e == 0) else rightB s xs && decide (xs[0]?.getD 0 % 2 = 1) && decide (-131072 ≤ e) && decide (e ≤ 131072)
theorem odd_bit (d : Nat) (hd : d < 4294967296) (q : Bool) (hq : decide (d % 2 = 1) = q) : (bits BinOp.and IntKind.u32 (d : Int) 1 == 1) = q := by
  have := and_u32 d 1 hd (by omega)
  rw [show ((1 : Nat) : Int) = 1 from rfl] at this
  rw [this, Nat.and_one_is_mod, ← hq, Bool.eq_iff_iff]
  simp only [beq_iff_eq, decide_eq_true_eq]
  omega
set_option maxHeartbeats 2000000 in
set_option maxRecDepth 100000 in
theorem dright_any (A : Option Addr) (c : Nat) (s : Bool) (xs : List Nat) (x : Int) (w : World) (h : Dg w A c xs) (q : Bool) (hq : dyR s xs x = q) (hl : xs.length ≤ 9223372036854775807) :
    Calls Tryd.prog 33 #[.agg #[.bool s, .slice A xs.length c, .int .i64 x]] w fun e w' => e = .returned (.bool q) ∧ Below w.heap.size w w' := by
  by_cases h0 : xs.length = 0
  · have t0 : ((xs.length : Int) == 0) = true := by rw [h0]; rfl
    have hq2 : (!s && (x == 0)) = q := by rw [← hq]; unfold dyR; rw [if_pos h0]
    have HQ := Lib.hid hq2
    clear h h0 hq hq2
    cases s
    · have HQ2 := Lib.hid (show (x == 0) = q by simpa using HQ.out)
      go_enter Tryd.func33, Tryd.ntmps33
      go_wp2
      go_ret
      exact ⟨by rw [← HQ2.out]; rfl, below1 _ _⟩
    · go_enter Tryd.func33, Tryd.ntmps33
      go_wp2
      go_ret
      exact ⟨by rw [← HQ.out]; rfl, below1 _ _⟩
  · have t0 : ((xs.length : Int) == 0) = false := beq_eq_false_iff_ne.2 (by omega)
    obtain ⟨r, hr⟩ : ∃ r, rightB s xs = r := ⟨_, rfl⟩
    obtain ⟨b, off, hA, hb, hc⟩ := h.2.2 (by omega)
    have hx := hc 0 (by omega)
    rw [Nat.add_zero] at hx
    have hp : 0 < xs.length := by omega
    have hq2 : (r && decide (xs[0]?.getD 0 % 2 = 1) && decide (-131072 ≤ x) && decide (x ≤ 131072)) = q := by rw [← hq, ← hr]; unfold dyR; rw [if_neg h0]
    obtain ⟨o, ho⟩ : ∃ o, decide (xs[0]?.getD 0 % 2 = 1) = o := ⟨_, rfl⟩
    have hbit := odd_bit _ (getD_lt h.2.1 0) o ho
    rw [ho] at hq2
    have RA := Lib.hid (fun W (hW : Dg W A c xs) => right_any A c s xs W hW r hr hl)
    have H := Lib.hid h
    generalize xs[0]?.getD 0 = d at *
    have HQ := Lib.hid hq2
    have hc1 : 0 < c := by have := h.1; omega
    clear h h0 hq hc hq2 ho hr
    subst hA
    cases r
    · obtain rfl : q = false := by rw [← HQ.out]; rfl
      clear hbit
      go_enter Tryd.func33, Tryd.ntmps33
      go_wp2_with fail
      refine (RA.out _ (H.out.below (below1 _ _))).mono ?_
      rintro e w1 ⟨rfl, hb1⟩
      have HB := Lib.hid ((below1 w _).trans (hb1.mono (by simp)))
      obtain ⟨hc2, hf2⟩ := bcell hb1
      clear hb1
      go_wp2
      go_ret
      exact ⟨rfl, HB.out⟩
    · cases o
      · obtain rfl : q = false := by rw [← HQ.out]; rfl
        go_enter Tryd.func33, Tryd.ntmps33
        go_wp2_with fail
        refine (RA.out _ (H.out.below (below1 _ _))).mono ?_
        rintro e w1 ⟨rfl, hb1⟩
        have HB := Lib.hid ((below1 w _).trans (hb1.mono (by simp)))
        obtain ⟨hc2, hf2⟩ := bcell hb1
        clear hb1
        go_wp2
        go_ret
        exact ⟨rfl, HB.out⟩
      · by_cases h1 : -131072 ≤ x
        · have d1 : decide (-131072 ≤ x) = true := decide_eq_true h1
          have HQ2 := Lib.hid (show decide (x ≤ 131072) = q by rw [← HQ.out, d1]; rfl)
          clear h1
          go_enter Tryd.func33, Tryd.ntmps33
          go_wp2_with fail
          refine (RA.out _ (H.out.below (below1 _ _))).mono ?_
          rintro e w1 ⟨rfl, hb1⟩
          have HB := Lib.hid ((below1 w _).trans (hb1.mono (by simp)))
          obtain ⟨hc2, hf2⟩ := bcell hb1
          clear hb1
          go_wp2
          go_ret
          exact ⟨by rw [← HQ2.out]; rfl, HB.out⟩
        · have d1 : decide (-131072 ≤ x) = false := decide_eq_false h1
          obtain rfl : q = false := by rw [← HQ.out, d1]; rfl
          clear h1
          go_enter Tryd.func33, Tryd.ntmps33
          go_wp2_with fail
          refine (RA.out _ (H.out.below (below1 _ _))).mono ?_
          rintro e w1 ⟨rfl, hb1⟩
          have HB := Lib.hid ((below1 w _).trans (hb1.mono (by simp)))
          obtain ⟨hc2, hf2⟩ := bcell hb1
          clear hb1
          go_wp2
          go_ret
          exact ⟨rfl, HB.out⟩
set_option maxHeartbeats 1000000 in
set_option maxRecDepth 100000 in
theorem clip_any (A : Option Addr) (n c : Nat) (hn : n ≤ c) (w : World) :
    Calls Tryd.prog 66 #[.slice A n c] w fun e w' => e = .returned (.slice A n n) ∧ w = w' := by
  go_enter Tryd.func66, Tryd.ntmps66
  go_wp2
  go_ret
  exact ⟨rfl, rfl⟩
theorem inR_eq {m e z : Int} (h0 : m ≠ 0) (hz : (blen m.natAbs : Int) = z) : inR m e = (decide (-131072 ≤ e) && (decide (e ≤ 131072) && (decide (z ≤ 262144) && (decide (-65536 ≤ e + z) && decide (e + z ≤ 65536))))) := by
  unfold inR bl
  rw [Bool.eq_iff_iff]
  simp only [decide_eq_true_eq, Bool.and_eq_true]
  subst hz
  constructor
  · rintro (h | ⟨a, b, c, d, f⟩)
    · exact absurd h h0
    · exact ⟨a, b, by omega, d, f⟩
  · rintro ⟨a, b, c, d, f⟩
    exact .inr ⟨a, b, by omega, d, f⟩
set_option maxHeartbeats 4000000 in
set_option maxRecDepth 100000 in
theorem inRange_any (A : Option Addr) (c : Nat) (s : Bool) (m x : Int) (w : World) (h : Dg w A c (digs m.natAbs)) (q : Bool) (hq : inR m x = q) (hl : (digs m.natAbs).length ≤ 1000000) :
    Calls Tryd.prog 40 #[.agg #[.bool s, .slice A (digs m.natAbs).length c, .int .i64 x]] w fun e w' => e = .returned (.bool q) ∧ Below w.heap.size w w' := by
  by_cases h0 : m = 0
  · obtain rfl : q = true := by rw [← hq, h0]; rfl
    have HZ := Lib.hid (fun W => isZero_any A (digs m.natAbs).length c s x W true (by rw [h0]; show (((digs 0).length : Nat) : Int) == 0; rw [digs_zero]; rfl))
    clear h0 hq h
    go_enter Tryd.func40, Tryd.ntmps40
    go_wp2_with fail
    refine (HZ.out _).mono ?_
    rintro e w1 ⟨rfl, hb⟩
    have HB := Lib.hid ((below1 w _).trans (hb.mono (by simp)))
    clear hb
    go_wp2
    go_ret
    exact ⟨rfl, HB.out⟩
  · have HZ := Lib.hid (fun W => isZero_any A (digs m.natAbs).length c s x W false (beq_eq_false_iff_ne.2 (by have : (digs m.natAbs).length ≠ 0 := fun e => h0 (by have := digs_nil.1 e; omega); omega)))
    have HC := Lib.hid (fun W (hW : Dg W A c (digs m.natAbs)) => bits_any A c (digs m.natAbs) W hW (by omega))
    rw [val_digs] at HC
    obtain ⟨z, hz⟩ : ∃ z : Int, (blen m.natAbs : Int) = z := ⟨_, rfl⟩
    rw [hz] at HC
    have hq2 := inR_eq (e := x) h0 hz
    rw [hq] at hq2
    have z0 : 0 ≤ z := by omega
    have HQ := Lib.hid hq2
    have H := Lib.hid h
    clear h0 hq hz hq2 h
    by_cases c1 : -131072 ≤ x
    rotate_left
    · have d0 : decide (-131072 ≤ x) = false := decide_eq_false c1
      obtain rfl : q = false := by rw [HQ.out, d0]; rfl
      go_enter Tryd.func40, Tryd.ntmps40
      go_wp2_with fail
      refine (HZ.out _).mono ?_
      rintro e w1 ⟨rfl, hb⟩
      have HB := Lib.hid ((below1 w _).trans (hb.mono (by simp)))
      obtain ⟨hc2, hf2⟩ := bcell hb
      clear hb
      go_wp2_with fail
      refine (HC.out _ (H.out.below HB.out)).mono ?_
      rintro e w2 ⟨rfl, rfl⟩
      go_wp2
      go_ret
      exact ⟨rfl, HB.out⟩
    have d0 : decide (-131072 ≤ x) = true := decide_eq_true c1
    by_cases c2 : x ≤ 131072
    rotate_left
    · have d1 : decide (x ≤ 131072) = false := decide_eq_false c2
      obtain rfl : q = false := by rw [HQ.out, d0, d1]; rfl
      go_enter Tryd.func40, Tryd.ntmps40
      go_wp2_with fail
      refine (HZ.out _).mono ?_
      rintro e w1 ⟨rfl, hb⟩
      have HB := Lib.hid ((below1 w _).trans (hb.mono (by simp)))
      obtain ⟨hc2, hf2⟩ := bcell hb
      clear hb
      go_wp2_with fail
      refine (HC.out _ (H.out.below HB.out)).mono ?_
      rintro e w2 ⟨rfl, rfl⟩
      go_wp2
      go_ret
      exact ⟨rfl, HB.out⟩
    have d1 : decide (x ≤ 131072) = true := decide_eq_true c2
    by_cases c3 : z ≤ 262144
    rotate_left
    · have d2 : decide (z ≤ 262144) = false := decide_eq_false c3
      obtain rfl : q = false := by rw [HQ.out, d0, d1, d2]; rfl
      go_enter Tryd.func40, Tryd.ntmps40
      go_wp2_with fail
      refine (HZ.out _).mono ?_
      rintro e w1 ⟨rfl, hb⟩
      have HB := Lib.hid ((below1 w _).trans (hb.mono (by simp)))
      obtain ⟨hc2, hf2⟩ := bcell hb
      clear hb
      go_wp2_with fail
      refine (HC.out _ (H.out.below HB.out)).mono ?_
      rintro e w2 ⟨rfl, rfl⟩
      go_wp2
      go_ret
      exact ⟨rfl, HB.out⟩
    have d2 : decide (z ≤ 262144) = true := decide_eq_true c3
    by_cases c4 : -65536 ≤ x + z
    rotate_left
    · have d3 : decide (-65536 ≤ x + z) = false := decide_eq_false c4
      obtain rfl : q = false := by rw [HQ.out, d0, d1, d2, d3]; rfl
      go_enter Tryd.func40, Tryd.ntmps40
      go_wp2_with fail
      refine (HZ.out _).mono ?_
      rintro e w1 ⟨rfl, hb⟩
      have HB := Lib.hid ((below1 w _).trans (hb.mono (by simp)))
      obtain ⟨hc2, hf2⟩ := bcell hb
      clear hb
      go_wp2_with fail
      refine (HC.out _ (H.out.below HB.out)).mono ?_
      rintro e w2 ⟨rfl, rfl⟩
      go_wp2
      go_ret
      exact ⟨rfl, HB.out⟩
    have d3 : decide (-65536 ≤ x + z) = true := decide_eq_true c4
    have HQ2 := Lib.hid (show decide (x + z ≤ 65536) = q by rw [HQ.out, d0, d1, d2, d3]; rfl)
    go_enter Tryd.func40, Tryd.ntmps40
    go_wp2_with fail
    refine (HZ.out _).mono ?_
    rintro e w1 ⟨rfl, hb⟩
    have HB := Lib.hid ((below1 w _).trans (hb.mono (by simp)))
    obtain ⟨hc2, hf2⟩ := bcell hb
    clear hb
    go_wp2_with fail
    refine (HC.out _ (H.out.below HB.out)).mono ?_
    rintro e w2 ⟨rfl, rfl⟩
    go_wp2
    go_ret
    exact ⟨by rw [← HQ2.out]; rfl, HB.out⟩
end Go.Proofs.YtfhdhldgflbpjaaDoor
end

section
/-
  zint.Sub, Mul.
-/
namespace Go.Proofs.YtfhdhldgflbpjaaDoor
open Go.RowKit
theorem chain {W v w1 : World} (h0 : Below W.heap.size W v) (hb : Below v.heap.size v w1) : Below W.heap.size W w1 := h0.trans (hb.mono h0.size)
theorem bal1 {W v : World} (h : Below W.heap.size W v) (o : Obj) : Below W.heap.size W (v.alloc o) := h.alloc h.size _
theorem bal2 {W v : World} (h : Below W.heap.size W v) (o o' : Obj) : Below W.heap.size W ((v.alloc o).alloc o') := (h.alloc h.size _).alloc (by have := h.size; simp; omega) _
theorem Dg.set_at {w : World} {A : Option Addr} {c g i : Nat} {xs : List Nat} {v0 : Value} (h : Dg w A c xs) (h0 : w.cell? ⟨g, i, none⟩ = some v0) (hv : ∀ n : Int, v0 ≠ .int .u32 n) (v : Value) : Dg (w.setCell ⟨g, i, none⟩ v) A c xs :=
  ⟨h.1, h.2.1, fun h1 => by
    obtain ⟨b, off, e, hb, hc⟩ := h.2.2 h1
    refine ⟨b, off, e, by simpa using hb, fun j hj => ?_⟩
    by_cases he : (⟨g, i, none⟩ : Addr) = ⟨b, off + j, none⟩
    · have h2 := hc j hj
      rw [← he, h0] at h2
      exact absurd (Option.some.inj h2) (hv _)
    · rw [World.cell?_setCell_other _ _ _ _ (fun e => he e)]
      exact hc j hj⟩
theorem Dg.set2 {w : World} {A B : Option Addr} {c g n m : Nat} {b : Bool} {xs : List Nat} (h : Dg w A c xs) (h0 : w.cell? ⟨g, 0, none⟩ = some (.slice B n m)) (h1 : w.cell? ⟨g, 1, none⟩ = some (.bool b)) (v v' : Value) : Dg ((w.setCell ⟨g, 0, none⟩ v).setCell ⟨g, 1, none⟩ v') A c xs :=
  (h.set_at h0 (by intro n h; cases h) v).set_at (v0 := .bool b) (by rw [World.cell?_setCell_other _ _ _ _ (by simp)]; exact h1) (by intro n h; cases h) v'
theorem bset2 {W v : World} (h : Below W.heap.size W v) {g : Nat} (hg : W.heap.size ≤ g) (a b : Value) : Below W.heap.size W ((v.setCell ⟨g, 0, none⟩ a).setCell ⟨g, 1, none⟩ b) := (h.setCell (by simpa using hg) _).setCell (by simpa using hg) _
theorem bd0 (W : World) : Below W.heap.size W W.drew := below_drew (Below.refl _ _)
theorem bd1 (W : World) (o : Obj) : Below W.heap.size W (W.alloc o).drew := below_drew (bal1 (Below.refl _ _) _)
theorem bd2 (W : World) (o o' : Obj) : Below W.heap.size W ((W.alloc o).alloc o').drew := below_drew (bal2 (Below.refl _ _) _ _)
theorem carry4 {W w' : World} (hb : Below W.heap.size W w') {p1 p2 p3 p4 : Addr} {v1 v2 v3 v4 : Value} (h : W.cell? p1 = some v1 ∧ W.cell? p2 = some v2 ∧ W.cell? p3 = some v3 ∧ W.cell? p4 = some v4)
    (b1 : p1.block < W.heap.size) (b2 : p2.block < W.heap.size) (b3 : p3.block < W.heap.size) (b4 : p4.block < W.heap.size) : w'.cell? p1 = some v1 ∧ w'.cell? p2 = some v2 ∧ w'.cell? p3 = some v3 ∧ w'.cell? p4 = some v4 :=
  ⟨(hb.cell b1).trans h.1, (hb.cell b2).trans h.2.1, (hb.cell b3).trans h.2.2.1, (hb.cell b4).trans h.2.2.2⟩
theorem set4 {w : World} {p1 p2 p3 p4 q : Addr} {v1 v2 v3 v4 v : Value} (h : w.cell? p1 = some v1 ∧ w.cell? p2 = some v2 ∧ w.cell? p3 = some v3 ∧ w.cell? p4 = some v4)
    (b1 : p1.block ≠ q.block) (b2 : p2.block ≠ q.block) (b3 : p3.block ≠ q.block) (b4 : p4.block ≠ q.block) : (w.setCell q v).cell? p1 = some v1 ∧ (w.setCell q v).cell? p2 = some v2 ∧ (w.setCell q v).cell? p3 = some v3 ∧ (w.setCell q v).cell? p4 = some v4 :=
  ⟨(World.cell?_setCell_other _ _ _ _ (fun e => b1 (by rw [e]))).trans h.1, (World.cell?_setCell_other _ _ _ _ (fun e => b2 (by rw [e]))).trans h.2.1, (World.cell?_setCell_other _ _ _ _ (fun e => b3 (by rw [e]))).trans h.2.2.1, (World.cell?_setCell_other _ _ _ _ (fun e => b4 (by rw [e]))).trans h.2.2.2⟩
end Go.Proofs.YtfhdhldgflbpjaaDoor
end

section
/-
  A region that draws its order, by what holds behind each of its operations (an invariant): no order is walked.
-/
namespace Go.Proofs.YtfhdhldgflbpjaaDoor
open Go.RowKit
section
variable {P : Program} {ops : Array Oper} {Q : Exit → Act → World → Prop} {md : Region.Mode}
/-- How many have not come up. -/
def still (l : Array Bool) : Nat := l.toList.count false
theorem still_set {l : Array Bool} {i : Nat} (h : l.getD i true = false) : still (l.setIfInBounds i true) + 1 = still l := by
  have hlt : i < l.size := by
    rcases Nat.lt_or_ge i l.size with h' | h'
    · exact h'
    · simp [Array.getElem?_eq_none h'] at h
  obtain ⟨l⟩ := l
  simp only [still, List.setIfInBounds_toArray] at *
  simp at hlt
  simp [hlt] at h
  have : ∀ (l : List Bool) (i : Nat) (h : i < l.length), l[i] = false → (l.set i true).count false + 1 = l.count false := by
    intro l
    induction l with
    | nil => intro i h; simp at h
    | cons x xs ih =>
      intro i hi hx
      cases i with
      | zero => simp at hx; subst hx; simp
      | succ i =>
        simp at hx hi
        have := ih i hi hx
        simp only [List.set_cons_succ, List.count_cons]
        omega
  exact this l i hlt h
/-- What holds at the start, and stands behind each operation that may come up, holds at the end. -/
theorem wpAny_inv (I : Array Bool → Act → World → Prop)
    (step : ∀ l a w i, I l a w → i ∈ Region.ready md ops l → wpOp P ops Q i (fun a' w' => I (l.setIfInBounds i true) a' w') a w)
    (done : ∀ l a w, I l a w → Region.ready md ops l = [] → Q .normal a w) :
    ∀ (fuel : Nat) (l : Array Bool) (a : Act) (w : World), I l a w → still l ≤ fuel → wpAny P md ops Q fuel l a w
  | 0, l, a, w, h, hf => by
    have hr : Region.ready md ops l = [] := by
      rcases hr : Region.ready md ops l with _ | ⟨i, is⟩
      · rfl
      · have := still_set (mem_ready.1 (show i ∈ Region.ready md ops l by rw [hr]; simp)).1
        omega
    exact ⟨hr, done l a w h hr⟩
  | fuel + 1, l, a, w, h, hf => by
    refine ⟨fun hr => done l a w h hr, fun i hi => ?_⟩
    refine wpOp_mono (fun a' w' h' => wpAny_inv I step done fuel _ a' w' h' ?_) (step l a w i h hi)
    have := still_set (mem_ready.1 hi).1
    omega
/-- Every edge leads back. -/
def backB (md : Region.Mode) (ops : Array Oper) : Bool := (List.range ops.size).all fun i => ((ops[i]?).map fun o => o.after.all fun e => !Region.binds md e || decide (e.on < i)).getD true
theorem all_of_back (hb : backB md ops = true) {l : Array Bool} (hs : l.size = ops.size) (hr : Region.ready md ops l = []) : ∀ i, i < ops.size → l.getD i false = true := by
  intro i
  induction i using Nat.strongRecOn with
  | ind i ih =>
    intro hi
    cases hg : l.getD i false with
    | true => rfl
    | false =>
      have hmem : i ∈ Region.ready md ops l := by
        refine mem_ready.2 ⟨?_, ops[i], by simp [hi], fun e he hbi => ?_⟩
        · have : i < l.size := by omega
          simp [this] at hg ⊢
          exact hg
        · simp only [backB, List.all_eq_true, List.mem_range] at hb
          have h1 := hb i hi
          simp only [Array.getElem?_eq_getElem hi, Option.map_some, Option.getD_some, Array.all_eq_true_iff_forall_mem] at h1
          have h2 := h1 e he
          simp only [hbi, Bool.not_true, Bool.false_or, decide_eq_true_eq] at h2
          exact ih e.on h2 (by omega)
      rw [hr] at hmem; cases hmem
/-- Number i waits for number k. -/
def waitsB (md : Region.Mode) (ops : Array Oper) (i k : Nat) : Bool := ((ops[i]?).map fun o => o.after.any fun e => Region.binds md e && e.on == k).getD false
theorem waits_spec {i k : Nat} (h : waitsB md ops i k = true) {l : Array Bool} (hr : i ∈ Region.ready md ops l) : l.getD k false = true := by
  obtain ⟨_, o, ho, hall⟩ := mem_ready.1 hr
  simp only [waitsB, ho, Option.map_some, Option.getD_some, Array.any_eq_true'] at h
  obtain ⟨e, he, h1⟩ := h
  simp only [Bool.and_eq_true, beq_iff_eq] at h1
  have := hall e he h1.1
  rw [h1.2] at this
  exact this
end
theorem wpOp_one {P : Program} {ops : Array Oper} {Q : Exit → Act → World → Prop} {i : Nat} {o : Oper} {K : Act → World → Prop} {a : Act} {w : World} (hi : ops[i]? = some o) (hg : o.guard = none) (h : o.wp P a w K Q) : wpOp P ops Q i K a w := by
  unfold wpOp
  rw [hi]
  simp only [Region.wanted, hg, if_true]
  exact .inl h
/-! ### What stays -/
/-- Every digit stays. -/
def Kept (w w' : World) : Prop := w.heap.size ≤ w'.heap.size ∧ ∀ (b o : Nat) (n : Int), w.cell? ⟨b, o, none⟩ = some (.int .u32 n) → w'.cell? ⟨b, o, none⟩ = some (.int .u32 n)
theorem Kept.refl (w : World) : Kept w w := ⟨Nat.le_refl _, fun _ _ _ h => h⟩
theorem Kept.trans {a b c : World} (h : Kept a b) (k : Kept b c) : Kept a c := ⟨Nat.le_trans h.1 k.1, fun b o n e => k.2 b o n (h.2 b o n e)⟩
theorem cell_lt {w : World} {b o : Nat} {v : Value} (h : w.cell? ⟨b, o, none⟩ = some v) : b < w.heap.size := by
  rcases Nat.lt_or_ge b w.heap.size with h' | h'
  · exact h'
  · simp [World.cell?, Array.getElem?_eq_none h'] at h
theorem Kept.below {w w' : World} (h : Below w.heap.size w w') : Kept w w' := ⟨h.size, fun b o _n e => (h.cell (p := ⟨b, o, none⟩) (cell_lt e)).trans e⟩
theorem Dg.kept {w w' : World} {A : Option Addr} {c : Nat} {xs : List Nat} (h : Dg w A c xs) (hk : Kept w w') : Dg w' A c xs :=
  ⟨h.1, h.2.1, fun h0 => by
    obtain ⟨b, off, e, hb, hc⟩ := h.2.2 h0
    exact ⟨b, off, e, Nat.lt_of_lt_of_le hb hk.1, fun j hj => hk.2 _ _ _ (hc j hj)⟩⟩
/-- Block g alone may be another one. -/
structure Only (g : Nat) (w w' : World) : Prop where
  os : w'.os = w.os
  tape : w'.tape = w.tape
  output : w'.output = w.output
  size : w'.heap.size = w.heap.size
  block : ∀ k, k ≠ g → w'.heap[k]? = w.heap[k]?
theorem Only.setCell {g : Nat} {w w' : World} (h : Only g w w') (i : Nat) (v : Value) : Only g w (w'.setCell ⟨g, i, none⟩ v) :=
  ⟨h.os, h.tape, h.output, by simpa using h.size, fun k hk => (heap_setCell_other _ _ _ _ (by simpa using hk)).trans (h.block k hk)⟩
theorem Only.refl (g : Nat) (w : World) : Only g w w := ⟨rfl, rfl, rfl, rfl, fun _ _ => rfl⟩
theorem Only.below {g N : Nat} {W w w' : World} (h : Only g w w') (hb : Below N W w) (hg : N ≤ g) : Below N W w' :=
  ⟨h.os.trans hb.os, h.tape.trans hb.tape, h.output.trans hb.output, by rw [h.size]; exact hb.size, fun k hk => (h.block k (by omega)).trans (hb.block k hk)⟩
theorem Only.kept {g : Nat} {w w' : World} (h : Only g w w') {zs : Array Value} {T : TypeId} {fr : Nat × Nat} (hg : w.heap[g]? = some (.cells zs T fr)) (hz : ∀ (i : Nat) (n : Int), zs[i]? ≠ some (.int .u32 n)) : Kept w w' := by
  refine ⟨by rw [h.size]; exact Nat.le_refl _, fun b o _n e => ?_⟩
  by_cases hb : b = g
  · subst hb
    rw [cell_of_row _ _ _ _ _ _ hg] at e
    exact absurd e (hz _ _)
  · rw [← e]
    simp only [World.cell?, h.block b hb]
/-! ### Two calls whose results go into two new boxes -/
/-- One half: loaded, called, made, stored. -/
def Half (W : World) (lt ct xt : Tmp) (v : Value) (R : Value → World → Prop) (zs : Array Value) (T : TypeId) (full : Value → Array Value) (bl bc ba bs : Bool) (a : Act) (w : World) (g : Nat) (u : Value) : Prop :=
  (bl = true → a.tmps.getD lt undef = v) ∧ (bc = true → a.tmps.getD ct undef = u ∧ R u w) ∧
  (ba = true → a.tmps.getD xt undef = .pointer (some ⟨g, 0, none⟩) ∧ W.heap.size ≤ g ∧ g < w.heap.size ∧ w.heap[g]? = some (.cells (if bs then full u else zs) T (0, 0)))
section
variable {W : World} {lt ct xt : Tmp} {v : Value} {R : Value → World → Prop} {zs : Array Value} {T : TypeId} {full : Value → Array Value} {bl bc ba bs : Bool} {a a' : Act} {w w' : World} {g : Nat} {u : Value}
theorem Half.step (h : Half W lt ct xt v R zs T full bl bc ba bs a w g u) (hR : ∀ u w w', R u w → Kept w w' → R u w') (hk : Kept w w')
    (h1 : a'.tmps.getD lt undef = a.tmps.getD lt undef) (h2 : a'.tmps.getD ct undef = a.tmps.getD ct undef) (h3 : a'.tmps.getD xt undef = a.tmps.getD xt undef)
    (hg : ba = true → w'.heap[g]? = w.heap[g]?) : Half W lt ct xt v R zs T full bl bc ba bs a' w' g u :=
  ⟨fun e => h1.trans (h.1 e), fun e => ⟨h2.trans (h.2.1 e).1, hR _ _ _ (h.2.1 e).2 hk⟩, fun e => ⟨h3.trans (h.2.2 e).1, (h.2.2 e).2.1, Nat.lt_of_lt_of_le (h.2.2 e).2.2.1 hk.1, (hg e).trans (h.2.2 e).2.2.2⟩⟩
theorem put_same (a : Act) (t : Tmp) (v : Value) (h : t < a.tmps.size) : (a.put (some t) v).tmps.getD t undef = v := by simp [Act.put, h]
theorem put_other (a : Act) (t s : Tmp) (v : Value) (h : t ≠ s) : (a.put (some t) v).tmps.getD s undef = a.tmps.getD s undef := by simp [Act.put, Array.getElem?_setIfInBounds_ne h]
/-- The frame: all slots but six are as they were. -/
def Fr6 (D : List Tmp) (a0 a : Act) : Prop := a.defers = a0.defers ∧ a.tmps.size = a0.tmps.size ∧ ∀ j, j ∉ D → a.tmps.getD j undef = a0.tmps.getD j undef
theorem Fr6.put {D : List Tmp} {a0 a : Act} (h : Fr6 D a0 a) {t : Tmp} (ht : t ∈ D) (v : Value) : Fr6 D a0 (a.put (some t) v) :=
  ⟨h.1, by simp [Act.put, h.2.1], fun j hj => (put_other a t j v (fun e => hj (e ▸ ht))).trans (h.2.2 j hj)⟩
end
theorem act_ext {a b : Act} (hd : a.defers = b.defers) (hs : a.tmps.size = b.tmps.size) (h : ∀ j, a.tmps.getD j undef = b.tmps.getD j undef) : a = b := by
  obtain ⟨S, D⟩ := a
  obtain ⟨T, E⟩ := b
  simp only at hd hs h
  subst hd
  congr 1
  refine Array.ext hs (fun j h1 h2 => ?_)
  have := h j
  simpa [h1, h2] using this
theorem put_size (a : Act) (t : Tmp) (v : Value) : (a.put (some t) v).tmps.size = a.tmps.size := by simp [Act.put]
theorem put_defers (a : Act) (t : Tmp) (v : Value) : (a.put (some t) v).defers = a.defers := rfl
theorem put_at {a b : Act} {t : Tmp} {v : Value} (j : Tmp) (ht : t < b.tmps.size) (he : a.tmps.getD t undef = v) (h : j ≠ t → a.tmps.getD j undef = b.tmps.getD j undef) : a.tmps.getD j undef = (b.put (some t) v).tmps.getD j undef := by
  by_cases hj : t = j
  · subst hj; rw [put_same _ _ _ ht]; exact he
  · rw [put_other _ _ _ _ hj]; exact h (Ne.symm hj)
theorem Fr6.eq {l1 c1 l2 c2 x y : Tmp} {a0 a : Act} (h : Fr6 [l1, c1, l2, c2, x, y] a0 a) {v1 u1 v2 u2 p1 p2 : Value}
    (hin : ([l1, c1, l2, c2, x, y].all fun t => decide (t < a0.tmps.size)) = true)
    (e1 : a.tmps.getD l1 undef = v1) (e2 : a.tmps.getD c1 undef = u1) (e3 : a.tmps.getD l2 undef = v2) (e4 : a.tmps.getD c2 undef = u2) (e5 : a.tmps.getD x undef = p1) (e6 : a.tmps.getD y undef = p2) :
    a = (((((a0.put (some l1) v1).put (some c1) u1).put (some l2) v2).put (some c2) u2).put (some x) p1).put (some y) p2 := by
  simp only [List.all_cons, List.all_nil, Bool.and_true, Bool.and_eq_true, decide_eq_true_eq] at hin
  obtain ⟨i1, i2, i3, i4, i5, i6⟩ := hin
  refine act_ext (by simp only [put_defers]; exact h.1) (by simp only [put_size]; exact h.2.1) (fun j => ?_)
  refine put_at j (by simp only [put_size]; exact i6) e6 (fun n6 => put_at j (by simp only [put_size]; exact i5) e5 (fun n5 => put_at j (by simp only [put_size]; exact i4) e4 (fun n4 => put_at j (by simp only [put_size]; exact i3) e3 (fun n3 => put_at j (by simp only [put_size]; exact i2) e2 (fun n2 => put_at j i1 e1 (fun n1 => h.2.2 j ?_))))))
  simp only [List.mem_cons, List.not_mem_nil, or_false, not_or]
  exact ⟨n1, n2, n3, n4, n5, n6⟩
theorem getD_set (l : Array Bool) (i j : Nat) (hi : i < l.size) : (l.setIfInBounds i true).getD j false = (if i = j then true else l.getD j false) := by
  by_cases h : i = j
  · subst h; simp [hi]
  · rw [if_neg h]; exact getD_set_ne false h
theorem Half.flags {W : World} {lt ct xt : Tmp} {v : Value} {R : Value → World → Prop} {zs : Array Value} {T : TypeId} {full : Value → Array Value} {bl bc ba bs bl' bc' ba' bs' : Bool} {a : Act} {w : World} {g : Nat} {u : Value}
    (h : Half W lt ct xt v R zs T full bl bc ba bs a w g u) (e1 : bl' = bl) (e2 : bc' = bc) (e3 : ba' = ba) (e4 : bs' = bs) : Half W lt ct xt v R zs T full bl' bc' ba' bs' a w g u := by
  subst e1 e2 e3 e4; exact h
/-- x, y := f(p), g(q): two loads, two calls, two boxes, two stores, in whatever order. -/
theorem two_calls {P : Program} {ops : Array Oper} {Q : Exit → Act → World → Prop} {id : Nat} {a0 : Act} {W : World} (hm : P.follows .mixedOrders = true)
    (l1 c1 l2 c2 x y : Tmp) (v1 v2 : Value) (R1 R2 : Value → World → Prop) (zs : Array Value) (T : TypeId) (full : Value → Array Value)
    (hsz : ops.size = 8) (hback : backB .any ops = true)
    (hw : (waitsB .any ops 1 0 && waitsB .any ops 3 2 && waitsB .any ops 6 1 && waitsB .any ops 6 4 && waitsB .any ops 7 3 && waitsB .any ops 7 5) = true)
    (hnd : [l1, c1, l2, c2, x, y].Nodup) (hin : ([l1, c1, l2, c2, x, y].all fun t => decide (t < a0.tmps.size)) = true)
    (hz : ∀ (i : Nat) (n : Int), zs[i]? ≠ some (.int .u32 n))
    (k1 : ∀ u w w', R1 u w → Kept w w' → R1 u w') (k2 : ∀ u w w', R2 u w → Kept w w' → R2 u w')
    (s0 : ∀ a w K, Fr6 [l1, c1, l2, c2, x, y] a0 a → Below W.heap.size W w → K (a.put (some l1) v1) w → wpOp P ops Q 0 K a w)
    (s2 : ∀ a w K, Fr6 [l1, c1, l2, c2, x, y] a0 a → Below W.heap.size W w → K (a.put (some l2) v2) w → wpOp P ops Q 2 K a w)
    (s1 : ∀ a w K, Fr6 [l1, c1, l2, c2, x, y] a0 a → Below W.heap.size W w → a.tmps.getD l1 undef = v1 → (∀ u w', R1 u w' → Below w.heap.size w w' → K (a.put (some c1) u) w') → wpOp P ops Q 1 K a w)
    (s3 : ∀ a w K, Fr6 [l1, c1, l2, c2, x, y] a0 a → Below W.heap.size W w → a.tmps.getD l2 undef = v2 → (∀ u w', R2 u w' → Below w.heap.size w w' → K (a.put (some c2) u) w') → wpOp P ops Q 3 K a w)
    (s4 : ∀ a w K, Fr6 [l1, c1, l2, c2, x, y] a0 a → K (a.put (some x) (.pointer (some ⟨w.heap.size, 0, none⟩))) (w.alloc (.cells zs T)) → wpOp P ops Q 4 K a w)
    (s5 : ∀ a w K, Fr6 [l1, c1, l2, c2, x, y] a0 a → K (a.put (some y) (.pointer (some ⟨w.heap.size, 0, none⟩))) (w.alloc (.cells zs T)) → wpOp P ops Q 5 K a w)
    (s6 : ∀ a w K g u, Fr6 [l1, c1, l2, c2, x, y] a0 a → a.tmps.getD x undef = .pointer (some ⟨g, 0, none⟩) → a.tmps.getD c1 undef = u → R1 u w → w.heap[g]? = some (.cells zs T (0, 0)) → (∀ w', w'.heap[g]? = some (.cells (full u) T (0, 0)) → Only g w w' → K a w') → wpOp P ops Q 6 K a w)
    (s7 : ∀ a w K g u, Fr6 [l1, c1, l2, c2, x, y] a0 a → a.tmps.getD y undef = .pointer (some ⟨g, 0, none⟩) → a.tmps.getD c2 undef = u → R2 u w → w.heap[g]? = some (.cells zs T (0, 0)) → (∀ w', w'.heap[g]? = some (.cells (full u) T (0, 0)) → Only g w w' → K a w') → wpOp P ops Q 7 K a w)
    (hB : Below W.heap.size W { (W : World) with drawn := W.drawn + 1 })
    (fin : ∀ a w g1 g2 u1 u2, Fr6 [l1, c1, l2, c2, x, y] a0 a → Below W.heap.size W w → Half W l1 c1 x v1 R1 zs T full true true true true a w g1 u1 → Half W l2 c2 y v2 R2 zs T full true true true true a w g2 u2 → g1 ≠ g2 → Q .normal a w) :
    (Code.region id ops true).wp P Q a0 W := by
  simp only [Bool.and_eq_true] at hw
  obtain ⟨⟨⟨⟨⟨w10, w32⟩, w61⟩, w64⟩, w73⟩, w75⟩ := hw
  simp only [List.all_cons, List.all_nil, Bool.and_true, Bool.and_eq_true, decide_eq_true_eq] at hin
  obtain ⟨i1, i2, i3, i4, i5, i6⟩ := hin
  simp only [List.nodup_cons, List.mem_cons, List.not_mem_nil, or_false, not_or, not_false_eq_true, List.nodup_nil, and_true] at hnd
  obtain ⟨⟨n12, n13, n14, n15, n16⟩, ⟨n23, n24, n25, n26⟩, ⟨n34, n35, n36⟩, ⟨n45, n46⟩, n56⟩ := hnd
  generalize hD : [l1, c1, l2, c2, x, y] = D at *
  have m1 : l1 ∈ D := by rw [← hD]; simp
  have m2 : c1 ∈ D := by rw [← hD]; simp
  have m3 : l2 ∈ D := by rw [← hD]; simp
  have m4 : c2 ∈ D := by rw [← hD]; simp
  have m5 : x ∈ D := by rw [← hD]; simp
  have m6 : y ∈ D := by rw [← hD]; simp
  refine wp_region_any hm (wpAny_inv (fun l a w => l.size = 8 ∧ Fr6 D a0 a ∧ Below W.heap.size W w ∧ ∃ g1 g2 u1 u2,
    Half W l1 c1 x v1 R1 zs T full (l.getD 0 false) (l.getD 1 false) (l.getD 4 false) (l.getD 6 false) a w g1 u1 ∧
    Half W l2 c2 y v2 R2 zs T full (l.getD 2 false) (l.getD 3 false) (l.getD 5 false) (l.getD 7 false) a w g2 u2 ∧
    (l.getD 4 false = true → l.getD 5 false = true → g1 ≠ g2) ∧ (l.getD 6 false = true → l.getD 4 false = true) ∧ (l.getD 7 false = true → l.getD 5 false = true) ∧
    (l.getD 6 false = true → l.getD 1 false = true) ∧ (l.getD 7 false = true → l.getD 3 false = true)) ?_ ?_ _ _ _ _ ?_ ?_)
  · rintro l a w i ⟨hl, hF, hbw, g1, g2, u1, u2, h1, h2, hne, h64, h75, h61, h73⟩ hi
    have hiu := (mem_ready.1 hi).1
    have hi8 : i < 8 := by
      rcases Nat.lt_or_ge i l.size with h' | h'
      · omega
      · simp [Array.getElem?_eq_none h'] at hiu
    have hif : l.getD i false = false := by
      have : i < l.size := by omega
      simp [this] at hiu ⊢; exact hiu
    have sz : ∀ j, (l.setIfInBounds i true).getD j false = (if i = j then true else l.getD j false) := fun j => getD_set l i j (by omega)
    have hl' : (l.setIfInBounds i true).size = 8 := by simp [hl]
    have ps : a.tmps.size = a0.tmps.size := hF.2.1
    have hi' : i = 0 ∨ i = 1 ∨ i = 2 ∨ i = 3 ∨ i = 4 ∨ i = 5 ∨ i = 6 ∨ i = 7 := by omega
    rcases hi' with rfl | rfl | rfl | rfl | rfl | rfl | rfl | rfl
    · refine s0 a w _ hF hbw ⟨hl', hF.put m1 _, hbw, g1, g2, u1, u2, ?_, ?_, by simpa [sz] using hne, by simpa [sz] using h64, by simpa [sz] using h75, by simpa [sz] using h61, by simpa [sz] using h73⟩
      · exact ⟨fun _ => put_same _ _ _ (by rw [ps]; exact i1), fun e => ⟨(put_other _ _ _ _ n12).trans (h1.2.1 (by simpa [sz] using e)).1, (h1.2.1 (by simpa [sz] using e)).2⟩, fun e => ⟨(put_other _ _ _ _ n15).trans (h1.2.2 (by simpa [sz] using e)).1, (h1.2.2 (by simpa [sz] using e)).2.1, (h1.2.2 (by simpa [sz] using e)).2.2.1, by simpa [sz] using (h1.2.2 (by simpa [sz] using e)).2.2.2⟩⟩
      · exact (h2.step k2 (Kept.refl _) (put_other _ _ _ _ n13) (put_other _ _ _ _ n14) (put_other _ _ _ _ n16) (fun _ => rfl)).flags (by simp [sz]) (by simp [sz]) (by simp [sz]) (by simp [sz])
    · have hnot : l.getD 6 false = false := by cases h6 : l.getD 6 false with | false => rfl | true => exact absurd (h61 h6) (by rw [hif]; simp)
      refine s1 a w _ hF hbw (h1.1 (waits_spec w10 hi)) (fun u w' hu hb => ⟨hl', hF.put m2 _, hbw.trans (hb.mono hbw.size), g1, g2, u, u2, ?_, ?_, by simpa [sz] using hne, by simpa [sz] using h64, by simpa [sz] using h75, by simp [sz], by simpa [sz] using h73⟩)
      · exact ⟨fun e => (put_other _ _ _ _ (Ne.symm n12)).trans (h1.1 (by simpa [sz] using e)), fun _ => ⟨put_same _ _ _ (by rw [ps]; exact i2), hu⟩, fun e => ⟨(put_other _ _ _ _ n25).trans (h1.2.2 (by simpa [sz] using e)).1, (h1.2.2 (by simpa [sz] using e)).2.1, Nat.lt_of_lt_of_le (h1.2.2 (by simpa [sz] using e)).2.2.1 hb.size, by simpa [sz, hnot] using (hb.block _ (h1.2.2 (by simpa [sz] using e)).2.2.1).trans (h1.2.2 (by simpa [sz] using e)).2.2.2⟩⟩
      · exact (h2.step k2 (Kept.below hb) (put_other _ _ _ _ n23) (put_other _ _ _ _ n24) (put_other _ _ _ _ n26) (fun e => hb.block _ (h2.2.2 e).2.2.1)).flags (by simp [sz]) (by simp [sz]) (by simp [sz]) (by simp [sz])
    · refine s2 a w _ hF hbw ⟨hl', hF.put m3 _, hbw, g1, g2, u1, u2, ?_, ?_, by simpa [sz] using hne, by simpa [sz] using h64, by simpa [sz] using h75, by simpa [sz] using h61, by simpa [sz] using h73⟩
      · exact (h1.step k1 (Kept.refl _) (put_other _ _ _ _ (Ne.symm n13)) (put_other _ _ _ _ (Ne.symm n23)) (put_other _ _ _ _ n35) (fun _ => rfl)).flags (by simp [sz]) (by simp [sz]) (by simp [sz]) (by simp [sz])
      · exact ⟨fun _ => put_same _ _ _ (by rw [ps]; exact i3), fun e => ⟨(put_other _ _ _ _ n34).trans (h2.2.1 (by simpa [sz] using e)).1, (h2.2.1 (by simpa [sz] using e)).2⟩, fun e => ⟨(put_other _ _ _ _ n36).trans (h2.2.2 (by simpa [sz] using e)).1, (h2.2.2 (by simpa [sz] using e)).2.1, (h2.2.2 (by simpa [sz] using e)).2.2.1, by simpa [sz] using (h2.2.2 (by simpa [sz] using e)).2.2.2⟩⟩
    · have hnot : l.getD 7 false = false := by cases h6 : l.getD 7 false with | false => rfl | true => exact absurd (h73 h6) (by rw [hif]; simp)
      refine s3 a w _ hF hbw (h2.1 (waits_spec w32 hi)) (fun u w' hu hb => ⟨hl', hF.put m4 _, hbw.trans (hb.mono hbw.size), g1, g2, u1, u, ?_, ?_, by simpa [sz] using hne, by simpa [sz] using h64, by simpa [sz] using h75, by simpa [sz] using h61, by simp [sz]⟩)
      · exact (h1.step k1 (Kept.below hb) (put_other _ _ _ _ (Ne.symm n14)) (put_other _ _ _ _ (Ne.symm n24)) (put_other _ _ _ _ n45) (fun e => hb.block _ (h1.2.2 e).2.2.1)).flags (by simp [sz]) (by simp [sz]) (by simp [sz]) (by simp [sz])
      · exact ⟨fun e => (put_other _ _ _ _ (Ne.symm n34)).trans (h2.1 (by simpa [sz] using e)), fun _ => ⟨put_same _ _ _ (by rw [ps]; exact i4), hu⟩, fun e => ⟨(put_other _ _ _ _ n46).trans (h2.2.2 (by simpa [sz] using e)).1, (h2.2.2 (by simpa [sz] using e)).2.1, Nat.lt_of_lt_of_le (h2.2.2 (by simpa [sz] using e)).2.2.1 hb.size, by simpa [sz, hnot] using (hb.block _ (h2.2.2 (by simpa [sz] using e)).2.2.1).trans (h2.2.2 (by simpa [sz] using e)).2.2.2⟩⟩
    · have hal : Below w.heap.size w (w.alloc (.cells zs T)) := (Below.refl _ _).alloc (Nat.le_refl _) _
      have hnot : l.getD 6 false = false := by cases h6 : l.getD 6 false with | false => rfl | true => exact absurd (h64 h6) (by rw [hif]; simp)
      refine s4 a w _ hF ⟨hl', hF.put m5 _, hbw.alloc hbw.size _, w.heap.size, g2, u1, u2, ?_, ?_, fun _ e => Nat.ne_of_gt (h2.2.2 (by simpa [sz] using e)).2.2.1, by simp [sz], by simpa [sz] using h75, by simpa [sz] using h61, by simpa [sz] using h73⟩
      · exact ⟨fun e => (put_other _ _ _ _ (Ne.symm n15)).trans (h1.1 (by simpa [sz] using e)), fun e => ⟨(put_other _ _ _ _ (Ne.symm n25)).trans (h1.2.1 (by simpa [sz] using e)).1, k1 _ _ _ (h1.2.1 (by simpa [sz] using e)).2 (Kept.below hal)⟩, fun _ => ⟨put_same _ _ _ (by rw [ps]; exact i5), hbw.size, by simp, by simpa [sz, hnot] using heap_alloc_new w _⟩⟩
      · exact (h2.step k2 (Kept.below hal) (put_other _ _ _ _ (Ne.symm n35)) (put_other _ _ _ _ (Ne.symm n45)) (put_other _ _ _ _ n56) (fun e => hal.block _ (h2.2.2 e).2.2.1)).flags (by simp [sz]) (by simp [sz]) (by simp [sz]) (by simp [sz])
    · have hal : Below w.heap.size w (w.alloc (.cells zs T)) := (Below.refl _ _).alloc (Nat.le_refl _) _
      have hnot : l.getD 7 false = false := by cases h6 : l.getD 7 false with | false => rfl | true => exact absurd (h75 h6) (by rw [hif]; simp)
      refine s5 a w _ hF ⟨hl', hF.put m6 _, hbw.alloc hbw.size _, g1, w.heap.size, u1, u2, ?_, ?_, fun e _ => Nat.ne_of_lt (h1.2.2 (by simpa [sz] using e)).2.2.1, by simpa [sz] using h64, by simp [sz], by simpa [sz] using h61, by simpa [sz] using h73⟩
      · exact (h1.step k1 (Kept.below hal) (put_other _ _ _ _ (Ne.symm n16)) (put_other _ _ _ _ (Ne.symm n26)) (put_other _ _ _ _ (Ne.symm n56)) (fun e => hal.block _ (h1.2.2 e).2.2.1)).flags (by simp [sz]) (by simp [sz]) (by simp [sz]) (by simp [sz])
      · exact ⟨fun e => (put_other _ _ _ _ (Ne.symm n36)).trans (h2.1 (by simpa [sz] using e)), fun e => ⟨(put_other _ _ _ _ (Ne.symm n46)).trans (h2.2.1 (by simpa [sz] using e)).1, k2 _ _ _ (h2.2.1 (by simpa [sz] using e)).2 (Kept.below hal)⟩, fun _ => ⟨put_same _ _ _ (by rw [ps]; exact i6), hbw.size, by simp, by simpa [sz, hnot] using heap_alloc_new w _⟩⟩
    · have hc := h1.2.1 (waits_spec w61 hi)
      have ha := h1.2.2 (waits_spec w64 hi)
      have hz0 : w.heap[g1]? = some (.cells zs T (0, 0)) := by simpa [hif] using ha.2.2.2
      refine s6 a w _ g1 u1 hF ha.1 hc.1 hc.2 hz0 (fun w' hg' ho => ?_)
      have hk : Kept w w' := ho.kept hz0 hz
      refine ⟨hl', hF, ho.below hbw ha.2.1, g1, g2, u1, u2, ?_, ?_, by simpa [sz] using hne, fun _ => by simpa [sz] using waits_spec w64 hi, by simpa [sz] using h75, fun _ => by simpa [sz] using waits_spec w61 hi, by simpa [sz] using h73⟩
      · exact ⟨fun e => h1.1 (by simpa [sz] using e), fun e => ⟨hc.1, k1 _ _ _ hc.2 hk⟩, fun _ => ⟨ha.1, ha.2.1, by rw [ho.size]; exact ha.2.2.1, by simpa [sz] using hg'⟩⟩
      · exact (h2.step k2 hk rfl rfl rfl (fun e => ho.block _ (Ne.symm (hne (waits_spec w64 hi) e)))).flags (by simp [sz]) (by simp [sz]) (by simp [sz]) (by simp [sz])
    · have hc := h2.2.1 (waits_spec w73 hi)
      have ha := h2.2.2 (waits_spec w75 hi)
      have hz0 : w.heap[g2]? = some (.cells zs T (0, 0)) := by simpa [hif] using ha.2.2.2
      refine s7 a w _ g2 u2 hF ha.1 hc.1 hc.2 hz0 (fun w' hg' ho => ?_)
      have hk : Kept w w' := ho.kept hz0 hz
      refine ⟨hl', hF, ho.below hbw ha.2.1, g1, g2, u1, u2, ?_, ?_, by simpa [sz] using hne, by simpa [sz] using h64, fun _ => by simpa [sz] using waits_spec w75 hi, by simpa [sz] using h61, fun _ => by simpa [sz] using waits_spec w73 hi⟩
      · exact (h1.step k1 hk rfl rfl rfl (fun e => ho.block _ (hne e (waits_spec w75 hi)))).flags (by simp [sz]) (by simp [sz]) (by simp [sz]) (by simp [sz])
      · exact ⟨fun e => h2.1 (by simpa [sz] using e), fun e => ⟨hc.1, k2 _ _ _ hc.2 hk⟩, fun _ => ⟨ha.1, ha.2.1, by rw [ho.size]; exact ha.2.2.1, by simpa [sz] using hg'⟩⟩
  · rintro l a w ⟨hl, hF, hbw, g1, g2, u1, u2, h1, h2, hne, _⟩ hr
    have hall := all_of_back hback (by omega) hr
    have e := fun i (h : i < 8) => hall i (by omega)
    rw [e 0 (by omega), e 1 (by omega), e 4 (by omega), e 6 (by omega)] at h1
    rw [e 2 (by omega), e 3 (by omega), e 5 (by omega), e 7 (by omega)] at h2
    exact fin a w g1 g2 u1 u2 hF hbw h1 h2 (hne (e 4 (by omega)) (e 5 (by omega)))
  · have z : ∀ j, (Array.replicate ops.size false).getD j false = false := by intro j; simp [Array.getElem?_replicate]; split <;> rfl
    refine ⟨by simp [hsz], ⟨rfl, rfl, fun _ _ => rfl⟩, hB, 0, 0, undef, undef, ?_, ?_, ?_⟩
    · rw [z, z, z, z]; exact ⟨(fun h => by cases h), (fun h => by cases h), (fun h => by cases h)⟩
    · rw [z, z, z, z]; exact ⟨(fun h => by cases h), (fun h => by cases h), (fun h => by cases h)⟩
    · rw [z, z, z, z]; exact ⟨(fun h => by cases h), (fun h => by cases h), (fun h => by cases h), (fun h => by cases h), (fun h => by cases h)⟩
  · simp [still]
end Go.Proofs.YtfhdhldgflbpjaaDoor
end

section
/-
  zint.Mul.
-/
namespace Go.Proofs.YtfhdhldgflbpjaaDoor
open Go.RowKit
theorem heap_lt {w : World} {g : Nat} {o : Obj} (h : w.heap[g]? = some o) : g < w.heap.size := by
  rcases Nat.lt_or_ge g w.heap.size with h' | h'
  · exact h'
  · rw [Array.getElem?_eq_none h'] at h; cases h
/-- Digits do not lie in a block that held another thing, and still does. -/
theorem off_row {W w1 : World} {A : Option Addr} {c g : Nat} {xs : List Nat} {cs : Array Value} {t : TypeId} {fr : Nat × Nat} (hd : Dg w1 A c xs) (hb : Below W.heap.size W w1) (hg : W.heap[g]? = some (.cells cs t fr)) (hcs : ∀ (o : Nat) (n : Int), cs[o]? ≠ some (.int .u32 n)) : Off g A xs := by
  intro h0 o e
  obtain ⟨b, off, e', _, hc⟩ := hd.2.2 h0
  rw [e] at e'
  simp only [Option.some.injEq, Addr.mk.injEq, and_true] at e'
  obtain ⟨rfl, rfl⟩ := e'
  have h1 := hc 0 h0
  rw [hb.cell (p := ⟨g, o + 0, none⟩) (heap_lt hg), cell_of_row _ _ _ _ _ _ hg] at h1
  exact hcs _ _ h1
theorem row_cell {W w1 : World} {g : Nat} {cs : Array Value} {t : TypeId} {fr : Nat × Nat} (hg : W.heap[g]? = some (.cells cs t fr)) (hb : Below W.heap.size W w1) (o : Nat) : w1.cell? ⟨g, o, none⟩ = cs[o]? :=
  (hb.cell (p := ⟨g, o, none⟩) (heap_lt hg)).trans (cell_of_row _ _ _ _ _ _ hg)
theorem row_frozen {W w1 : World} {g : Nat} {cs : Array Value} {t : TypeId} (hg : W.heap[g]? = some (.cells cs t (0, 0))) (hb : Below W.heap.size W w1) (o : Nat) : w1.frozen? ⟨g, o, none⟩ = false :=
  (hb.frozen (p := ⟨g, o, none⟩) (heap_lt hg)).trans (frozen_of_row _ _ _ _ _ hg)
theorem sg_mulx (s r : Bool) (x y : Nat) : sg (s != r) (x * y) = sg s x * sg r y := by
  unfold sg; cases s <;> cases r <;> simp [Int.neg_mul, Int.mul_neg]
end Go.Proofs.YtfhdhldgflbpjaaDoor
end

section
/-
  zint.sign, Cmp.
-/
namespace Go.Proofs.YtfhdhldgflbpjaaDoor
open Go.RowKit
theorem sign_sg {s t : Bool} {x : Nat} (h : (s && decide (0 < x)) = t) : ((digs x).length = 0 → Int.sign (sg s x) = 0) ∧ ((digs x).length ≠ 0 → Int.sign (sg s x) = if t then -1 else 1) := by
  subst h
  rcases Nat.eq_zero_or_pos x with h0 | h0
  · subst h0
    refine ⟨fun _ => ?_, fun h => absurd (by rw [digs_zero]; rfl) h⟩
    unfold sg; cases s <;> rfl
  · refine ⟨fun h => absurd (digs_nil.1 h) (by omega), fun _ => ?_⟩
    unfold sg
    cases s
    · simp [h0]
    · simp [h0]
theorem sign_bd (z : Int) : -1 ≤ Int.sign z ∧ Int.sign z ≤ 1 := by
  rcases Int.lt_trichotomy z 0 with h | h | h
  · rw [Int.sign_eq_neg_one_of_neg h]; omega
  · subst h; decide
  · rw [Int.sign_eq_one_of_pos h]; omega
theorem sign_three (z : Int) : (z < 0 ∧ Int.sign z = -1) ∨ (z = 0 ∧ Int.sign z = 0) ∨ (0 < z ∧ Int.sign z = 1) := by
  rcases Int.lt_trichotomy z 0 with h | h | h
  · exact .inl ⟨h, Int.sign_eq_neg_one_of_neg h⟩
  · subst h; exact .inr (.inl ⟨rfl, rfl⟩)
  · exact .inr (.inr ⟨h, Int.sign_eq_one_of_pos h⟩)
theorem sign_lt {X Y : Int} (h : Int.sign X < Int.sign Y) : -1 = Int.sign (X - Y) := by
  have := sign_three X; have := sign_three Y; have := sign_three (X - Y); omega
theorem sign_gt {X Y : Int} (h : Int.sign Y < Int.sign X) : 1 = Int.sign (X - Y) := by
  have := sign_three X; have := sign_three Y; have := sign_three (X - Y); omega
theorem cmpi_three (x y : Nat) : (x < y ∧ cmpi x y = -1) ∨ (x = y ∧ cmpi x y = 0) ∨ (y < x ∧ cmpi x y = 1) := by
  rcases Nat.lt_trichotomy x y with h | h | h
  · exact .inl ⟨h, cmpi_lt h⟩
  · exact .inr (.inl ⟨h, cmpi_eq h⟩)
  · exact .inr (.inr ⟨h, cmpi_gt h⟩)
theorem sign_eq {s r : Bool} {x y : Nat} (h : Int.sign (sg s x) = Int.sign (sg r y)) : Int.sign (sg s x) * cmpi x y = Int.sign (sg s x - sg r y) := by
  have h3 := cmpi_three x y
  have h1 := sign_three (sg s x - sg r y)
  have h2 := sign_three (sg s x)
  have h4 := sign_three (sg r y)
  have e1 : sg s x = (x : Int) ∨ sg s x = -(x : Int) := by unfold sg; cases s <;> simp
  have e2 : sg r y = (y : Int) ∨ sg r y = -(y : Int) := by unfold sg; cases r <;> simp
  rcases h2 with ⟨ha, hb⟩ | ⟨ha, hb⟩ | ⟨ha, hb⟩ <;> rw [hb] at h ⊢ <;> omega
end Go.Proofs.YtfhdhldgflbpjaaDoor
end

section
/-
  A region that draws its order: its operands in whatever order (loads, calls, new boxes), then its stores in the one order that is left.
-/
namespace Go.Proofs.YtfhdhldgflbpjaaDoor
open Go.RowKit
section
variable {P : Program} {ops : Array Oper} {Q : Exit → Act → World → Prop} {md : Region.Mode}
/-- Number i waits for number k, by others. -/
def waitsT (md : Region.Mode) (ops : Array Oper) : Nat → Nat → Nat → Bool
  | 0, _, _ => false
  | f + 1, i, k => waitsB md ops i k || (List.range ops.size).any fun m => waitsB md ops i m && waitsT md ops f m k
/-- What is listed has all listed that it waits for. -/
def Down (md : Region.Mode) (ops : Array Oper) (l : Array Bool) : Prop := ∀ j, l.getD j false = true → ∀ k, waitsB md ops j k = true → l.getD k false = true
theorem Down.set {l : Array Bool} (h : Down md ops l) {i : Nat} (hi : i ∈ Region.ready md ops l) : Down md ops (l.setIfInBounds i true) := by
  intro j hj k hk
  by_cases hji : i = j
  · subst hji; exact getD_set_true (waits_spec hk hi)
  · rw [getD_set_ne false hji] at hj; exact getD_set_true (h j hj k hk)
theorem Down.through {l : Array Bool} (h : Down md ops l) : ∀ (f j k : Nat), l.getD j false = true → waitsT md ops f j k = true → l.getD k false = true
  | 0, _, _, _, hw => by cases hw
  | f + 1, j, k, hj, hw => by
    simp only [waitsT, Bool.or_eq_true, List.any_eq_true, Bool.and_eq_true] at hw
    rcases hw with hw | ⟨m, _, h1, h2⟩
    · exact h j hj k hw
    · exact h.through f m k (h j hj m h1) h2
theorem Down.ready {l : Array Bool} (h : Down md ops l) {f i k : Nat} (hi : i ∈ Region.ready md ops l) (hw : waitsT md ops f i k = true) : l.getD k false = true := by
  cases f with
  | zero => cases hw
  | succ f =>
    simp only [waitsT, Bool.or_eq_true, List.any_eq_true, Bool.and_eq_true] at hw
    rcases hw with hw | ⟨m, _, h1, h2⟩
    · exact waits_spec hw hi
    · exact h.through f m k (waits_spec h1 hi) h2
/-- Each from n0 on waits for all ahead of it. -/
def tailB (md : Region.Mode) (ops : Array Oper) (n0 : Nat) : Bool := (List.range ops.size).all fun i => decide (i < n0) || (List.range i).all fun k => waitsT md ops ops.size i k
def tails (m : Nat) : Nat → List Nat
  | 0 => []
  | n + 1 => m :: tails (m + 1) n
theorem wpAny_phase {n0 : Nat} (I : Array Bool → Act → World → Prop) (hn : n0 ≤ ops.size) (hb : backB md ops = true) (ht : tailB md ops n0 = true)
    (step : ∀ l a w i, I l a w → l.size = ops.size → i < n0 → i ∈ Region.ready md ops l → wpOp P ops Q i (fun a' w' => I (l.setIfInBounds i true) a' w') a w)
    (fin : ∀ l a w, I l a w → l.size = ops.size → (∀ i, i < n0 → l.getD i false = true) → wpOps P ops Q (tails n0 (ops.size - n0)) a w) {a : Act} {w : World}
    (h : I (Array.replicate ops.size false) a w) : wpAny P md ops Q ops.size (Array.replicate ops.size false) a w := by
  have z : ∀ j, (Array.replicate ops.size false).getD j false = false := by intro j; simp [Array.getElem?_replicate]; split <;> rfl
  have hwt : ∀ i, n0 ≤ i → i < ops.size → ∀ k, k < i → waitsT md ops ops.size i k = true := by
    intro i h1 h2 k hk
    simp only [tailB, List.all_eq_true, List.mem_range, Bool.or_eq_true, decide_eq_true_eq] at ht
    rcases ht i h2 with h3 | h3
    · omega
    · exact h3 k hk
  refine wpAny_inv (fun l a w => l.size = ops.size ∧ Down md ops l ∧ (((∀ k, n0 ≤ k → l.getD k false = false) ∧ I l a w) ∨ ∃ m, n0 ≤ m ∧ m ≤ ops.size ∧ (∀ k, k < m → l.getD k false = true) ∧ (∀ k, m ≤ k → l.getD k false = false) ∧ wpOps P ops Q (tails m (ops.size - m)) a w)) ?_ ?_ _ _ _ _ ⟨by simp, fun j hj => absurd hj (by rw [z]; simp), .inl ⟨fun k _ => z k, h⟩⟩ (by simp [still])
  · rintro l a w i ⟨hl, hd, hor⟩ hi
    have hiu := (mem_ready.1 hi).1
    have hin : i < ops.size := by
      rcases Nat.lt_or_ge i l.size with h' | h'
      · omega
      · simp [Array.getElem?_eq_none h'] at hiu
    have hif : l.getD i false = false := by
      have : i < l.size := by omega
      simp [this] at hiu ⊢; exact hiu
    have sz : ∀ j, (l.setIfInBounds i true).getD j false = (if i = j then true else l.getD j false) := fun j => getD_set l i j (by omega)
    have key : ∀ m, n0 ≤ m → m ≤ ops.size → (∀ k, k < m → l.getD k false = true) → (∀ k, m ≤ k → l.getD k false = false) → wpOps P ops Q (tails m (ops.size - m)) a w → i = m ∧ wpOp P ops Q i (fun a' w' => wpOps P ops Q (tails (m + 1) (ops.size - (m + 1))) a' w') a w := by
      intro m h1 h2 h3 h4 h5
      have him : i = m := by
        rcases Nat.lt_trichotomy i m with h6 | h6 | h6
        · rw [h3 i h6] at hif; cases hif
        · exact h6
        · have := hd.ready hi (hwt i (by omega) hin m h6)
          rw [h4 m (Nat.le_refl _)] at this; cases this
      subst him
      refine ⟨rfl, ?_⟩
      have e : ops.size - i = (ops.size - (i + 1)) + 1 := by omega
      rw [e] at h5
      simp only [tails, wpOps_cons] at h5
      exact h5
    have fin2 : ∀ m, n0 ≤ m → m ≤ ops.size → (∀ k, k < m → l.getD k false = true) → (∀ k, m ≤ k → l.getD k false = false) → wpOps P ops Q (tails m (ops.size - m)) a w → wpOp P ops Q i (fun a' w' => (l.setIfInBounds i true).size = ops.size ∧ Down md ops (l.setIfInBounds i true) ∧ (((∀ k, n0 ≤ k → (l.setIfInBounds i true).getD k false = false) ∧ I (l.setIfInBounds i true) a' w') ∨ ∃ m, n0 ≤ m ∧ m ≤ ops.size ∧ (∀ k, k < m → (l.setIfInBounds i true).getD k false = true) ∧ (∀ k, m ≤ k → (l.setIfInBounds i true).getD k false = false) ∧ wpOps P ops Q (tails m (ops.size - m)) a' w')) a w := by
      intro m h1 h2 h3 h4 h5
      obtain ⟨rfl, h6⟩ := key m h1 h2 h3 h4 h5
      refine wpOp_mono (fun a' w' h7 => ⟨by simpa using hl, hd.set hi, .inr ⟨i + 1, by omega, hin, fun k hk => ?_, fun k hk => ?_, h7⟩⟩) h6
      · rw [sz]; split
        · rfl
        · exact h3 k (by omega)
      · rw [sz, if_neg (by omega)]; exact h4 k (by omega)
    rcases hor with ⟨hno, hI⟩ | ⟨m, h1, h2, h3, h4, h5⟩
    · rcases Nat.lt_or_ge i n0 with hlt | hge
      · refine wpOp_mono (fun a' w' h7 => ⟨by simpa using hl, hd.set hi, .inl ⟨fun k hk => ?_, h7⟩⟩) (step l a w i hI hl hlt hi)
        rw [sz, if_neg (by omega)]; exact hno k hk
      · have h3 : ∀ k, k < n0 → l.getD k false = true := fun k hk => hd.ready hi (hwt i hge hin k (by omega))
        exact fin2 n0 (Nat.le_refl _) hn h3 hno (fin l a w hI hl h3)
    · exact fin2 m h1 h2 h3 h4 h5
  · rintro l a w ⟨hl, hd, hor⟩ hr
    have hall := all_of_back hb hl hr
    rcases hor with ⟨hno, hI⟩ | ⟨m, h1, h2, h3, h4, h5⟩
    · have hnn : n0 = ops.size := by
        rcases Nat.lt_or_ge n0 ops.size with h' | h'
        · have := hall n0 h'; rw [hno n0 (Nat.le_refl _)] at this; cases this
        · omega
      have := fin l a w hI hl (fun i hi => hall i (by omega))
      rw [hnn, Nat.sub_self] at this
      simpa [tails, wpOps] using this
    · have hnn : m = ops.size := by
        rcases Nat.lt_or_ge m ops.size with h' | h'
        · have := hall m h'; rw [h4 m (Nat.le_refl _)] at this; cases this
        · omega
      rw [hnn, Nat.sub_self] at h5
      simpa [tails, wpOps] using h5
/-- All slots but those of D are as they were, and are so when these are put anew. -/
theorem Fr6.fold {D : List Tmp} {a0 a : Act} (h : Fr6 D a0 a) (hin : (D.all fun t => decide (t < a0.tmps.size)) = true) : a = D.foldl (fun b t => b.put (some t) (a.tmps.getD t undef)) a0 := by
  have key : ∀ (D : List Tmp) (b : Act), (D.all fun t => decide (t < b.tmps.size)) = true → b.defers = a.defers → b.tmps.size = a.tmps.size → (∀ j, j ∉ D → a.tmps.getD j undef = b.tmps.getD j undef) → a = D.foldl (fun b t => b.put (some t) (a.tmps.getD t undef)) b := by
    intro D
    induction D with
    | nil => intro b _ h1 h2 h3; exact act_ext h1.symm h2.symm (fun j => h3 j (by simp))
    | cons t D ih =>
      intro b h0 h1 h2 h3
      simp only [List.all_cons, Bool.and_eq_true, decide_eq_true_eq] at h0
      rw [List.foldl_cons]
      refine ih _ ?_ (by rw [put_defers]; exact h1) (by rw [put_size]; exact h2) (fun j hj => ?_)
      · rw [List.all_eq_true] at h0 ⊢
        intro x hx; rw [put_size]; exact h0.2 x hx
      · exact put_at j h0.1 rfl (fun hne => h3 j (by simp [hne, hj]))
  exact key D a0 hin h.1.symm h.2.1.symm h.2.2
/-- Loads, calls and new boxes in whatever order; behind them the stores. -/
theorem wp_operands {id : Nat} {a0 : Act} {W : World} (hm : P.follows .mixedOrders = true) (n0 : Nat) (D : List Tmp) (R : Nat → Value → World → Prop) (al : Nat → Bool)
    (hn : n0 ≤ ops.size) (hD : D.length = n0) (hb : backB .any ops = true) (ht : tailB .any ops n0 = true) (hnd : D.Nodup) (hin : (D.all fun t => decide (t < a0.tmps.size)) = true)
    (st : ∀ i u w w', i < n0 → R i u w → Below w.heap.size w w' → R i u w')
    (hal : ∀ i u w, al i = true → R i u w → ∃ g, u = .pointer (some ⟨g, 0, none⟩) ∧ g < w.heap.size)
    (step : ∀ i a w K, i < n0 → Fr6 D a0 a → Below W.heap.size W w → (∀ k, waitsB .any ops i k = true → R k (a.tmps.getD (D.getD k 0) undef) w) →
      (∀ u w', R i u w' → Below w.heap.size w w' → (al i = true → u = .pointer (some ⟨w.heap.size, 0, none⟩)) → K (a.put (some (D.getD i 0)) u) w') → wpOp P ops Q i K a w)
    (fin : ∀ a w, Fr6 D a0 a → Below W.heap.size W w → (∀ i, i < n0 → R i (a.tmps.getD (D.getD i 0) undef) w) → (∀ i j, i < n0 → j < n0 → i ≠ j → al i = true → al j = true → a.tmps.getD (D.getD i 0) undef ≠ a.tmps.getD (D.getD j 0) undef) →
      wpOps P ops Q (tails n0 (ops.size - n0)) a w) : (Code.region id ops true).wp P Q a0 W := by
  have hmem : ∀ i, i < n0 → D.getD i 0 ∈ D := fun i hi => by rw [List.getD_eq_getElem?_getD, List.getElem?_eq_getElem (by omega)]; exact List.getElem_mem _
  have hlt : ∀ i, i < n0 → D.getD i 0 < a0.tmps.size := fun i hi => by
    rw [List.all_eq_true] at hin
    simpa using hin _ (hmem i hi)
  have hne : ∀ i j, i < n0 → j < n0 → i ≠ j → D.getD i 0 ≠ D.getD j 0 := fun i j hi hj h e => by
    rw [List.getD_eq_getElem?_getD, List.getD_eq_getElem?_getD, List.getElem?_eq_getElem (by omega), List.getElem?_eq_getElem (by omega)] at e
    exact h ((List.getElem_inj hnd).1 (by simpa using e))
  have hwk : ∀ l : Array Bool, l.size = ops.size → ∀ i k, i ∈ Region.ready .any ops l → waitsB .any ops i k = true → i < n0 → k < n0 := by
    intro l hl i k hi hk hi0
    have hlt : i < ops.size := by omega
    simp only [backB, List.all_eq_true, List.mem_range] at hb
    have h1 := hb i hlt
    simp only [Array.getElem?_eq_getElem hlt, Option.map_some, Option.getD_some, Array.all_eq_true_iff_forall_mem] at h1
    simp only [waitsB, Array.getElem?_eq_getElem hlt, Option.map_some, Option.getD_some, Array.any_eq_true'] at hk
    obtain ⟨e, he, h2⟩ := hk
    simp only [Bool.and_eq_true, beq_iff_eq] at h2
    have h3 := h1 e he
    simp only [h2.1, Bool.not_true, Bool.false_or, decide_eq_true_eq] at h3
    omega
  have z : ∀ j, (Array.replicate ops.size false).getD j false = false := by intro j; simp [Array.getElem?_replicate]; split <;> rfl
  refine wp_region_any hm (wpAny_phase (fun l a w => Fr6 D a0 a ∧ Below W.heap.size W w ∧ (∀ i, i < n0 → l.getD i false = true → R i (a.tmps.getD (D.getD i 0) undef) w) ∧
    (∀ i j, i < n0 → j < n0 → i ≠ j → l.getD i false = true → l.getD j false = true → al i = true → al j = true → a.tmps.getD (D.getD i 0) undef ≠ a.tmps.getD (D.getD j 0) undef)) hn hb ht ?_ ?_ ⟨⟨rfl, rfl, fun _ _ => rfl⟩, ⟨rfl, rfl, rfl, Nat.le_refl _, fun _ _ => rfl⟩, fun i _ hi => absurd hi (by rw [z]; simp), fun i j _ _ _ hi => absurd hi (by rw [z]; simp)⟩)
  · rintro l a w i ⟨hF, hbw, hR, hA⟩ hl hi0 hi
    have sz : ∀ j, (l.setIfInBounds i true).getD j false = (if i = j then true else l.getD j false) := fun j => getD_set l i j (by omega)
    have ps : a.tmps.size = a0.tmps.size := hF.2.1
    refine step i a w _ hi0 hF hbw (fun k hk => hR k (hwk l hl i k hi hk hi0) (waits_spec hk hi)) (fun u w' hu hbb hua => ⟨hF.put (hmem i hi0) _, hbw.trans (hbb.mono hbw.size), fun j hj hjl => ?_, fun j k hj hk hjk hjl hkl haj hak => ?_⟩)
    · by_cases hij : i = j
      · subst hij; rw [put_same _ _ _ (by rw [ps]; exact hlt i hi0)]; exact hu
      · rw [sz, if_neg hij] at hjl
        rw [put_other _ _ _ _ (hne i j hi0 hj hij)]
        exact st j _ _ _ hj (hR j hj hjl) hbb
    · by_cases hij : i = j
      · subst hij
        rw [put_same _ _ _ (by rw [ps]; exact hlt i hi0), put_other _ _ _ _ (hne i k hi0 hk hjk)]
        rw [sz, if_neg hjk] at hkl
        obtain ⟨g, e, hg⟩ := hal k _ _ hak (hR k hk hkl)
        rw [e, hua haj]; intro e2; injection e2 with e2; injection e2 with e2; injection e2 with e2; omega
      · rw [sz, if_neg hij] at hjl
        rw [put_other _ _ _ _ (hne i j hi0 hj hij)]
        by_cases hik : i = k
        · subst hik
          rw [put_same _ _ _ (by rw [ps]; exact hlt i hi0)]
          obtain ⟨g, e, hg⟩ := hal j _ _ haj (hR j hj hjl)
          rw [e, hua hak]; intro e2; injection e2 with e2; injection e2 with e2; injection e2 with e2; omega
        · rw [sz, if_neg hik] at hkl
          rw [put_other _ _ _ _ (hne i k hi0 hk hik)]
          exact hA j k hj hk hjk hjl hkl haj hak
  · rintro l a w ⟨hF, hbw, hR, hA⟩ _ hall
    exact fin a w hF hbw (fun i hi => hR i hi (hall i hi)) (fun i j hi hj hij h1 h2 => hA i j hi hj hij (hall i hi) (hall j hj) h1 h2)
end
end Go.Proofs.YtfhdhldgflbpjaaDoor
end

section
/-
  Plain arithmetic of the long division: a guessed digit, and what is left.
-/
namespace Go.Proofs.YtfhdhldgflbpjaaDoor
theorem kn_start {u v p f t l : Nat} (hf : 0 < f) (hu : u < (t + 1) * p) (hv : f * p ≤ v) (hl : l * v ≤ u) : l ≤ t / f := by
  have h1 : l * f * p ≤ u := Nat.le_trans (by rw [Nat.mul_assoc]; exact Nat.mul_le_mul_left l hv) hl
  have h2 : l * f < t + 1 := Nat.lt_of_mul_lt_mul_right (Nat.lt_of_le_of_lt h1 hu)
  exact (Nat.le_div_iff_mul_le hf).2 (by omega)
/-- A guess that fails the test is too much. -/
theorem kn_down {u v p f s t r d x l : Nat} (hu : u < ((t * 4294967296 + x) + 1) * p) (hv : (f * 4294967296 + s) * p ≤ v) (hl : l * v ≤ u) (ht : d * f + r = t) (hd : r * 4294967296 + x < d * s) : l + 1 ≤ d := by
  rcases Nat.lt_or_ge l d with h | h
  · exact h
  · exfalso
    have h1 : l * (f * 4294967296 + s) * p ≤ u := Nat.le_trans (by rw [Nat.mul_assoc]; exact Nat.mul_le_mul_left l hv) hl
    have h2 : l * (f * 4294967296 + s) < t * 4294967296 + x + 1 := Nat.lt_of_mul_lt_mul_right (Nat.lt_of_le_of_lt h1 hu)
    have h3 := Nat.mul_le_mul_right (f * 4294967296 + s) h
    have h4 : d * (f * 4294967296 + s) = d * f * 4294967296 + d * s := by rw [Nat.mul_add, Nat.mul_assoc]
    have h5 : t * 4294967296 = d * f * 4294967296 + r * 4294967296 := by rw [← ht, Nat.add_mul]
    omega
/-- A guess that passes the test is at most one too much. -/
theorem kn_near {u v p f s t r d x l : Nat} (hu : (t * 4294967296 + x) * p ≤ u) (hv : v < ((f * 4294967296 + s) + 1) * p) (hl : u < (l + 1) * v) (ht : d * f + r = t) (hd : d * s ≤ r * 4294967296 + x) (hb : d ≤ f * 4294967296) : d ≤ l + 1 := by
  rcases Nat.lt_or_ge (l + 1) d with h | h
  · exfalso
    have h4 : d * (f * 4294967296 + s) = d * f * 4294967296 + d * s := by rw [Nat.mul_add, Nat.mul_assoc]
    have h5 : t * 4294967296 = d * f * 4294967296 + r * 4294967296 := by rw [← ht, Nat.add_mul]
    have h6 : d * (f * 4294967296 + s) ≤ t * 4294967296 + x := by omega
    have h7 : d * (f * 4294967296 + s) * p < (l + 1) * v := Nat.lt_of_le_of_lt (Nat.le_trans (Nat.mul_le_mul_right p h6) hu) hl
    have h8 : (l + 1) * v ≤ (d - 1) * v := Nat.mul_le_mul_right v (by omega)
    have h9 : (d - 1) * v ≤ (d - 1) * ((f * 4294967296 + s) + 1) * p := by rw [Nat.mul_assoc]; exact Nat.mul_le_mul_left _ (by omega)
    have h10 : d * (f * 4294967296 + s) < (d - 1) * ((f * 4294967296 + s) + 1) := Nat.lt_of_mul_lt_mul_right (Nat.lt_of_lt_of_le h7 (Nat.le_trans h8 h9))
    obtain ⟨e, rfl⟩ : ∃ e, d = e + 1 := ⟨d - 1, by omega⟩
    rw [Nat.add_sub_cancel, Nat.mul_add e, Nat.add_mul] at h10
    omega
  · exact h
/-- Where the rest is past 32 bits, the guess passes. -/
theorem kn_past {f s t r d x : Nat} (hs : s < 4294967296) (htop : t < (f + 1) * 4294967296) (ht : d * f + r = t) (hr : 4294967296 ≤ r) : d < 4294967296 ∧ d * s ≤ r * 4294967296 + x := by
  have h1 : d * f < f * 4294967296 := by rw [Nat.add_mul] at htop; omega
  have h2 : d < 4294967296 := by rw [Nat.mul_comm f] at h1; exact Nat.lt_of_mul_lt_mul_right h1
  refine ⟨h2, ?_⟩
  have h3 : d * s ≤ 4294967296 * 4294967296 := Nat.mul_le_mul (by omega) (by omega)
  have h4 : 4294967296 * 4294967296 ≤ r * 4294967296 := Nat.mul_le_mul_right _ hr
  omega
theorem kn_top {u v p f t : Nat} (hu : t * p ≤ u) (hv : v < (f + 1) * p) (hl : u < v * 4294967296) : t < (f + 1) * 4294967296 := by
  have h1 : v * 4294967296 < (f + 1) * p * 4294967296 := Nat.mul_lt_mul_of_pos_right hv (by omega)
  have h2 : t * p < (f + 1) * 4294967296 * p := by rw [Nat.mul_right_comm]; omega
  exact Nat.lt_of_mul_lt_mul_right h2
/-- The last digits of a list, and the others. -/
theorem val_top1 {xs : List Nat} {k : Nat} (h : xs.length = k + 1) : val xs = val (xs.take k) + 4294967296 ^ k * (xs[k]?.getD 0) := by
  have e := take_one (xs := xs) (k := k) (by omega)
  rw [List.take_of_length_le (by omega)] at e
  conv => lhs; rw [e]
  rw [val_snoc, List.length_take, Nat.min_eq_left (by omega)]
theorem val_top2 {xs : List Nat} {k : Nat} (h : xs.length = k + 2) : val xs = val (xs.take k) + 4294967296 ^ k * (xs[k]?.getD 0 + 4294967296 * (xs[k + 1]?.getD 0)) := by
  rw [val_top1 (k := k + 1) h, take_one (by omega), val_snoc, List.length_take, Nat.min_eq_left (by omega), Nat.pow_succ, Nat.mul_add, Nat.mul_assoc]; omega
theorem val_take_lt {xs : List Nat} (h : ok32 xs) (k : Nat) (hk : k ≤ xs.length) : val (xs.take k) < 4294967296 ^ k := by
  have := val_lt (xs := xs.take k) (fun x hx => h x (List.mem_of_mem_take hx))
  rwa [List.length_take, Nat.min_eq_left hk] at this
theorem between {a b p t : Nat} (h : b < p) (e : a = b + p * t) : t * p ≤ a ∧ a < (t + 1) * p := by
  rw [Nat.mul_comm p] at e; rw [Nat.add_mul]; omega
/-- What a list is, seen from its first two places. -/
theorem val_seen1 {xs : List Nat} (h : ok32 xs) {k : Nat} (hk : xs.length = k + 1) : (xs[k]?.getD 0) * 4294967296 ^ k ≤ val xs ∧ val xs < (xs[k]?.getD 0 + 1) * 4294967296 ^ k :=
  between (val_take_lt h k (by omega)) (val_top1 hk)
theorem val_seen2 {xs : List Nat} (h : ok32 xs) {k : Nat} (hk : xs.length = k + 2) : (xs[k + 1]?.getD 0 * 4294967296 + xs[k]?.getD 0) * 4294967296 ^ k ≤ val xs ∧ val xs < (xs[k + 1]?.getD 0 * 4294967296 + xs[k]?.getD 0 + 1) * 4294967296 ^ k :=
  between (val_take_lt h k (by omega)) (by rw [val_top2 hk, Nat.mul_comm (xs[k + 1]?.getD 0), Nat.add_comm (4294967296 * _)])
theorem val_seen3 {xs : List Nat} (h : ok32 xs) {k : Nat} (hk : xs.length = k + 3) : ((xs[k + 2]?.getD 0 * 4294967296 + xs[k + 1]?.getD 0) * 4294967296 + xs[k]?.getD 0) * 4294967296 ^ k ≤ val xs ∧
    val xs < ((xs[k + 2]?.getD 0 * 4294967296 + xs[k + 1]?.getD 0) * 4294967296 + xs[k]?.getD 0 + 1) * 4294967296 ^ k := by
  refine between (val_take_lt h k (by omega)) ?_
  have e : xs[k]?.getD 0 + 4294967296 * (xs[k + 1]?.getD 0 + 4294967296 * (xs[k + 2]?.getD 0)) = (xs[k + 2]?.getD 0 * 4294967296 + xs[k + 1]?.getD 0) * 4294967296 + xs[k]?.getD 0 := by omega
  rw [val_top2 (k := k + 1) hk, take_one (by omega), val_snoc, List.length_take, Nat.min_eq_left (by omega), Nat.pow_succ, ← e, Nat.mul_add (4294967296 ^ k) (xs[k]?.getD 0), Nat.mul_assoc (4294967296 ^ k) 4294967296, Nat.add_assoc]
/-- A digit off: what is left. -/
theorem kn_left {u v d l r c p : Nat} (hv : 0 < v) (hl : l = u / v) (h1 : l ≤ d) (h2 : d ≤ l + 1) (e : u + p * c = r + d * v) (hr : r < p) (hu : u < p) (hvp : v ≤ p) : (c = 0 ∧ d = l ∧ r = u % v) ∨ (1 = c ∧ d = l + 1 ∧ (r + v) % p = u % v ∧ p ≤ r + v) := by
  have h3 := Nat.div_add_mod u v
  have h4 := Nat.mod_lt u hv
  rw [← hl, Nat.mul_comm] at h3
  rcases Nat.lt_or_ge l d with h | h
  · have : d = l + 1 := by omega
    subst this
    rw [Nat.add_mul] at e
    right
    have hc : c = 1 := by
      rcases c with _ | _ | c
      · omega
      · rfl
      · exfalso
        have : p * (c + 1 + 1) = p * c + p + p := by rw [Nat.mul_add, Nat.mul_add]; omega
        omega
    subst hc
    refine ⟨rfl, rfl, ?_, by omega⟩
    have : r + v = u % v + p := by omega
    rw [this, Nat.add_mod_right, Nat.mod_eq_of_lt (by omega)]
  · have : d = l := by omega
    subst this
    left
    have hc : c = 0 := by
      rcases c with _ | c
      · rfl
      · exfalso
        have : p * (c + 1) = p * c + p := by rw [Nat.mul_add]; omega
        omega
    subst hc
    exact ⟨rfl, rfl, by omega⟩
end Go.Proofs.YtfhdhldgflbpjaaDoor
end

section
/-
  Plain arithmetic of the long division: a row of digits in its list, a quotient's digit.
-/
namespace Go.Proofs.YtfhdhldgflbpjaaDoor
open Go.RowKit
theorem take_step {zs z0 ys : List Nat} {off k d c b b' x t : Nat} (hz : off + k < zs.length) (hz0 : off + k < z0.length) (hy : k < ys.length)
    (h : val (z0.take (off + k)) + 4294967296 ^ (off + k) * (c + b) = val (zs.take (off + k)) + 4294967296 ^ off * (val (ys.take k) * x))
    (hs : z0[off + k]?.getD 0 + 4294967296 * (d + b') = t + (ys[k]?.getD 0 * x + c) + b) :
    val (z0.take (off + (k + 1))) + 4294967296 ^ (off + (k + 1)) * (d + b') = val ((zs.set (off + k) t).take (off + (k + 1))) + 4294967296 ^ off * (val (ys.take (k + 1)) * x) := by
  rw [← Nat.add_assoc, take_set hz, take_one hz0, take_one hy, val_snoc, val_snoc, val_snoc, List.length_take, List.length_take, List.length_take, Nat.min_eq_left (by omega), Nat.min_eq_left (by omega), Nat.min_eq_left (by omega), Nat.pow_succ]
  have e1 : 4294967296 ^ off * ((val (ys.take k) + 4294967296 ^ k * (ys[k]?.getD 0)) * x) = 4294967296 ^ off * (val (ys.take k) * x) + 4294967296 ^ (off + k) * (ys[k]?.getD 0 * x) := by
    rw [Nat.add_mul, Nat.mul_add, Nat.pow_add]; congr 1; simp only [Nat.mul_assoc]
  have e2 : 4294967296 ^ (off + k) * (z0[off + k]?.getD 0) + 4294967296 ^ (off + k) * 4294967296 * (d + b') = 4294967296 ^ (off + k) * t + 4294967296 ^ (off + k) * (ys[k]?.getD 0 * x) + 4294967296 ^ (off + k) * (c + b) := by
    rw [Nat.mul_assoc, ← Nat.mul_add, hs, ← Nat.mul_add, ← Nat.mul_add]; congr 1; omega
  rw [e1]
  omega
theorem take_last {zs z0 : List Nat} {k c b b' t E : Nat} (hz : k < zs.length) (hz0 : k < z0.length)
    (h : val (z0.take k) + 4294967296 ^ k * (c + b) = val (zs.take k) + E) (hs : t + c + b = z0[k]?.getD 0 + 4294967296 * b') :
    val (z0.take (k + 1)) + 4294967296 ^ (k + 1) * b' = val ((zs.set k t).take (k + 1)) + E := by
  rw [take_set hz, take_one hz0, val_snoc, val_snoc, List.length_take, List.length_take, Nat.min_eq_left (by omega), Nat.min_eq_left (by omega), Nat.pow_succ]
  have e2 : 4294967296 ^ k * (z0[k]?.getD 0) + 4294967296 ^ k * 4294967296 * b' = 4294967296 ^ k * t + 4294967296 ^ k * (c + b) := by
    rw [Nat.mul_assoc, ← Nat.mul_add, ← hs, ← Nat.mul_add]; congr 1; omega
  omega
theorem val_split (xs : List Nat) {k : Nat} (h : k ≤ xs.length) : val xs = val (xs.take k) + 4294967296 ^ k * val (xs.drop k) := by
  conv => lhs; rw [← List.take_append_drop k xs, val_append, List.length_take, Nat.min_eq_left h]
theorem whole_of_take {zs z0 : List Nat} {k b E : Nat} (hk : k ≤ z0.length) (hl : zs.length = z0.length) (hd : zs.drop k = z0.drop k) (h : val (z0.take k) + 4294967296 ^ k * b = val (zs.take k) + E) :
    val z0 + 4294967296 ^ k * b = val zs + E := by
  rw [val_split z0 hk, val_split zs (by omega : k ≤ zs.length), hd]; omega
theorem drop_of_get {zs z0 : List Nat} {k : Nat} (h : ∀ j, k ≤ j → zs[j]? = z0[j]?) : zs.drop k = z0.drop k := by
  apply List.ext_getElem?
  intro j
  rw [List.getElem?_drop, List.getElem?_drop, h _ (by omega)]
theorem val_pos_of_get : ∀ (xs : List Nat) (j : Nat), xs[j]?.getD 0 ≠ 0 → 4294967296 ^ j ≤ val xs := by
  intro xs
  induction xs with
  | nil => intro j h; simp at h
  | cons x r ih =>
    intro j h
    rcases j with _ | j
    · simp at h; simp only [val, Nat.pow_zero]; omega
    · have := ih j (by simpa using h); simp only [val, Nat.pow_succ]; omega
/-- A list whose number is below B^k has noughts from k on. -/
theorem drop_zero {xs : List Nat} {k : Nat} (hk : k ≤ xs.length) (h : val xs < 4294967296 ^ k) : val (xs.drop k) = 0 := by
  rcases Nat.eq_zero_or_pos (val (xs.drop k)) with h0 | h0
  · exact h0
  · exfalso
    have := val_split xs hk
    have := Nat.le_mul_of_pos_right (4294967296 ^ k) h0
    omega
theorem below_of_drop {xs : List Nat} (hok : ok32 xs) {k : Nat} (hk : k ≤ xs.length) (h : val (xs.drop k) = 0) : val xs < 4294967296 ^ k := by
  rw [val_split xs hk, h, Nat.mul_zero, Nat.add_zero]; exact val_take_lt hok k hk
/-- A row in its list. -/
theorem val_window {xs : List Nat} (hok : ok32 xs) {j m : Nat} (hk : j + m ≤ xs.length) (h : val xs < 4294967296 ^ (j + m)) : val ((xs.drop j).take m) = val xs / 4294967296 ^ j := by
  have h1 := val_split xs (k := j) (by omega)
  have h2 := val_split (xs.drop j) (k := m) (by rw [List.length_drop]; omega)
  have h3 : val ((xs.drop j).drop m) = 0 := by rw [List.drop_drop]; exact drop_zero hk h
  rw [h3, Nat.mul_zero, Nat.add_zero] at h2
  have h4 := val_take_lt hok j (by omega)
  rw [h1, ← h2, Nat.add_mul_div_left _ _ (Nat.pow_pos (by omega)), Nat.div_eq_of_lt h4, Nat.zero_add]
theorem val_set_zero : ∀ (xs : List Nat) (j d : Nat), j < xs.length → xs[j]?.getD 0 = 0 → val (xs.set j d) = val xs + 4294967296 ^ j * d := by
  intro xs
  induction xs with
  | nil => intro j d h; simp at h
  | cons x r ih =>
    intro j d h h0
    rcases j with _ | j
    · simp at h0; subst h0; simp [val]; omega
    · have := ih j d (by simpa using h) (by simpa using h0)
      simp only [List.set_cons_succ, val, this, Nat.pow_succ]
      rw [Nat.mul_add, Nat.mul_right_comm, Nat.mul_comm _ 4294967296]; omega
/-- One digit of the quotient: what is left, whether the guess was right or one too much. -/
theorem div_fix {L P v Q l x b M : Nat} (hP : 0 < P) (hv : 0 < v) (hl : l = L / P / v) (h1 : l ≤ x) (h2 : x ≤ l + 1) (hvQ : P * v ≤ Q) (hMQ : M < Q) (h : L + Q * b = M + P * (v * x)) :
    P * (v * l) ≤ L ∧ L - P * (v * l) < v * P ∧ ((b = 0 ∧ x = l ∧ M = L - P * (v * l)) ∨ (b = 1 ∧ x = l + 1 ∧ ∀ c M', M' < Q → M' + Q * c = M + P * v → M' = L - P * (v * l))) := by
  have e1 := Nat.div_add_mod L P
  have e2 := Nat.div_add_mod (L / P) v
  have e3 := Nat.mod_lt L hP
  have e4 := Nat.mod_lt (L / P) hv
  rw [← hl] at e2
  have e5 : P * (L / P) = P * (v * l) + P * (L / P % v) := by rw [← Nat.mul_add, e2]
  have e6 : P * (L / P % v) + P ≤ P * v := by have := Nat.mul_le_mul_left P e4; rw [Nat.mul_succ] at this; exact this
  rw [Nat.mul_comm v P]
  have e7 : P * (v * (l + 1)) = P * (v * l) + P * v := by rw [Nat.mul_add, Nat.mul_one, Nat.mul_add]
  generalize eT : P * (v * l) = T at *
  refine ⟨by omega, by omega, ?_⟩
  rcases Nat.lt_or_ge l x with hx | hx
  · have : x = l + 1 := by omega
    subst this
    rw [e7] at h
    right
    have hb : b = 1 := by
      rcases b with _ | _ | b
      · omega
      · rfl
      · exfalso; rw [Nat.mul_add, Nat.mul_add] at h; omega
    subst hb
    refine ⟨rfl, rfl, fun c M' hM' hc => ?_⟩
    rcases c with _ | _ | c
    · omega
    · omega
    · exfalso; rw [Nat.mul_add, Nat.mul_add] at hc; omega
  · have : x = l := by omega
    subst this
    rw [eT] at h
    left
    have hb : b = 0 := by
      rcases b with _ | b
      · rfl
      · exfalso; rw [Nat.mul_add] at h; omega
    subst hb
    exact ⟨rfl, rfl, by omega⟩
end Go.Proofs.YtfhdhldgflbpjaaDoor
end

section
/-
  quo.takeOff, giveBack: a row of the long division.
-/
namespace Go.Proofs.YtfhdhldgflbpjaaDoor
open Go.RowKit
/-- All blocks but one are as they were. -/
def Rest (g : Nat) (w w' : World) : Prop := w'.heap.size = w.heap.size ∧ ∀ b, b ≠ g → w'.heap[b]? = w.heap[b]?
theorem Rest.refl (g : Nat) (w : World) : Rest g w w := ⟨rfl, fun _ _ => rfl⟩
theorem Rest.set_ {g : Nat} {w w' : World} (h : Rest g w w') (i : Nat) (v : Value) : Rest g w (w'.setCell ⟨g, i, none⟩ v) := by
  refine ⟨by rw [← h.1]; simp [World.setCell], fun b hb => ?_⟩
  rw [← h.2 b hb]
  simp [World.setCell, Array.getElem?_modify]
  intro e; exact absurd e.symm hb
theorem Rest.drewN {g : Nat} {w w' : World} (h : Rest g w w') (n : Nat) : Rest g w (w'.drewN n) := h
theorem Rest.row {g q : Nat} {w w' : World} {ys : List Nat} (h : Rest g w w') (hr : Row w q ys) (hq : q ≠ g) : Row w' q ys := (h.2 q hq).trans hr
theorem add_last {zs z0 : List Nat} {k c d t E : Nat} (hz : k < zs.length) (hz0 : k < z0.length)
    (h : val (zs.take k) + 4294967296 ^ k * c = val (z0.take k) + E) (hs : t + 4294967296 * d = z0[k]?.getD 0 + c) :
    val ((zs.set k t).take (k + 1)) + 4294967296 ^ (k + 1) * d = val (z0.take (k + 1)) + E := by
  rw [take_set hz, take_one hz0, val_snoc, val_snoc, List.length_take, List.length_take, Nat.min_eq_left (by omega), Nat.min_eq_left (by omega), Nat.pow_succ]
  have e2 : 4294967296 ^ k * t + 4294967296 ^ k * 4294967296 * d = 4294967296 ^ k * (z0[k]?.getD 0) + 4294967296 ^ k * c := by
    rw [Nat.mul_assoc, ← Nat.mul_add, hs, ← Nat.mul_add]
  omega
end Go.Proofs.YtfhdhldgflbpjaaDoor
end

section
/-
  quo.guess: a quotient's digit, or one more.
-/
namespace Go.Proofs.YtfhdhldgflbpjaaDoor
open Go.RowKit
/-- What the guess leans on: f and s the divisor's first digits, t and x the row's, l the digit. -/
structure Gs (f s t x l : Nat) : Prop where
  hf : 2147483648 ≤ f
  hf' : f < 4294967296
  hs : s < 4294967296
  hx : x < 4294967296
  ht : t < (f + 1) * 4294967296
  hl : l < 4294967296
  start : l ≤ t / f
  down : ∀ d r, d * f + r = t → r * 4294967296 + x < d * s → l + 1 ≤ d
  near : ∀ d r, d * f + r = t → d < 4294967296 → d * s ≤ r * 4294967296 + x → d ≤ l + 1
theorem gs_of {R V : List Nat} {k : Nat} (oR : ok32 R) (oV : ok32 V) (hR : R.length = k + 3) (hV : V.length = k + 2) (hf : 2147483648 ≤ V[k + 1]?.getD 0) (hlt : val R < val V * 4294967296) :
    Gs (V[k + 1]?.getD 0) (V[k]?.getD 0) (R[k + 1]?.getD 0 + 4294967296 * (R[k + 2]?.getD 0)) (R[k]?.getD 0) (val R / val V) := by
  have r1 := val_seen3 oR hR
  have v2 := val_seen2 oV hV
  have v1 := val_seen1 oV (k := k + 1) hV
  have r2 : (R[k + 2]?.getD 0 * 4294967296 + R[k + 1]?.getD 0) * 4294967296 ^ (k + 1) ≤ val R ∧ val R < (R[k + 2]?.getD 0 * 4294967296 + R[k + 1]?.getD 0 + 1) * 4294967296 ^ (k + 1) := val_seen2 oR (k := k + 1) hR
  have hp : 0 < 4294967296 ^ (k + 1) := Nat.pow_pos (by omega)
  have et : R[k + 1]?.getD 0 + 4294967296 * (R[k + 2]?.getD 0) = R[k + 2]?.getD 0 * 4294967296 + R[k + 1]?.getD 0 := by omega
  have hvp : 0 < val V := by
    rcases Nat.eq_zero_or_pos (val V) with h0 | h0
    · rw [h0, Nat.zero_mul] at hlt; omega
    · exact h0
  have hd := Nat.div_mul_le_self (val R) (val V)
  have hu : val R < (val R / val V + 1) * val V := by
    have := Nat.div_add_mod (val R) (val V)
    have := Nat.mod_lt (val R) hvp
    rw [Nat.add_mul, Nat.mul_comm (_ / _)]; omega
  rw [et]
  refine ⟨hf, getD_lt oV _, getD_lt oV _, getD_lt oR _, kn_top r2.1 v1.2 hlt, ?_, kn_start (by omega) r2.2 v1.1 hd, fun d r h1 h2 => kn_down r1.2 v2.1 hd h1 h2, fun d r h1 h2 h3 => kn_near r1.1 v2.2 hu h1 h3 ?_⟩
  · rw [Nat.div_lt_iff_lt_mul hvp, Nat.mul_comm]; exact hlt
  · have := Nat.mul_le_mul_right 4294967296 hf; omega
theorem Gs.small {f s t x l : Nat} (h : Gs f s t x l) {d r : Nat} (e : d * f + r = t) : d < 8589934592 := by
  have h1 := h.ht
  have h2 := Nat.mul_le_mul_left d h.hf
  have h3 := h.hf'
  have h4 : d * 2147483648 ≤ t := by omega
  have h5 := Nat.mul_lt_mul_of_pos_right (show f + 1 < 4294967298 by omega) (show 0 < 4294967296 by omega)
  omega
theorem Gs.down' {f s t x l : Nat} (h : Gs f s t x l) {d r : Nat} (e : d * f + r = t) (hd : 4294967296 ≤ d ∨ r * 4294967296 + x < d * s) : l + 1 ≤ d := by
  rcases hd with hd | hd
  · have := h.hl; omega
  · exact h.down d r e hd
theorem Gs.fin {f s t x l : Nat} (h : Gs f s t x l) {d r : Nat} (e : d * f + r = t) (hl : l ≤ d) (hd : 4294967296 ≤ r ∨ (d < 4294967296 ∧ d * s ≤ r * 4294967296 + x)) : d < 4294967296 ∧ l ≤ d ∧ d ≤ l + 1 := by
  rcases hd with hd | ⟨h1, h2⟩
  · obtain ⟨h1, h2⟩ := kn_past (x := x) h.hs h.ht e hd
    exact ⟨h1, hl, h.near d r e h1 h2⟩
  · exact ⟨h1, hl, h.near d r e h1 h2⟩
theorem step_eq {d f r t : Nat} (e : d * f + r = t) (hd : 1 ≤ d) : (d - 1) * f + (r + f) = t := by
  obtain ⟨c, rfl⟩ : ∃ c, d = c + 1 := ⟨d - 1, by omega⟩
  rw [Nat.add_mul] at e; rw [Nat.add_sub_cancel]; omega
theorem drawn_refl (w : World) : ∃ N, w = w.drewN N := ⟨0, rfl⟩
theorem drawn_drewN {w w' : World} (h : ∃ N, w' = w.drewN N) (k : Nat) : ∃ N, w'.drewN k = w.drewN N := by obtain ⟨N, rfl⟩ := h; exact ⟨N + k, World.drewN_drewN _ _ _⟩
theorem drawn_drew {w w' : World} (h : ∃ N, w' = w.drewN N) : ∃ N, w'.drew = w.drewN N := by obtain ⟨N, rfl⟩ := h; exact ⟨N + 1, rfl⟩
end Go.Proofs.YtfhdhldgflbpjaaDoor
end

section
/-
  The divisor moved up until its first bit is 1.
-/
namespace Go.Proofs.YtfhdhldgflbpjaaDoor
open Go.RowKit
theorem bits_le : ∀ (k x : Nat), x < 2 ^ k → blen x ≤ k := by
  intro k
  induction k with
  | zero => intro x h; simp at h; subst h; rw [blen_zero]; omega
  | succ k ih =>
    intro x h
    rcases Nat.eq_zero_or_pos x with h0 | h0
    · subst h0; rw [blen_zero]; omega
    · rw [blen_pos (by omega)]
      have := ih (x / 2) (by rw [Nat.pow_succ] at h; omega)
      omega
theorem norm_way {b : Nat} (hb : b ≠ 0) : ∃ s, s ≤ 31 ∧ blen b + s = 32 * (digs b).length := by
  have h := blen_digs b hb
  have hl : 0 < (digs b).length := by
    rcases Nat.eq_zero_or_pos (digs b).length with h0 | h0
    · exact absurd (digs_nil.1 h0) hb
    · exact h0
  have h1 := bits_le 32 _ (getD_lt (ok_digs b) ((digs b).length - 1))
  have h2 : 1 ≤ blen ((digs b)[(digs b).length - 1]?.getD 0) := by
    have hne : (digs b)[(digs b).length - 1]?.getD 0 ≠ 0 := by
      have e : (digs b)[(digs b).length - 1]? = some (digs b)[(digs b).length - 1] := List.getElem?_eq_getElem (by omega)
      rw [e]
      exact last_digs (by rw [List.getLast?_eq_getElem?, e]; rfl)
    rw [blen_pos hne]; omega
  exact ⟨32 * (digs b).length - blen b, by omega, by omega⟩
theorem norm_top {b s : Nat} (hb : b ≠ 0) (hs : blen b + s = 32 * (digs b).length) : (digs (b * 2 ^ s)).length = (digs b).length ∧ 2147483648 ≤ (digs (b * 2 ^ s))[(digs b).length - 1]?.getD 0 := by
  have hv : b * 2 ^ s ≠ 0 := Nat.mul_ne_zero hb (Nat.pos_iff_ne_zero.1 (Nat.pow_pos (by omega)))
  have h := blen_digs _ hv
  rw [blen_shl s hb, hs] at h
  have h1 := bits_le 32 _ (getD_lt (ok_digs (b * 2 ^ s)) ((digs (b * 2 ^ s)).length - 1))
  have hl : 0 < (digs (b * 2 ^ s)).length := by
    rcases Nat.eq_zero_or_pos (digs (b * 2 ^ s)).length with h0 | h0
    · exact absurd (digs_nil.1 h0) hv
    · exact h0
  have h2 : 1 ≤ blen ((digs (b * 2 ^ s))[(digs (b * 2 ^ s)).length - 1]?.getD 0) := by
    have hne : (digs (b * 2 ^ s))[(digs (b * 2 ^ s)).length - 1]?.getD 0 ≠ 0 := by
      have e : (digs (b * 2 ^ s))[(digs (b * 2 ^ s)).length - 1]? = some (digs (b * 2 ^ s))[(digs (b * 2 ^ s)).length - 1] := List.getElem?_eq_getElem (by omega)
      rw [e]
      exact last_digs (by rw [List.getLast?_eq_getElem?, e]; rfl)
    rw [blen_pos hne]; omega
  have e : (digs (b * 2 ^ s)).length = (digs b).length := by omega
  refine ⟨e, ?_⟩
  rw [← e]
  rcases Nat.lt_or_ge ((digs (b * 2 ^ s))[(digs (b * 2 ^ s)).length - 1]?.getD 0) 2147483648 with h3 | h3
  · have := bits_le 31 _ h3; omega
  · exact h3
/-- The number moved up is below the divisor, moved up, B^(m - n + 1) times. -/
theorem norm_start {a b s : Nat} (hb : b ≠ 0) (hle : (digs b).length ≤ (digs a).length) : a * 2 ^ s < b * 2 ^ s * 4294967296 ^ ((digs a).length - (digs b).length + 1) := by
  have h1 : a < 4294967296 ^ (digs a).length := by have := val_lt (ok_digs a); rwa [val_digs] at this
  have hl : 0 < (digs b).length := by
    rcases Nat.eq_zero_or_pos (digs b).length with h0 | h0
    · exact absurd (digs_nil.1 h0) hb
    · exact h0
  have h2 : 4294967296 ^ ((digs b).length - 1) ≤ b := by
    have hne : (digs b)[(digs b).length - 1]?.getD 0 ≠ 0 := by
      have e : (digs b)[(digs b).length - 1]? = some (digs b)[(digs b).length - 1] := List.getElem?_eq_getElem (by omega)
      rw [e]
      exact last_digs (by rw [List.getLast?_eq_getElem?, e]; rfl)
    have := val_pos_of_get _ _ hne
    rwa [val_digs] at this
  have h3 : a < b * 4294967296 ^ ((digs a).length - (digs b).length + 1) := by
    refine Nat.lt_of_lt_of_le h1 (Nat.le_trans (Nat.le_of_eq ?_) (Nat.mul_le_mul_right _ h2))
    rw [← Nat.pow_add]; congr 1; omega
  rw [Nat.mul_right_comm]
  exact Nat.mul_lt_mul_of_pos_right h3 (Nat.pow_pos (by omega))
theorem div_moved (a b s : Nat) : a * 2 ^ s / (b * 2 ^ s) = a / b := Nat.mul_div_mul_right a b (Nat.pow_pos (by omega))
theorem mod_moved (a b s : Nat) : a * 2 ^ s % (b * 2 ^ s) / 2 ^ s = a % b := by
  rw [Nat.mul_mod_mul_right, Nat.mul_div_cancel _ (Nat.pow_pos (by omega))]
theorem div_done {m v q l : Nat} (e : m = l + v * q) (h : l < v) : q = m / v ∧ l = m % v := by
  subst e
  rw [Nat.add_mul_div_left _ _ (by omega), Nat.add_mul_mod_self_left, Nat.div_eq_of_lt h, Nat.mod_eq_of_lt h]; omega
end Go.Proofs.YtfhdhldgflbpjaaDoor
end

section
/-
  math/bits.Div32; quo.divDigit.
-/
namespace Go.Proofs.YtfhdhldgflbpjaaDoor
open Go.RowKit
theorem digit_step {xs zs : List Nat} {k d r q r' : Nat} (hx : k < xs.length) (hz : k < zs.length) (h : val (xs.drop (k + 1)) = val (zs.drop (k + 1)) * d + r) (hq : (xs[k]?.getD 0 + 4294967296 * r) / d = q) (hr : (xs[k]?.getD 0 + 4294967296 * r) % d = r') :
    val (xs.drop k) = val ((zs.set k q).drop k) * d + r' := by
  have e1 : xs.drop k = xs[k]?.getD 0 :: xs.drop (k + 1) := by rw [List.drop_eq_getElem_cons hx, List.getElem?_eq_getElem hx]; rfl
  have e2 : (zs.set k q).drop k = q :: zs.drop (k + 1) := by
    rw [List.drop_eq_getElem_cons (by simpa using hz), List.drop_set_of_lt (by omega)]; simp
  have e3 := Nat.div_add_mod (xs[k]?.getD 0 + 4294967296 * r) d
  rw [hq, hr, Nat.mul_comm] at e3
  rw [e1, e2]
  simp only [val]
  rw [h, Nat.add_mul, Nat.mul_add, Nat.mul_assoc]
  omega
end Go.Proofs.YtfhdhldgflbpjaaDoor
end

section
/-
  quo.divLong.
-/
namespace Go.Proofs.YtfhdhldgflbpjaaDoor
open Go.RowKit
theorem zeros_cells2 (n : Nat) : madeCells #[.int .u32 0] n = (cells (List.replicate n 0)).toArray := by
  apply Array.ext
  · simp [madeCells, cells]
  · intro i h1 h2
    simp [madeCells, cells, Nat.mod_one]
theorem elem_size2 : (Tryd.prog.info? 56).map (·.size) = some 1 := by kernel_rfl
theorem splice_front (xs : List Nat) (n : Nat) : splice (cells (List.replicate n 0)) 0 (cells xs) = cells (xs ++ List.replicate (n - xs.length) 0) := by
  simp [splice, cells, List.map_append]
theorem front_ok {xs : List Nat} (h : ok32 xs) (k : Nat) : ok32 (xs ++ List.replicate k 0) := by
  intro x hx
  rcases List.mem_append.1 hx with hx | hx
  · exact h x hx
  · exact ok_zeros k x hx
theorem front_val (xs : List Nat) (k : Nat) : val (xs ++ List.replicate k 0) = val xs := by rw [val_append, val_zeros]; omega
theorem front_row {w : World} {g n : Nat} {CS XS : List Value} {xs : List Nat} (hg : w.heap[g]? = some (.cells (splice CS 0 XS).toArray 56 (0, 0))) (h1 : CS = cells (List.replicate n 0)) (h2 : XS = cells xs) : Row w g (xs ++ List.replicate (n - xs.length) 0) := by
  subst h1 h2
  rw [splice_front] at hg
  exact hg
theorem run_cut1 {P : Program} {t e : TypeId} {i : TypeInfo} (ht : P.underlying t = some (.slice e)) (hi : P.info? e = some i) (hs : i.size = 1) (g N k m : Nat) (h : k + m + 1 ≤ N) (W : World) :
    (Instr.slice t (.slice (some ⟨g, 0, none⟩) N N) (some (.int .i64 (k : Int))) (some (.int .i64 ((k : Int) + (m : Int) + 1))) none).run P W = .ok (.slice (some ⟨g, k, none⟩) (m + 1) (N - k)) W := by
  have h1 : (0 : Int) ≤ (k : Int) + (m : Int) + 1 := by omega
  have h2 : (k : Int) + (m : Int) + 1 ≤ (N : Int) := by omega
  have h3 : ((k : Int) + (m : Int) + 1).toNat = k + m + 1 := by omega
  have h5 : ¬ (N = k) := by omega
  have h6 : k + m + 1 - k = m + 1 := by omega
  have h7 : ¬ (k + m + 1 < k) := by omega
  simp [Instr.slice, Instr.sliceBounds, run_underlying ht, go_sem, h1, h2, h3, h5, h6, h7, sizeOf, typeInfo, hi, hs]
theorem Row.window {w : World} {g : Nat} {ys : List Nat} (h : Row w g ys) (hk : ok32 ys) {off m c : Nat} (ho : off + m ≤ ys.length) (hc : m ≤ c) : Dg w (some ⟨g, off, none⟩) c ((ys.drop off).take m) := by
  have hl : ((ys.drop off).take m).length = m := by rw [List.length_take, List.length_drop]; omega
  refine ⟨by omega, fun x hx => hk x (List.mem_of_mem_drop (List.mem_of_mem_take hx)), fun _ => ⟨g, off, rfl, h.lt, fun j hj => ?_⟩⟩
  rw [hl] at hj
  rw [h.cell (by omega), List.getElem?_take, if_pos hj, List.getElem?_drop]
/-- What stands between two digits. -/
structure Dv (M v K N k : Nat) (zs qs : List Nat) : Prop where
  zl : zs.length = N + 1
  ql : qs.length = K + 1
  zo : ok32 zs
  qo : ok32 qs
  eq : M = val zs + v * val qs
  lt : val zs < v * 4294967296 ^ k
  zero : ∀ i, i < k → qs[i]?.getD 0 = 0
theorem Dv.row {M v K N k n : Nat} {zs qs : List Nat} (h : Dv M v K N (k + 1) zs qs) (hv : v < 4294967296 ^ n) : val zs < 4294967296 ^ (k + (n + 1)) := by
  have h1 := h.lt
  have h2 : v * 4294967296 ^ (k + 1) ≤ 4294967296 ^ n * 4294967296 ^ (k + 1) := Nat.mul_le_mul_right _ (by omega)
  rw [← Nat.pow_add, show n + (k + 1) = k + (n + 1) by omega] at h2
  omega
theorem Dv.next {M v K N k : Nat} {zs qs zs' : List Nat} (h : Dv M v K N (k + 1) zs qs) (hk : k < K + 1) {l : Nat} (hl : l < 4294967296) (e : val zs' = val zs - 4294967296 ^ k * (v * l)) (hle : 4294967296 ^ k * (v * l) ≤ val zs) (hlt : val zs - 4294967296 ^ k * (v * l) < v * 4294967296 ^ k) (zl : zs'.length = N + 1) (zo : ok32 zs') :
    Dv M v K N k zs' (qs.set k l) := by
  refine ⟨zl, by rw [List.length_set]; exact h.ql, zo, ok_set h.qo hl _, ?_, by rw [e]; exact hlt, fun i hi => by rw [get_set_other (by omega)]; exact h.zero i (by omega)⟩
  rw [val_set_zero _ _ _ (by rw [h.ql]; exact hk) (h.zero k (by omega)), e, h.eq, Nat.mul_add]
  have e1 : v * (4294967296 ^ k * l) = 4294967296 ^ k * (v * l) := by rw [Nat.mul_left_comm]
  rw [e1]
  omega
theorem Dv.took {M v K N k n : Nat} {zs qs V : List Nat} (h : Dv M v K N (k + 1) zs qs) (hk : k < K + 1) (eV : val V = v) (hv0 : 0 < v) (hv : v < 4294967296 ^ n) (hkN : k + (n + 1) ≤ N + 1) {x b : Nat} {zs1 : List Nat} (h1 : val ((zs.drop k).take (n + 1)) / val V ≤ x) (h2 : x ≤ val ((zs.drop k).take (n + 1)) / val V + 1) (hx : x < 4294967296)
    (zo1 : ok32 zs1) (zl1 : zs1.length = zs.length) (zd : zs1.drop (k + (n + 1)) = zs.drop (k + (n + 1))) (he : val zs + 4294967296 ^ (k + (n + 1)) * b = val zs1 + 4294967296 ^ k * (val V * x)) :
    (b = 0 ∧ Dv M v K N k zs1 (qs.set k x)) ∨ (b = 1 ∧ 1 ≤ x ∧ ∀ c zs2, ok32 zs2 → zs2.length = zs1.length → zs2.drop (k + (n + 1)) = zs1.drop (k + (n + 1)) → val zs2 + 4294967296 ^ (k + (n + 1)) * c = val zs1 + 4294967296 ^ k * val V → Dv M v K N k zs2 (qs.set k (x - 1))) := by
  have hr := h.row hv
  have hz := drop_zero (by rw [h.zl]; exact hkN) hr
  rw [val_window h.zo (by rw [h.zl]; exact hkN) hr, eV] at h1 h2
  rw [eV] at he
  have b1 := below_of_drop zo1 (by rw [zl1, h.zl]; exact hkN) (by rw [zd]; exact hz)
  have hvQ : 4294967296 ^ k * v ≤ 4294967296 ^ (k + (n + 1)) := by
    rw [Nat.pow_add]
    refine Nat.mul_le_mul_left _ (Nat.le_trans (Nat.le_of_lt hv) ?_)
    rw [Nat.pow_succ]; omega
  obtain ⟨c1, c2, c3⟩ := div_fix (Nat.pow_pos (by omega)) hv0 rfl h1 h2 hvQ b1 he
  have lx : val zs / 4294967296 ^ k / v < 4294967296 := Nat.lt_of_le_of_lt h1 hx
  rcases c3 with ⟨rfl, rfl, e⟩ | ⟨rfl, e1, e⟩
  · exact .inl ⟨rfl, h.next hk lx e c1 c2 (by rw [zl1]; exact h.zl) zo1⟩
  · refine .inr ⟨rfl, by rw [e1]; exact Nat.succ_pos _, fun c zs2 zo2 zl2 zd2 he2 => ?_⟩
    rw [eV] at he2
    have b2 := below_of_drop zo2 (by rw [zl2, zl1, h.zl]; exact hkN) (by rw [zd2, zd]; exact hz)
    rw [show x - 1 = val zs / 4294967296 ^ k / v by rw [e1]; rfl]
    exact h.next hk lx (e c _ b2 he2) c1 c2 (by rw [zl2, zl1]; exact h.zl) zo2
theorem Row.other {w : World} {g q : Nat} {ys : List Nat} (h : Row w g ys) (hg : g ≠ q) (i : Nat) (v : Value) : Row (w.setCell ⟨q, i, none⟩ v) g ys := ((Rest.refl q w).set_ i v).row h hg
end Go.Proofs.YtfhdhldgflbpjaaDoor
end

section
/-
  quo.DivMod.
-/
namespace Go.Proofs.YtfhdhldgflbpjaaDoor
open Go.RowKit
section
variable {w0 w w' : World} {L : List (Option Addr × Nat × List Nat)} {A B : Option Addr} {c d n m : Nat} {xs ys : List Nat} {x y : Nat}
end
end Go.Proofs.YtfhdhldgflbpjaaDoor
end

section
/-
  zint.Div.
-/
namespace Go.Proofs.YtfhdhldgflbpjaaDoor
open Go.RowKit
theorem cells_of {w : World} {g : Nat} {cs : Array Value} {t : TypeId} {fr : Nat × Nat} (hg : w.heap[g]? = some (.cells cs t fr)) {w' : World} (hb : Below w.heap.size w w') : w'.heap[g]? = some (.cells cs t fr) := (hb.block g (heap_lt hg)).trans hg
/-- Quotient and rest, rounded down. -/
theorem fd_same {t : Bool} {x y : Nat} : sg false (x / y) = Int.fdiv (sg t x) (sg t y) ∧ sg t (x % y) = Int.fmod (sg t x) (sg t y) := by
  have e1 : Int.fdiv (x : Int) (y : Int) = ((x / y : Nat) : Int) := by rw [Int.fdiv_eq_ediv_of_nonneg _ (by omega)]; exact (Int.natCast_ediv x y).symm
  have e2 : Int.fmod (x : Int) (y : Int) = ((x % y : Nat) : Int) := by rw [Int.fmod_eq_emod_of_nonneg _ (by omega)]; exact (Int.natCast_emod x y).symm
  cases t
  · exact ⟨e1.symm, e2.symm⟩
  · simp only [sg, if_true, Bool.false_eq_true, if_false]
    have f1 : Int.fdiv (-(x : Int)) (-(y : Int)) = Int.fdiv x y := by rw [Int.neg_fdiv_neg]
    have f2 := Int.mul_fdiv_add_fmod (-(x : Int)) (-(y : Int))
    have f3 := Int.mul_fdiv_add_fmod (x : Int) (y : Int)
    rw [f1, e1] at f2
    rw [e1, e2] at f3
    rw [f1, e1]
    refine ⟨rfl, ?_⟩
    rw [Int.neg_mul] at f2
    omega
theorem fd_exact {t1 t2 : Bool} (h : (t1 != t2) = true) {x y : Nat} (hy : y ≠ 0) (hk : x % y = 0) : sg true (x / y) = Int.fdiv (sg t1 x) (sg t2 y) ∧ sg t2 (x % y) = Int.fmod (sg t1 x) (sg t2 y) := by
  obtain ⟨k, rfl⟩ : ∃ k, x = y * k := ⟨x / y, by have := Nat.div_add_mod x y; omega⟩
  rw [Nat.mul_div_cancel_left _ (by omega), Nat.mul_mod_right]
  have hy' : (y : Int) ≠ 0 := by omega
  have hy2 : -(y : Int) ≠ 0 := by omega
  have s0 : sg t2 0 = 0 := by unfold sg; cases t2 <;> rfl
  rw [s0]
  have key : sg t1 (y * k) = sg t2 y * (-(k : Int)) := by
    unfold sg; cases t1 <;> cases t2 <;> simp at h ⊢ <;> simp [Int.mul_neg, Int.neg_mul]
  have hne : sg t2 y ≠ 0 := by unfold sg; cases t2 <;> simp <;> omega
  rw [key, Int.mul_fdiv_cancel_left _ hne]
  refine ⟨by unfold sg; simp, ?_⟩
  have := Int.mul_fdiv_add_fmod (sg t2 y * (-(k : Int))) (sg t2 y)
  rw [Int.mul_fdiv_cancel_left _ hne] at this
  omega
theorem fd_more {t1 t2 : Bool} (h : (t1 != t2) = true) {x y : Nat} (hy : y ≠ 0) (hk : x % y ≠ 0) : sg true (x / y + 1) = Int.fdiv (sg t1 x) (sg t2 y) ∧ sg t2 (y - x % y) = Int.fmod (sg t1 x) (sg t2 y) := by
  have hd := Nat.div_add_mod x y
  have hlt := Nat.mod_lt x (Nat.pos_of_ne_zero hy)
  generalize x / y = q at *
  generalize x % y = r at *
  subst hd
  have key : ∀ (a b qq rr : Int), b ≠ 0 → a = b * qq + rr → ((0 ≤ rr ∧ rr < b) ∨ (b < rr ∧ rr ≤ 0)) → qq = Int.fdiv a b ∧ rr = Int.fmod a b := by
    intro a b qq rr hb e hr
    subst e
    have e1 : Int.fdiv (b * qq + rr) b = qq + Int.fdiv rr b := by rw [Int.add_comm, Int.add_mul_fdiv_left _ _ hb, Int.add_comm]
    have e2 : Int.fdiv rr b = 0 := by
      rcases hr with ⟨h1, h2⟩ | ⟨h1, h2⟩
      · rw [Int.fdiv_eq_ediv_of_nonneg _ (by omega)]; exact Int.ediv_eq_zero_of_lt h1 h2
      · rw [← Int.neg_fdiv_neg, Int.fdiv_eq_ediv_of_nonneg _ (by omega)]; exact Int.ediv_eq_zero_of_lt (by omega) (by omega)
    have e3 := Int.mul_fdiv_add_fmod (b * qq + rr) b
    rw [e1, e2, Int.add_zero] at e3
    exact ⟨by rw [e1, e2, Int.add_zero], by omega⟩
  have hr1 : ((y - r : Nat) : Int) = (y : Int) - (r : Int) := by omega
  cases t1 <;> cases t2 <;> simp at h
  · simp only [sg, if_true, Bool.false_eq_true, if_false]
    refine key _ _ _ _ (by omega) ?_ (by omega)
    rw [hr1]; push_cast; rw [Int.neg_mul_neg, Int.mul_add]; omega
  · simp only [sg, if_true, Bool.false_eq_true, if_false]
    refine key _ _ _ _ (by omega) ?_ (by omega)
    rw [hr1]; push_cast; rw [Int.mul_neg, Int.mul_add]; omega
theorem len_ne {n : Nat} (h : n ≠ 0) : ((n : Int) == 0) = false := by simp [h]
theorem below4 (w : World) (o1 o2 o3 o4 : Obj) : Below w.heap.size w ((((w.alloc o1).alloc o2).alloc o3).alloc o4) := (below3 w o1 o2 o3).alloc (by simp; omega) _
/-- Two whole numbers, and true. -/
def Zr2 (q r : Int) (w : World) (e : Ending) (w' : World) : Prop := ∃ A c B d, e = .returned (.tuple #[.agg #[.bool (decide (q < 0)), .slice A (digs q.natAbs).length c], .agg #[.bool (decide (r < 0)), .slice B (digs r.natAbs).length d], .bool true]) ∧ Dg w' A c (digs q.natAbs) ∧ Dg w' B d (digs r.natAbs) ∧ Below w.heap.size w w'
theorem zr2_give {w w' : World} {A B : Option Addr} {c d m k : Nat} {t u : Bool} {q r : Int} (hq : sg t m = q) (hr : sg u k = r) (hd : Dg w' A c (digs m)) (hd' : Dg w' B d (digs k)) (hb : Below w.heap.size w w') :
    Zr2 q r w (.returned (.tuple #[.agg #[.bool (t && decide (m ≠ 0)), .slice A (digs m).length c], .agg #[.bool (u && decide (k ≠ 0)), .slice B (digs k).length d], .bool true])) w' := by
  have e1 := sg_neg t m
  have e2 := sg_abs t m
  have e3 := sg_neg u k
  have e4 := sg_abs u k
  rw [hq] at e1 e2
  rw [hr] at e3 e4
  rw [e1, e3]
  subst e2 e4
  exact ⟨A, c, B, d, rfl, hd, hd', hb⟩
end Go.Proofs.YtfhdhldgflbpjaaDoor
end

section
/-
  dyad's reckoning: none, answer.
-/
namespace Go.Proofs.YtfhdhldgflbpjaaDoor
open Go.RowKit
set_option linter.unusedSimpArgs false
set_option linter.unusedVariables false
theorem off_old {w : World} {A : Option Addr} {c g : Nat} {xs : List Nat} (h : Dg w A c xs) (hg : w.heap.size ≤ g) : Off g A xs := by
  intro h0 o e
  obtain ⟨b, off, e', hb, _⟩ := h.2.2 h0
  rw [e] at e'
  simp only [Option.some.injEq, Addr.mk.injEq, and_true] at e'
  omega
theorem Dg.short {w : World} {A : Option Addr} {c : Nat} {xs : List Nat} (h : Dg w A c xs) : Dg w A xs.length xs := ⟨Nat.le_refl _, h.2.1, h.2.2⟩
theorem noint3 {A : Option Addr} {n c : Nat} {b : Bool} {x : Int} : ∀ (o : Nat) (m : Int), (#[Value.bool b, .slice A n c, .int .i64 x])[o]? ≠ some (.int .u32 m) := by
  intro o m; rcases o with _ | _ | _ | o <;> simp
set_option maxHeartbeats 1000000 in
set_option maxRecDepth 100000 in
theorem none_any (g : Nat) (k : Int) (w : World) (hc : w.cell? ⟨g, 0, none⟩ = some (.int .i64 k)) (hg : g < w.heap.size) :
    Calls Tryd.prog 47 #[.pointer (some ⟨g, 0, none⟩)] w fun e w' => e = .returned (.tuple #[.agg #[.bool false, .slice none 0 0, .int .i64 0], .int .i64 k]) ∧ Below w.heap.size w w' := by
  go_enter Tryd.func47, Tryd.ntmps47
  go_wp2
  go_region
  all_goals go_wp2
  all_goals
    refine bodyPost_ret (v := .tuple #[.agg #[.bool false, .slice none 0 0, .int .i64 0], .int .i64 k]) (by simp [results, Tryd.results47, go_sem]) rfl ⟨rfl, ?_⟩
    exact below_drew (below1 _ _)
set_option maxHeartbeats 2000000 in
set_option maxRecDepth 100000 in
theorem answer_yes (g : Nat) (A : Option Addr) (c : Nat) (s : Bool) (m x : Int) (w : World) (hc : w.cell? ⟨g, 0, none⟩ = some (.int .i64 0)) (hg : g < w.heap.size) (h : Dg w A c (digs m.natAbs)) (hl : (digs m.natAbs).length ≤ 1000000) (hq : inR m x = true) :
    Calls Tryd.prog 49 #[.pointer (some ⟨g, 0, none⟩), .agg #[.bool s, .slice A (digs m.natAbs).length c, .int .i64 x]] w fun e w' =>
      e = .returned (.tuple #[.agg #[.bool s, .slice A (digs m.natAbs).length (digs m.natAbs).length, .int .i64 x], .int .i64 0]) ∧ Dg w' A (digs m.natAbs).length (digs m.natAbs) ∧ Below w.heap.size w w' := by
  have HI := Lib.hid (fun W (hW : Dg W A c (digs m.natAbs)) => inRange_any A c s m x W hW true hq hl)
  have HO1 := Lib.hid (off_old h (Nat.le_refl _))
  have HO2 := Lib.hid (off_old h (Nat.le_succ _))
  generalize digs m.natAbs = xs at *
  have hxc := h.1
  clear hq hl
  go_enter Tryd.func49, Tryd.ntmps49
  go_wp2_with fail
  obtain ⟨W, hW⟩ : ∃ W : World, W = ((w.alloc (.cells #[.bool s, .slice A xs.length c, .int .i64 x] 26)).alloc (.cells #[.bool false, .slice none 0 0, .int .i64 0] 26)) := ⟨_, rfl⟩
  rw [← hW]
  have HB0 := Lib.hid (show Below w.heap.size w W by rw [hW]; exact below2 w _ _)
  have HR1 := Lib.hid (show W.heap[w.heap.size]? = some (.cells #[.bool s, .slice A xs.length c, .int .i64 x] 26 (0, 0)) by rw [hW]; exact heap_alloc2_old _ _ _)
  have HR2 := Lib.hid (show W.heap[w.heap.size + 1]? = some (.cells #[.bool false, .slice none 0 0, .int .i64 0] 26 (0, 0)) by rw [hW]; exact heap_alloc2_new _ _ _)
  have hsz : w.heap.size + 2 = W.heap.size := by rw [hW]; simp
  have HZ := Lib.hid hsz
  have hg1 : g < W.heap.size := by omega
  have hgc := Lib.hid ((HB0.out.cell (p := ⟨g, 0, none⟩) hg).trans hc)
  have TN := Lib.hid (fun V (hV : Below W.heap.size W V) => tell_no g 0 4 false V ((hV.cell (p := ⟨g, 0, none⟩) hg1).trans hgc.out) (.inl rfl))
  have FN := Lib.hid (fun V (hV : Below W.heap.size W V) => fails_any g 0 false V ((hV.cell (p := ⟨g, 0, none⟩) hg1).trans hgc.out) rfl)
  have H1 := Lib.hid (h.below HB0.out)
  have f0 := cell_of_row W _ 0 _ _ _ HR1.out
  have f1 := cell_of_row W _ 1 _ _ _ HR1.out
  have f2 := cell_of_row W _ 2 _ _ _ HR1.out
  simp only [List.getElem?_toArray, List.getElem?_cons_zero, List.getElem?_cons_succ] at f0 f1 f2
  have s1 : w.heap.size < W.heap.size := by omega
  have s2 : w.heap.size + 1 < W.heap.size := by omega
  clear hW hsz hc hg h
  have KD := Lib.hid (bd0 W)
  go_region_held3 (fun w' => ∀ b o, b < W.heap.size → w'.cell? ⟨b, o, none⟩ = W.cell? ⟨b, o, none⟩)
    (first | with_reducible exact (bcell KD.out).1 | with_reducible exact (bcell K1.out).1)
    (first
      | (go_at_call 40; (with_reducible refine (HI.out _ (H1.out.below KD.out)).mono ?_); rintro e w1 ⟨rfl, hb⟩; (have K1 := Lib.hid (KD.out.trans (hb.mono KD.out.size))); clear hb)
      | (go_at_call 39; (with_reducible refine (TN.out _ K1.out).mono ?_); rintro e w2 ⟨rfl, rfl⟩))
  rename_i hHeld
  clear f0 f1 f2 hHeld
  go_wp2_with fail
  refine (FN.out _ K1.out).mono ?_
  rintro e w2 ⟨rfl, rfl⟩
  have R1 := Lib.hid (cells_of HR1.out K1.out)
  have R2 := Lib.hid (cells_of HR2.out K1.out)
  have f0 := cell_of_row w1 _ 0 _ _ _ R1.out
  have f1 := cell_of_row w1 _ 1 _ _ _ R1.out
  have f2 := cell_of_row w1 _ 2 _ _ _ R1.out
  have z0 := frozen_of_row w1 _ 0 _ _ R1.out
  have z1 := frozen_of_row w1 _ 1 _ _ R1.out
  have z2 := frozen_of_row w1 _ 2 _ _ R1.out
  have r0 := cell_of_row w1 _ 0 _ _ _ R2.out
  have r1 := cell_of_row w1 _ 1 _ _ _ R2.out
  have r2 := cell_of_row w1 _ 2 _ _ _ R2.out
  have y0 := frozen_of_row w1 _ 0 _ _ R2.out
  have y1 := frozen_of_row w1 _ 1 _ _ R2.out
  have y2 := frozen_of_row w1 _ 2 _ _ R2.out
  simp only [List.getElem?_toArray, List.getElem?_cons_zero, List.getElem?_cons_succ] at f0 f1 f2 r0 r1 r2
  go_wp2_with fail
  refine (clip_any A xs.length c hxc _).mono ?_
  rintro e w2 ⟨rfl, rfl⟩
  go_wp2
  refine bodyPost_ret (v := .tuple #[.agg #[.bool s, .slice A xs.length xs.length, .int .i64 x], .int .i64 0]) (by simp [results, Tryd.results49, go_sem, f0, f1, f2, r0, r1, r2]) rfl ⟨rfl, ?_, ?_⟩
  · exact ((((((H1.out.below K1.out).short).set_off HO1.out _ _).set_off HO2.out _ _).set_off HO2.out _ _).set_off HO2.out _ _)
  · exact (((((HB0.out.trans (K1.out.mono HB0.out.size)).setCell (by simp) _).setCell (by simp) _).setCell (by simp) _).setCell (by simp) _)
end Go.Proofs.YtfhdhldgflbpjaaDoor
end

section
/-
  dyad.begin: are they right?
-/
namespace Go.Proofs.YtfhdhldgflbpjaaDoor
open Go.RowKit
set_option linter.unusedSimpArgs false
set_option linter.unusedVariables false
/-- What went wrong with the first k of some numbers. -/
def wrong (R : Nat → Bool) : Nat → Int
  | 0 => 0
  | k + 1 => if R k = false ∧ wrong R k = 0 then 1 else wrong R k
theorem wrong_bd (R : Nat → Bool) : ∀ k, wrong R k = 0 ∨ wrong R k = 1
  | 0 => .inl rfl
  | k + 1 => by
    unfold wrong
    split
    · exact .inr rfl
    · exact wrong_bd R k
/-- Numbers in a row of cells. -/
def DyRow (w : World) (b n : Nat) (S : Nat → Bool) (A : Nat → Option Addr) (C : Nat → Nat) (X : Nat → List Nat) (E : Nat → Int) : Prop :=
  ∀ i, i < n → w.cell? ⟨b, i * 3, none⟩ = some (.bool (S i)) ∧ w.cell? ⟨b, i * 3 + 1, none⟩ = some (.slice (A i) (X i).length (C i)) ∧ w.cell? ⟨b, i * 3 + 2, none⟩ = some (.int .i64 (E i)) ∧ Dg w (A i) (C i) (X i)
set_option maxHeartbeats 2000000 in
set_option maxRecDepth 100000 in
theorem begin_any (b n c : Nat) (S : Nat → Bool) (A : Nat → Option Addr) (C : Nat → Nat) (X : Nat → List Nat) (E : Nat → Int) (R : Nat → Bool) (w : World) (hb : b < w.heap.size) (hrow : DyRow w b n S A C X E) (hR : ∀ i, i < n → dyR (S i) (X i) (E i) = R i) (hX : ∀ i, i < n → (X i).length ≤ 9223372036854775807) (hn : n ≤ 16) (hc : n ≤ c) :
    Calls Tryd.prog 38 #[.slice (some ⟨b, 0, none⟩) n c] w fun e w' => e = .returned (.agg #[.int .i64 (wrong R n)]) ∧ Below w.heap.size w w' := by
  have H := Lib.hid hrow
  have HR := Lib.hid hR
  have HX := Lib.hid hX
  have HC := Lib.hid hc
  clear hrow hR hX hc
  go_enter Tryd.func38, Tryd.ntmps38
  go_wp2
  go_loopw [8] (fun i wr => ∃ k : Nat, k ≤ n ∧ i = .int .i64 k ∧ Hid (Below w.heap.size w wr) ∧ Hid (wr.heap[w.heap.size]? = some (.cells #[.int .i64 0] 80 (0, 0))) ∧ Hid (wr.heap[w.heap.size + 1]? = some (.cells #[.int .i64 (wrong R k)] 80 (0, 0)))) (fun i _ => n - (intOf i).toNat)
  case atStart => exact ⟨0, Nat.zero_le _, rfl, Lib.hid (below2 _ _ _), Lib.hid (heap_alloc2_old _ _ _), Lib.hid (heap_alloc2_new _ _ _)⟩
  case round =>
    obtain ⟨k, hk, rfl, HB, H1, H2⟩ := hrel
    by_cases hlt : k < n
    · obtain ⟨c0, c1, c2, hd⟩ := H.out k hlt
      have g0 := (HB.out.cell (p := ⟨b, k * 3, none⟩) hb).trans c0
      have g1 := (HB.out.cell (p := ⟨b, k * 3 + 1, none⟩) hb).trans c1
      have g2 := (HB.out.cell (p := ⟨b, k * 3 + 2, none⟩) hb).trans c2
      have HD := Lib.hid (hd.below HB.out)
      have hsz := heap_lt H2.out
      clear c0 c1 c2 hd
      go_wp2_with fail
      refine (dright_any (A k) (C k) (S k) (X k) (E k) _ (HD.out.below (below1 wr (.cells #[.bool (S k), .slice (A k) (X k).length (C k), .int .i64 (E k)] 26))) (R k) (HR.out k hlt) (HX.out k hlt)).mono ?_
      rintro e w1 ⟨rfl, hb1⟩
      have K1 := Lib.hid ((below1 wr (.cells #[.bool (S k), .slice (A k) (X k).length (C k), .int .i64 (E k)] 26)).trans (hb1.mono (by simp)))
      clear hb1 g0 g1 g2
      have H1' := Lib.hid (cells_of H1.out K1.out)
      have H2' := Lib.hid (cells_of H2.out K1.out)
      have HB1 := Lib.hid (HB.out.trans (K1.out.mono HB.out.size))
      have r0 := cell_of_row w1 _ 0 _ _ _ H2'.out
      have z0 := frozen_of_row w1 _ 0 _ _ H2'.out
      simp only [List.getElem?_toArray, List.getElem?_cons_zero] at r0
      by_cases hw : R k = false ∧ wrong R k = 0
      · have HW := Lib.hid (show wrong R (k + 1) = 1 by rw [wrong, if_pos hw])
        rw [hw.2] at r0
        rw [hw.1]
        have TY := Lib.hid (tell_yes (w.heap.size + 1) 1 w1 r0 z0)
        clear hw r0 z0
        go_wp2_with fail
        refine TY.out.mono ?_
        rintro e w2 ⟨rfl, rfl⟩
        go_wp2
        go_roundw
        case rel =>
          refine ⟨k + 1, by omega, by go_num, Lib.hid (HB1.out.setCell (by simp) _), Lib.hid ?_, Lib.hid ?_⟩
          · rw [heap_setCell_other _ _ _ _ (by simp)]; exact H1'.out
          · rw [HW.out]; exact heap_setCell_same _ _ 0 _ _ _ H2'.out
        case measure => simp [intOf]; omega
      · have HW := Lib.hid (show wrong R (k + 1) = wrong R k by rw [wrong, if_neg hw])
        have TN := Lib.hid (tell_no (w.heap.size + 1) (wrong R k) 1 (!R k) w1 r0 (by
          rcases h1 : R k
          · right
            have h2 : ¬ wrong R k = 0 := fun h2 => hw ⟨h1, h2⟩
            simpa using h2
          · left; rfl))
        clear hw r0 z0
        go_wp2_with fail
        refine TN.out.mono ?_
        rintro e w2 ⟨rfl, rfl⟩
        go_wp2
        go_roundw
        case rel =>
          refine ⟨k + 1, by omega, by go_num, HB1, H1', Lib.hid ?_⟩
          rw [HW.out]; exact H2'.out
        case measure => simp [intOf]; omega
    · obtain rfl : k = n := by omega
      have f0 := cell_of_row wr _ 0 _ _ _ H1.out
      have r0 := cell_of_row wr _ 0 _ _ _ H2.out
      have z0 := frozen_of_row wr _ 0 _ _ H1.out
      simp only [List.getElem?_toArray, List.getElem?_cons_zero, List.getElem?_cons_succ] at f0 r0
      go_wp2
      refine bodyPost_ret (v := .agg #[.int .i64 (wrong R k)]) (by simp [results, Tryd.results38, go_sem, f0]) rfl ⟨rfl, ?_⟩
      exact HB.out.setCell (by simp) _
end Go.Proofs.YtfhdhldgflbpjaaDoor
end

section
/-
  append(own, digits...), whatever memory holds the digits.
-/
namespace Go.Proofs.YtfhdhldgflbpjaaDoor
open Go.RowKit
theorem run_append_nilcap {P : Program} {w : World} (base : Nat) (t ty e : TypeId) (i : TypeInfo) (size c : Nat) (ht : P.underlying t = some (.slice e)) (hi : P.info? e = some i)
    (v : Value) (n : Nat) (xs : List Value) (hown : w.ownsRow base e size v n xs) : (Builtin.append_ #[t, t] ty #[v, .slice none 0 c]).run P w = .ok v w := by
  rcases hown.2 with ⟨rfl, rfl⟩ | ⟨g, cap, cur, rfl, _, _, hnc, _⟩
  · simp [Builtin.append_, run_underlying ht, sizeOf, typeInfo, hi, Builtin.lenOf, Builtin.firstCells]
  · simp [Builtin.append_, run_underlying ht, sizeOf, typeInfo, hi, Builtin.lenOf, Builtin.firstCells, hnc, storeCells]
theorem wpList_append_dg {w : World} {ops : Array Oper} {rest : List Oper} {o : Oper} {a : Act} {Q : Exit → Act → World → Prop} (hgd : o.guard = none) (s x : Operand)
    (ho : o.op = .call { callee := .builtin .append, args := #[s, x], argTypes := #[22, 22] }) (base : Nat) (v : Value) (n : Nat) (zs ys : List Nat) (B : Option Addr) (d m : Nat)
    (hs : a.eval s = v) (hown : w.ownsRow base 56 1 v n (cells zs)) (hD : Dg w B d ys) (hm : m = ys.length) (hx : a.eval x = .slice B m d) (hb : n + m ≤ 1099511627776) (hbase : base ≤ w.heap.size)
    (h : ∀ v' w', w'.ownsRow base 56 1 v' (n + m) (cells (zs ++ ys)) → w.grownBy w' v.ownBlock → wpList Tryd.prog ops Q rest (a.put o.dst v') w') : wpList Tryd.prog ops Q (o :: rest) a w := by
  obtain ⟨i0, hi, hz0, hz1, hz2⟩ := info_parts elem_info
  have ec : cells (zs ++ ys) = cells zs ++ cells ys := by simp [cells]
  subst hm
  rcases B with _ | A
  · have h0 : ys = [] := by
      rcases Nat.eq_zero_or_pos ys.length with h0 | h0
      · exact List.eq_nil_of_length_eq_zero h0
      · obtain ⟨b, off, e, _⟩ := hD.2.2 h0
        cases e
    subst h0
    refine wpList_plain hgd fun K hK => ?_
    have hrun := run_append_nilcap (P := Tryd.prog) (w := w) base 22 o.type 56 i0 1 d Tryd.underlying22 hi v n (cells zs) hown
    unfold Oper.wp
    simp at hx
    simp [execOp, ho, resolve, invoke, builtin, hs, hx, hrun, Result.andThen]
    exact hK _ _ (h v w (by simpa using hown) (World.grownBy.refl _ _))
  · refine wpList_append_own _ hgd s x 22 ho base 56 i0 (.int .u32 0) 1 4 Tryd.underlying22 hi hz0 hz1 hz2 rfl (by decide) v n (cells zs) hs hown A ys.length d (cells ys) hx (by simp [cells]) (fun j u hj => dg_cell hD hj) (fun u hu => ?_) (by unfold maxLen; omega) (by omega) hbase fun v' w' h1 h2 _ => h v' w' (by rw [ec]; exact h1) h2
    unfold cells at hu; obtain ⟨x, _, rfl⟩ := List.mem_map.1 hu; rfl
end Go.Proofs.YtfhdhldgflbpjaaDoor
end

section
/-
  dyad.zeros, lift, odd.
-/
namespace Go.Proofs.YtfhdhldgflbpjaaDoor
open Go.RowKit
set_option linter.unusedSimpArgs false
set_option linter.unusedVariables false
/-- The first digit that is not 0. -/
theorem low_ex : ∀ (xs : List Nat), val xs ≠ 0 → ∃ i, i < xs.length ∧ xs[i]?.getD 0 ≠ 0 ∧ ∀ j, j < i → xs[j]?.getD 0 = 0 := by
  intro xs
  induction xs with
  | nil => intro h; exact absurd rfl h
  | cons x r ih =>
    intro h
    by_cases hx : x = 0
    · obtain ⟨i, h1, h2, h3⟩ := ih (by intro h0; apply h; simp only [val]; omega)
      refine ⟨i + 1, by simp; omega, by simpa using h2, fun j hj => ?_⟩
      rcases j with _ | j
      · simpa using hx
      · simpa using h3 j (by omega)
    · exact ⟨0, by simp, by simpa using hx, fun j hj => by omega⟩
set_option maxHeartbeats 2000000 in
set_option maxRecDepth 100000 in
theorem zeros_any (A : Option Addr) (c : Nat) (xs : List Nat) (w : World) (h : Dg w A c xs) (hv : val xs ≠ 0) (hl : xs.length ≤ 1000000) (hT : T32 w) :
    Calls Tryd.prog 68 #[.slice A xs.length c] w fun e w' => e = .returned (.int .i64 (tz (val xs) : Nat)) ∧ w = w' := by
  obtain ⟨i, hi, hne, hz⟩ := low_ex xs hv
  have HV := Lib.hid (tz_val xs i hz hi hne h.2.1)
  have hx := getD_lt h.2.1 i
  have HT := Lib.hid (tz32_any _ hne hx w hT)
  have htl := tz_lt hne (show xs[i]?.getD 0 < 2 ^ 32 by omega)
  obtain ⟨b, off, hA, hb, hc⟩ := h.2.2 (by omega)
  have hcap := h.1
  have HC := Lib.hid hc
  have HZ := Lib.hid hz
  have HN := Lib.hid hne
  have ci := hc i hi
  generalize xs[i]?.getD 0 = d at *
  obtain ⟨t, ht⟩ : ∃ t : Nat, tz d = t := ⟨_, rfl⟩
  rw [ht] at HV htl HT
  have HH := Lib.hid ht
  clear h hv hc hz hne hT ht
  subst hA
  go_enter Tryd.func68, Tryd.ntmps68
  go_wp2
  go_loop [3] (fun n => ∃ k : Nat, k ≤ i ∧ n = .int .i64 k) (fun n => i - (intOf n).toNat)
  case atStart => exact ⟨0, by omega, rfl⟩
  case round =>
    obtain ⟨k, hk, rfl⟩ := hrel
    have hkl : k < xs.length := by omega
    by_cases hlt : k < i
    · have ck := HC.out k hkl
      rw [HZ.out k hlt] at ck
      clear ci
      go_wp2
      go_round
      case rel => exact ⟨k + 1, by omega, by go_num⟩
      case measure => simp [intOf]; omega
    · obtain rfl : k = i := by omega
      have hdn : ((d : Int) == 0) = false := by have := HN.out; simp; omega
      go_wp2_with fail
      refine HT.out.mono ?_
      rintro e w' ⟨rfl, rfl⟩
      go_wp2
      go_ret
      exact ⟨ret_i (by rw [HV.out]; push_cast; omega), rfl⟩
theorem digs_shift {x : Nat} (h : x ≠ 0) : ∀ k : Nat, digs (x * 4294967296 ^ k) = List.replicate k 0 ++ digs x
  | 0 => by simp
  | k + 1 => by
    have hp : 0 < x * 4294967296 ^ k := Nat.mul_pos (by omega) (Nat.pow_pos (by omega))
    have e : x * 4294967296 ^ (k + 1) = x * 4294967296 ^ k * 4294967296 := by rw [Nat.pow_succ, Nat.mul_assoc]
    rw [e, digs_pos (by omega), Nat.mul_mod_left, Nat.mul_div_cancel _ (by omega), digs_shift h k, List.replicate_succ]
    rfl
theorem pow_parts2 (x n : Nat) : x * 2 ^ n = x * 2 ^ (n % 32) * 4294967296 ^ (n / 32) := by
  rw [show (4294967296 : Nat) = 2 ^ 32 from rfl, ← Nat.pow_mul, Nat.mul_assoc, ← Nat.pow_add, show n % 32 + 32 * (n / 32) = n by omega]
theorem ok_zeros2 (k : Nat) {xs : List Nat} (h : ok32 xs) : ok32 (List.replicate k 0 ++ xs) := by
  intro y hy
  rcases List.mem_append.1 hy with h1 | h1
  · have := (List.mem_replicate.1 h1).2; omega
  · exact h y h1
set_option maxHeartbeats 2000000 in
set_option maxRecDepth 100000 in
theorem lift_any (A : Option Addr) (c : Nat) (xs : List Nat) (n : Nat) (w : World) (h : Dg w A c xs) (hl : xs.length ≤ 500000) (hn : n ≤ 1000000) :
    Calls Tryd.prog 67 #[.slice A xs.length c, .int .i64 n] w fun e w' => ∃ A' c', e = .returned (.slice A' (digs (val xs * 2 ^ n)).length c') ∧ Dg w' A' c' (digs (val xs * 2 ^ n)) ∧ Below w.heap.size w w' := by
  have hk0 := h.2.1
  have HS := Lib.hid (shl_any A c xs (n % 32) w h (by omega) (by omega))
  rw [show ((n % 32 : Nat) : Int) = (n : Int) % 32 by omega] at HS
  clear h
  by_cases hlt : n < 32
  · have e : n % 32 = n := by omega
    rw [e] at HS
    have d1 : decide ((n : Int) < 32) = true := by simp; omega
    clear e hlt
    go_enter Tryd.func67, Tryd.ntmps67
    go_wp2_with fail
    refine HS.out.mono ?_
    rintro e w1 ⟨A1, c1, rfl, hd, hb⟩
    have K := Lib.hid (And.intro hd hb)
    clear hd hb
    go_wp2
    go_ret
    exact ⟨A1, c1, rfl, K.out.1, K.out.2⟩
  · have d1 : decide ((n : Int) < 32) = false := by simp; omega
    have hp := pow_parts2 (val xs) n
    have hly0 := digs_mul_len (val xs) (2 ^ (n % 32))
    have hly1 := digs_len_lt (m := 1) (n := 2 ^ (n % 32)) (by
      have : 2 ^ (n % 32) < 2 ^ 32 := Nat.pow_lt_pow_right (by omega) (by omega)
      omega)
    have hly2 := digs_len_mono (val xs) _ (Nat.le_refl _)
    have hly3 : (digs (val xs * 2 ^ (n % 32))).length ≤ 1000000 := by
      have := digs_len_le hk0
      omega
    clear hly0 hly1 hly2
    generalize val xs * 2 ^ (n % 32) = y at *
    by_cases hy : y = 0
    · have e0 : val xs * 2 ^ n = 0 := by rw [hp, hy, Nat.zero_mul]
      rw [e0]
      rw [hy] at HS
      have d2 : (((digs 0).length : Int) == 0) = true := by rw [digs_zero]; rfl
      clear hp hy e0 hlt hly3
      generalize digs 0 = zs at *
      go_enter Tryd.func67, Tryd.ntmps67
      go_wp2_with fail
      refine HS.out.mono ?_
      rintro e w1 ⟨A1, c1, rfl, hd, hb⟩
      have K := Lib.hid (And.intro hd hb)
      clear hd hb
      go_wp2
      go_ret
      exact ⟨A1, c1, rfl, K.out.1, K.out.2⟩
    · have HD := Lib.hid (digs_shift hy (n / 32))
      rw [← hp] at HD
      have d2 : (((digs y).length : Int) == 0) = false := beq_eq_false_iff_ne.2 (by have : (digs y).length ≠ 0 := fun e => hy (digs_nil.1 e); omega)
      have hk := ok_digs y
      have HK := Lib.hid (ok_zeros2 (n / 32) hk)
      have hmk := run_make_row' (P := Tryd.prog) 22 56 (.int .u32 0) 4 Tryd.underlying22 elem_info rfl .i64 .i64 (n / 32) (by omega) (by omega)
      rw [show ((n / 32 : Nat) : Int) = (n : Int) / 32 by omega] at hmk
      clear hp hy hk hlt
      generalize val xs * 2 ^ n = v at *
      generalize digs y = zs at *
      go_enter Tryd.func67, Tryd.ntmps67
      go_wp2_with fail
      refine HS.out.mono ?_
      rintro e w1 ⟨A1, c1, rfl, hd, hb⟩
      have HO := Lib.hid (own_zeros (w := w1) (e := 56) (n / 32) (by unfold maxLen; omega))
      have K := Lib.hid (And.intro hd hb)
      clear hd hb
      go_wp2_with (at_builtin; refine wpList_append_dg rfl _ _ rfl w1.heap.size _ (n / 32) (List.replicate (n / 32) 0) zs A1 c1 zs.length rfl HO.out (K.out.1.below (below1 _ _)) rfl rfl (by omega) (by simp) ?_)
      intro v' w6 hown hgrow
      obtain ⟨A6, c6, hv, hd6⟩ := dg_of_own hown HK.out
      have hb6 := ((below1 w1 (.cells (madeCells #[.int .u32 0] (n / 32)) 56))).grown hgrow (by simp) (by intro k hk; simp [Value.ownBlock] at hk; omega)
      have K2 := Lib.hid (And.intro hd6 (K.out.2.trans (hb6.mono K.out.2.size)))
      subst hv
      clear hown hd6 hgrow hb6
      go_wp2
      go_ret
      refine ⟨A6, c6, ?_, ?_, K2.out.2⟩
      · rw [HD.out]; rfl
      · rw [HD.out]; exact K2.out.1
end Go.Proofs.YtfhdhldgflbpjaaDoor
end

section
/-
  dyad.odd: the form of a number.
-/
namespace Go.Proofs.YtfhdhldgflbpjaaDoor
open Go.RowKit
set_option linter.unusedSimpArgs false
set_option linter.unusedVariables false
/-- An answer: M times 2^E. -/
def Yr (M E : Int) (w : World) (e : Ending) (w' : World) : Prop := ∃ A c, e = .returned (.agg #[.bool (decide (M < 0)), .slice A (digs M.natAbs).length c, .int .i64 E]) ∧ Dg w' A c (digs M.natAbs) ∧ Below w.heap.size w w'
theorem yr_mk {M E : Int} {w w' : World} {A : Option Addr} {c : Nat} {s : Bool} {x : Nat} {y : Int} (hx : x = M.natAbs) (hs : s = decide (M < 0)) (hy : y = E) (hd : Dg w' A c (digs x)) (hb : Below w.heap.size w w') :
    Yr M E w (.returned (.agg #[.bool s, .slice A (digs x).length c, .int .i64 y])) w' := by
  subst hx hs hy; exact ⟨A, c, rfl, hd, hb⟩
theorem nm_sg {s : Bool} {x : Nat} (h : x ≠ 0) : (nm (sg s x)).natAbs = x / 2 ^ tz x ∧ s = decide (nm (sg s x) < 0) ∧ ∀ e, nx (sg s x) e = e + tz x := by
  have ha := sg_abs s x
  have h0 : sg s x ≠ 0 := by intro e; rw [e] at ha; omega
  have ⟨_, _, c⟩ := nm_back h0
  rw [ha] at c
  refine ⟨c, ?_, fun e => ?_⟩
  · rw [nm_neg_iff]; unfold sg; cases s
    · simp
    · simp; omega
  · unfold nx; rw [if_neg h0, ha]
set_option maxHeartbeats 2000000 in
set_option maxRecDepth 100000 in
theorem odd_any (A : Option Addr) (c : Nat) (s : Bool) (x : Nat) (y M E : Int) (w : World) (h : Dg w A c (digs x)) (hl : (digs x).length ≤ 500000) (hT : T32 w) (hy : -1000000000 ≤ y ∧ y ≤ 1000000000) (hM : nm (sg s x) = M) (hE : nx (sg s x) y = E) :
    Calls Tryd.prog 51 #[.agg #[.bool s, .slice A (digs x).length c], .int .i64 y] w fun e w' => Yr M E w e w' := by
  by_cases h0 : x = 0
  · have d0 : (((digs x).length : Int) == 0) = true := by rw [h0, digs_zero]; rfl
    have HM := Lib.hid (show M = 0 ∧ E = 0 by rw [← hM, ← hE, h0]; unfold sg; cases s <;> exact ⟨rfl, rfl⟩)
    clear h0 h hM hE hT
    go_enter Tryd.func51, Tryd.ntmps51
    go_wp2
    refine bodyPost_ret (v := .agg #[.bool false, .slice none 0 0, .int .i64 0]) (by simp [results, Tryd.results51, go_sem]) rfl ?_
    have e1 := HM.out.1
    have e2 := HM.out.2
    subst e1 e2
    refine ⟨none, 0, ?_, ?_, below2 _ _ _⟩
    · show _ = Ending.returned (.agg #[.bool false, .slice none (digs 0).length 0, .int .i64 0])
      rw [digs_zero]; rfl
    · show Dg _ none 0 (digs 0)
      rw [digs_zero]; exact Dg.nil_ _ _
  · have d0 : (((digs x).length : Int) == 0) = false := beq_eq_false_iff_ne.2 (by have : (digs x).length ≠ 0 := fun e => h0 (digs_nil.1 e); omega)
    have HN := Lib.hid (nm_sg (s := s) h0)
    rw [hM] at HN
    have HE := Lib.hid (hE ▸ HN.out.2.2 y)
    have HM := Lib.hid HN.out.1
    have HS := Lib.hid HN.out.2.1
    have HZ := Lib.hid (fun W (hW : Dg W A c (digs x)) (hT : T32 W) => zeros_any A c (digs x) W hW (by rw [val_digs]; exact h0) (by omega) hT)
    rw [val_digs] at HZ
    have htl := tz_lt (n := x) (k := 32 * (digs x).length) h0 (by have := val_lt (ok_digs x); rw [val_digs] at this; rw [Nat.pow_mul]; exact this)
    have HR := Lib.hid (fun W (hW : Dg W A c (digs x)) => shr_any A c (digs x) (tz x) W hW (by omega) (by omega))
    rw [val_digs] at HR
    have H := Lib.hid h
    have HT := Lib.hid hT
    have HX0 := Lib.hid h0
    generalize tz x = k at *
    obtain ⟨y0, y1⟩ := hy
    have hk : k ≤ 16000000 := by omega
    clear h0 h hM hE hT htl HN
    by_cases hk0 : k = 0
    · have d1 : decide (0 < k) = false := by rw [hk0]; rfl
      have HK := Lib.hid hk0
      clear hk0
      go_enter Tryd.func51, Tryd.ntmps51
      go_wp2_with fail
      refine (HZ.out _ (H.out.below (below2 w _ _)) (t32_below HT.out (below2 w _ _))).mono ?_
      rintro e w1 ⟨rfl, rfl⟩
      go_wp2
      refine bodyPost_ret (v := .agg #[.bool s, .slice A (digs x).length c, .int .i64 y]) (by simp [results, Tryd.results51, go_sem]) rfl ?_
      refine yr_mk ?_ HS.out ?_ (H.out.below (below2 _ _ _)) (below2 _ _ _)
      · rw [HM.out, HK.out]; simp
      · rw [HE.out, HK.out]; simp
    · have d1 : decide (0 < k) = true := by simp; omega
      have hyk : wrap64 (y + (k : Int)) = y + (k : Int) := IntWalk.wrap64_in _ ⟨by omega, by omega⟩
      clear hk0
      go_enter Tryd.func51, Tryd.ntmps51
      go_wp2_with fail
      refine (HZ.out _ (H.out.below (below2 w _ _)) (t32_below HT.out (below2 w _ _))).mono ?_
      rintro e w1 ⟨rfl, rfl⟩
      go_wp2_with fail
      refine (HR.out _ (H.out.below (below2 w _ _))).mono ?_
      rintro e w1 ⟨A1, c1, rfl, hd, hb⟩
      have f0 := row_cell (heap_alloc2_old w (.cells #[.bool s, .slice A (digs x).length c] 24) (.cells #[.bool false, .slice none 0 0, .int .i64 0] 26)) hb 0
      have f1 := row_cell (heap_alloc2_old w (.cells #[.bool s, .slice A (digs x).length c] 24) (.cells #[.bool false, .slice none 0 0, .int .i64 0] 26)) hb 1
      have z1 := row_frozen (heap_alloc2_old w (.cells #[.bool s, .slice A (digs x).length c] 24) (.cells #[.bool false, .slice none 0 0, .int .i64 0] 26)) hb 1
      have r0 := row_cell (heap_alloc2_new w (.cells #[.bool s, .slice A (digs x).length c] 24) (.cells #[.bool false, .slice none 0 0, .int .i64 0] 26)) hb 0
      have r1 := row_cell (heap_alloc2_new w (.cells #[.bool s, .slice A (digs x).length c] 24) (.cells #[.bool false, .slice none 0 0, .int .i64 0] 26)) hb 1
      have r2 := row_cell (heap_alloc2_new w (.cells #[.bool s, .slice A (digs x).length c] 24) (.cells #[.bool false, .slice none 0 0, .int .i64 0] 26)) hb 2
      have y0 := row_frozen (heap_alloc2_new w (.cells #[.bool s, .slice A (digs x).length c] 24) (.cells #[.bool false, .slice none 0 0, .int .i64 0] 26)) hb 0
      have y1 := row_frozen (heap_alloc2_new w (.cells #[.bool s, .slice A (digs x).length c] 24) (.cells #[.bool false, .slice none 0 0, .int .i64 0] 26)) hb 1
      have y2 := row_frozen (heap_alloc2_new w (.cells #[.bool s, .slice A (digs x).length c] 24) (.cells #[.bool false, .slice none 0 0, .int .i64 0] 26)) hb 2
      simp only [List.getElem?_toArray, List.getElem?_cons_zero, List.getElem?_cons_succ] at f0 f1 r0 r1 r2
      have HB := Lib.hid ((below2 w _ _).trans (hb.mono (by simp; omega)))
      have HO1 := Lib.hid (off_box (g := w.heap.size) hd ((below1 _ _).trans (hb.mono (by simp))) rfl noint2')
      have HO2 := Lib.hid (off_box (g := w.heap.size + 1) hd hb (by simp) noint3)
      have HD := Lib.hid hd
      clear hb hd
      go_wp2
      refine bodyPost_ret (v := .agg #[.bool s, .slice A1 (digs (x / 2 ^ k)).length c1, .int .i64 (y + k)]) (by simp [results, Tryd.results51, go_sem, f0, f1, r0, r1, r2]) rfl ?_
      refine yr_mk HM.out.symm HS.out HE.out.symm ?_ ?_
      · exact ((((HD.out.set_off HO1.out _ _).set_off HO2.out _ _).set_off HO2.out _ _).set_off HO2.out _ _)
      · exact ((((HB.out.setCell (by simp) _).setCell (by simp) _).setCell (by simp) _).setCell (by simp) _)
end Go.Proofs.YtfhdhldgflbpjaaDoor
end

section
/-
  Words for walks by program: boxes and what is alive.
-/
namespace Go.Proofs.YtfhdhldgflbpjaaDoor
open Go.RowKit
theorem row_c {w : World} {g i : Nat} {cs : Array Value} {T : TypeId} {fr : Nat × Nat} {v : Value} (h : w.heap[g]? = some (.cells cs T fr)) (hv : cs[i]? = some v) : w.cell? ⟨g, i, none⟩ = some v := (cell_of_row _ _ _ _ _ _ h).trans hv
theorem live_only {w0 w w' : World} {L : List (Option Addr × Nat × List Nat)} {g : Nat} {zs : Array Value} {T : TypeId} {fr : Nat × Nat} (hL : Live w0 w L) (ho : Only g w w') (hg : w.heap[g]? = some (.cells zs T fr)) (hz : ∀ (i : Nat) (n : Int), zs[i]? ≠ some (.int .u32 n)) (h0 : w0.heap.size ≤ g) : Live w0 w' L :=
  ⟨ho.below hL.1 h0, fun t ht => (hL.2 t ht).kept (ho.kept hg hz)⟩
theorem noint_int {A : Option Addr} {n c : Nat} {b : Bool} : ∀ (o : Nat) (m : Int), (#[Value.bool b, .slice A n c])[o]? ≠ some (.int .u32 m) := noint2'
theorem noint_re {x : Int} : ∀ (o : Nat) (m : Int), (#[Value.int .i64 x])[o]? ≠ some (.int .u32 m) := by
  intro o m; rcases o with _ | o <;> simp
theorem fin3 {w0 w : World} {L : List (Option Addr × Nat × List Nat)} {g : Nat} {zs : Array Value} {T : TypeId} {a b c : Value} (hL : Live w0 w L) (hg : w.heap[g]? = some (.cells zs T (0, 0))) (hz : ∀ (i : Nat) (n : Int), zs[i]? ≠ some (.int .u32 n)) (h0 : w0.heap.size ≤ g) :
    Live w0 (((w.setCell ⟨g, 0, none⟩ a).setCell ⟨g, 1, none⟩ b).setCell ⟨g, 2, none⟩ c) L := live_only hL ((((Only.refl g w).setCell 0 _).setCell 1 _).setCell 2 _) hg hz h0
theorem fin2 {w0 w : World} {L : List (Option Addr × Nat × List Nat)} {g : Nat} {zs : Array Value} {T : TypeId} {a b : Value} (hL : Live w0 w L) (hg : w.heap[g]? = some (.cells zs T (0, 0))) (hz : ∀ (i : Nat) (n : Int), zs[i]? ≠ some (.int .u32 n)) (h0 : w0.heap.size ≤ g) :
    Live w0 ((w.setCell ⟨g, 0, none⟩ a).setCell ⟨g, 1, none⟩ b) L := live_only hL (((Only.refl g w).setCell 0 _).setCell 1 _) hg hz h0
theorem keep_b {W w' : World} {g : Nat} (hb : Below W.heap.size W w') (hg : g < W.heap.size) : ∀ o, w'.cell? ⟨g, o, none⟩ = W.cell? ⟨g, o, none⟩ := fun o => hb.cell (p := ⟨g, o, none⟩) hg
theorem keep_set {W w' : World} {g r i : Nat} {v : Value} (h : ∀ o, w'.cell? ⟨g, o, none⟩ = W.cell? ⟨g, o, none⟩) (hne : g ≠ r) : ∀ o, (w'.setCell ⟨r, i, none⟩ v).cell? ⟨g, o, none⟩ = W.cell? ⟨g, o, none⟩ := fun o => by
  rw [World.cell?_setCell_other _ _ _ _ (by intro e; simp only [Addr.mk.injEq] at e; omega)]; exact h o
theorem sg_abs2 (z : Int) : sg (decide (z < 0)) z.natAbs = z := by
  unfold sg
  by_cases h : z < 0
  · rw [if_pos (by simpa using h)]; omega
  · rw [if_neg (by simpa using h)]; omega
theorem sg_dz (z : Int) : sg (decide (z < 0)) (val (digs z.natAbs)) = z := by rw [val_digs]; exact sg_abs2 z
/-- What is laid of a box: its cells, that none is frozen, where it lies. -/
theorem ly1 {w : World} {g : Nat} {T : TypeId} {a0 : Value} (h : w.heap[g]? = some (.cells #[a0] T (0, 0))) : w.cell? ⟨g, 0, none⟩ = some a0 ∧ w.frozen? ⟨g, 0, none⟩ = false ∧ g < w.heap.size := ⟨row_c (i := 0) h rfl, frozen_of_row _ _ 0 _ _ h, heap_lt h⟩
theorem ly2 {w : World} {g : Nat} {T : TypeId} {a0 a1 : Value} (h : w.heap[g]? = some (.cells #[a0, a1] T (0, 0))) : w.cell? ⟨g, 0, none⟩ = some a0 ∧ w.frozen? ⟨g, 0, none⟩ = false ∧ w.cell? ⟨g, 1, none⟩ = some a1 ∧ w.frozen? ⟨g, 1, none⟩ = false ∧ g < w.heap.size := ⟨row_c (i := 0) h rfl, frozen_of_row _ _ 0 _ _ h, row_c (i := 1) h rfl, frozen_of_row _ _ 1 _ _ h, heap_lt h⟩
theorem ly3 {w : World} {g : Nat} {T : TypeId} {a0 a1 a2 : Value} (h : w.heap[g]? = some (.cells #[a0, a1, a2] T (0, 0))) : w.cell? ⟨g, 0, none⟩ = some a0 ∧ w.frozen? ⟨g, 0, none⟩ = false ∧ w.cell? ⟨g, 1, none⟩ = some a1 ∧ w.frozen? ⟨g, 1, none⟩ = false ∧ w.cell? ⟨g, 2, none⟩ = some a2 ∧ w.frozen? ⟨g, 2, none⟩ = false ∧ g < w.heap.size := ⟨row_c (i := 0) h rfl, frozen_of_row _ _ 0 _ _ h, row_c (i := 1) h rfl, frozen_of_row _ _ 1 _ _ h, row_c (i := 2) h rfl, frozen_of_row _ _ 2 _ _ h, heap_lt h⟩
theorem ly4 {w : World} {g : Nat} {T : TypeId} {a0 a1 a2 a3 : Value} (h : w.heap[g]? = some (.cells #[a0, a1, a2, a3] T (0, 0))) : w.cell? ⟨g, 0, none⟩ = some a0 ∧ w.frozen? ⟨g, 0, none⟩ = false ∧ w.cell? ⟨g, 1, none⟩ = some a1 ∧ w.frozen? ⟨g, 1, none⟩ = false ∧ w.cell? ⟨g, 2, none⟩ = some a2 ∧ w.frozen? ⟨g, 2, none⟩ = false ∧ w.cell? ⟨g, 3, none⟩ = some a3 ∧ w.frozen? ⟨g, 3, none⟩ = false ∧ g < w.heap.size := ⟨row_c (i := 0) h rfl, frozen_of_row _ _ 0 _ _ h, row_c (i := 1) h rfl, frozen_of_row _ _ 1 _ _ h, row_c (i := 2) h rfl, frozen_of_row _ _ 2 _ _ h, row_c (i := 3) h rfl, frozen_of_row _ _ 3 _ _ h, heap_lt h⟩
theorem ly6 {w : World} {g : Nat} {T : TypeId} {a0 a1 a2 a3 a4 a5 : Value} (h : w.heap[g]? = some (.cells #[a0, a1, a2, a3, a4, a5] T (0, 0))) : w.cell? ⟨g, 0, none⟩ = some a0 ∧ w.frozen? ⟨g, 0, none⟩ = false ∧ w.cell? ⟨g, 1, none⟩ = some a1 ∧ w.frozen? ⟨g, 1, none⟩ = false ∧ w.cell? ⟨g, 2, none⟩ = some a2 ∧ w.frozen? ⟨g, 2, none⟩ = false ∧ w.cell? ⟨g, 3, none⟩ = some a3 ∧ w.frozen? ⟨g, 3, none⟩ = false ∧ w.cell? ⟨g, 4, none⟩ = some a4 ∧ w.frozen? ⟨g, 4, none⟩ = false ∧ w.cell? ⟨g, 5, none⟩ = some a5 ∧ w.frozen? ⟨g, 5, none⟩ = false ∧ g < w.heap.size := ⟨row_c (i := 0) h rfl, frozen_of_row _ _ 0 _ _ h, row_c (i := 1) h rfl, frozen_of_row _ _ 1 _ _ h, row_c (i := 2) h rfl, frozen_of_row _ _ 2 _ _ h, row_c (i := 3) h rfl, frozen_of_row _ _ 3 _ _ h, row_c (i := 4) h rfl, frozen_of_row _ _ 4 _ _ h, row_c (i := 5) h rfl, frozen_of_row _ _ 5 _ _ h, heap_lt h⟩
theorem ly12 {w : World} {g : Nat} {T : TypeId} {a0 a1 a2 a3 a4 a5 a6 a7 a8 a9 a10 a11 : Value} (h : w.heap[g]? = some (.cells #[a0, a1, a2, a3, a4, a5, a6, a7, a8, a9, a10, a11] T (0, 0))) : w.cell? ⟨g, 0, none⟩ = some a0 ∧ w.frozen? ⟨g, 0, none⟩ = false ∧ w.cell? ⟨g, 1, none⟩ = some a1 ∧ w.frozen? ⟨g, 1, none⟩ = false ∧ w.cell? ⟨g, 2, none⟩ = some a2 ∧ w.frozen? ⟨g, 2, none⟩ = false ∧ w.cell? ⟨g, 3, none⟩ = some a3 ∧ w.frozen? ⟨g, 3, none⟩ = false ∧ w.cell? ⟨g, 4, none⟩ = some a4 ∧ w.frozen? ⟨g, 4, none⟩ = false ∧ w.cell? ⟨g, 5, none⟩ = some a5 ∧ w.frozen? ⟨g, 5, none⟩ = false ∧ w.cell? ⟨g, 6, none⟩ = some a6 ∧ w.frozen? ⟨g, 6, none⟩ = false ∧ w.cell? ⟨g, 7, none⟩ = some a7 ∧ w.frozen? ⟨g, 7, none⟩ = false ∧ w.cell? ⟨g, 8, none⟩ = some a8 ∧ w.frozen? ⟨g, 8, none⟩ = false ∧ w.cell? ⟨g, 9, none⟩ = some a9 ∧ w.frozen? ⟨g, 9, none⟩ = false ∧ w.cell? ⟨g, 10, none⟩ = some a10 ∧ w.frozen? ⟨g, 10, none⟩ = false ∧ w.cell? ⟨g, 11, none⟩ = some a11 ∧ w.frozen? ⟨g, 11, none⟩ = false ∧ g < w.heap.size := ⟨row_c (i := 0) h rfl, frozen_of_row _ _ 0 _ _ h, row_c (i := 1) h rfl, frozen_of_row _ _ 1 _ _ h, row_c (i := 2) h rfl, frozen_of_row _ _ 2 _ _ h, row_c (i := 3) h rfl, frozen_of_row _ _ 3 _ _ h, row_c (i := 4) h rfl, frozen_of_row _ _ 4 _ _ h, row_c (i := 5) h rfl, frozen_of_row _ _ 5 _ _ h, row_c (i := 6) h rfl, frozen_of_row _ _ 6 _ _ h, row_c (i := 7) h rfl, frozen_of_row _ _ 7 _ _ h, row_c (i := 8) h rfl, frozen_of_row _ _ 8 _ _ h, row_c (i := 9) h rfl, frozen_of_row _ _ 9 _ _ h, row_c (i := 10) h rfl, frozen_of_row _ _ 10 _ _ h, row_c (i := 11) h rfl, frozen_of_row _ _ 11 _ _ h, heap_lt h⟩
theorem new1 (w : World) (o0 : Obj) : ∃ W : World, W = (w.alloc o0) ∧ Below w.heap.size w W ∧ Hid (W.heap[w.heap.size]? = some o0) :=
  ⟨_, rfl, ((Below.refl _ _).alloc (by simp <;> omega) _), Lib.hid (by have := heap_alloc_new w o0; simpa using this)⟩
theorem new2 (w : World) (o0 o1 : Obj) : ∃ W : World, W = ((w.alloc o0).alloc o1) ∧ Below w.heap.size w W ∧ Hid (W.heap[w.heap.size]? = some o0) ∧ Hid (W.heap[w.heap.size + 1]? = some o1) :=
  ⟨_, rfl, (((Below.refl _ _).alloc (by simp <;> omega) _).alloc (by simp <;> omega) _), Lib.hid (by have := heap_alloc_new w o0; rw [heap_alloc_old _ _ (by simp <;> omega)]; simpa using this), Lib.hid (by have := heap_alloc_new (w.alloc o0) o1; simpa using this)⟩
theorem new3 (w : World) (o0 o1 o2 : Obj) : ∃ W : World, W = (((w.alloc o0).alloc o1).alloc o2) ∧ Below w.heap.size w W ∧ Hid (W.heap[w.heap.size]? = some o0) ∧ Hid (W.heap[w.heap.size + 1]? = some o1) ∧ Hid (W.heap[w.heap.size + 1 + 1]? = some o2) :=
  ⟨_, rfl, ((((Below.refl _ _).alloc (by simp <;> omega) _).alloc (by simp <;> omega) _).alloc (by simp <;> omega) _), Lib.hid (by have := heap_alloc_new w o0; rw [heap_alloc_old _ _ (by simp <;> omega)]; rw [heap_alloc_old _ _ (by simp <;> omega)]; simpa using this), Lib.hid (by have := heap_alloc_new (w.alloc o0) o1; rw [heap_alloc_old _ _ (by simp <;> omega)]; simpa using this), Lib.hid (by have := heap_alloc_new ((w.alloc o0).alloc o1) o2; simpa using this)⟩
theorem new4 (w : World) (o0 o1 o2 o3 : Obj) : ∃ W : World, W = ((((w.alloc o0).alloc o1).alloc o2).alloc o3) ∧ Below w.heap.size w W ∧ Hid (W.heap[w.heap.size]? = some o0) ∧ Hid (W.heap[w.heap.size + 1]? = some o1) ∧ Hid (W.heap[w.heap.size + 1 + 1]? = some o2) ∧ Hid (W.heap[w.heap.size + 1 + 1 + 1]? = some o3) :=
  ⟨_, rfl, (((((Below.refl _ _).alloc (by simp <;> omega) _).alloc (by simp <;> omega) _).alloc (by simp <;> omega) _).alloc (by simp <;> omega) _), Lib.hid (by have := heap_alloc_new w o0; rw [heap_alloc_old _ _ (by simp <;> omega)]; rw [heap_alloc_old _ _ (by simp <;> omega)]; rw [heap_alloc_old _ _ (by simp <;> omega)]; simpa using this), Lib.hid (by have := heap_alloc_new (w.alloc o0) o1; rw [heap_alloc_old _ _ (by simp <;> omega)]; rw [heap_alloc_old _ _ (by simp <;> omega)]; simpa using this), Lib.hid (by have := heap_alloc_new ((w.alloc o0).alloc o1) o2; rw [heap_alloc_old _ _ (by simp <;> omega)]; simpa using this), Lib.hid (by have := heap_alloc_new (((w.alloc o0).alloc o1).alloc o2) o3; simpa using this)⟩
theorem gl0 {w v : World} {L : List (Option Addr × Nat × List Nat)} (h : Live w v L) : w.heap.size ≤ v.heap.size := by have := h.1.size; omega
theorem nl0 {w : World} {g : Nat} {o : Obj} (h : w.heap[g]? = some o) : g < w.heap.size := by have := heap_lt h; omega
theorem gl1 {w v : World} {L : List (Option Addr × Nat × List Nat)} (h : Live w v L) : w.heap.size ≤ v.heap.size + 1 := by have := h.1.size; omega
theorem nl1 {w : World} {g : Nat} {o : Obj} (h : w.heap[g]? = some o) : g < w.heap.size + 1 := by have := heap_lt h; omega
theorem gl2 {w v : World} {L : List (Option Addr × Nat × List Nat)} (h : Live w v L) : w.heap.size ≤ v.heap.size + 1 + 1 := by have := h.1.size; omega
theorem nl2 {w : World} {g : Nat} {o : Obj} (h : w.heap[g]? = some o) : g < w.heap.size + 1 + 1 := by have := heap_lt h; omega
theorem gl3 {w v : World} {L : List (Option Addr × Nat × List Nat)} (h : Live w v L) : w.heap.size ≤ v.heap.size + 1 + 1 + 1 := by have := h.1.size; omega
theorem nl3 {w : World} {g : Nat} {o : Obj} (h : w.heap[g]? = some o) : g < w.heap.size + 1 + 1 + 1 := by have := heap_lt h; omega
theorem co {w w' : World} {g : Nat} {cs : Array Value} {t : TypeId} {fr : Nat × Nat} (hg : Hid (w.heap[g]? = some (.cells cs t fr))) (hb : Below w.heap.size w w') : Hid (w'.heap[g]? = some (.cells cs t fr)) := Lib.hid (cells_of hg.out hb)
theorem ls {w v v' : World} {L : List (Option Addr × Nat × List Nat)} (h : Hid (Live w v L)) (hb : Below v.heap.size v v') : Hid (Live w v' L) := Lib.hid (h.out.step hb)
theorem la {w v v' : World} {L : List (Option Addr × Nat × List Nat)} {A : Option Addr} {c : Nat} {xs : List Nat} (h : Hid (Live w v L)) (hb : Below v.heap.size v v') (hd : Dg v' A c xs) : Hid (Live w v' ((A, c, xs) :: L)) := Lib.hid ((h.out.step hb).add hd)
theorem la2 {w v v' : World} {L : List (Option Addr × Nat × List Nat)} {A B : Option Addr} {c d : Nat} {xs ys : List Nat} (h : Hid (Live w v L)) (hb : Below v.heap.size v v') (hd : Dg v' A c xs) (he : Dg v' B d ys) : Hid (Live w v' ((B, d, ys) :: (A, c, xs) :: L)) := Lib.hid (((h.out.step hb).add hd).add he)
theorem bt {a b c : World} (h : Hid (Below a.heap.size a b)) (hb : Below b.heap.size b c) : Hid (Below a.heap.size a c) := Lib.hid (h.out.trans (hb.mono h.out.size))
end Go.Proofs.YtfhdhldgflbpjaaDoor
end

section
/-
  Words for the walks of dyad: boxes and what is alive.
-/
namespace Go.Proofs.YtfhdhldgflbpjaaDoor
open Go.RowKit
theorem noint_dy {A : Option Addr} {n c : Nat} {b : Bool} {x : Int} : ∀ (o : Nat) (m : Int), (#[Value.bool b, .slice A n c, .int .i64 x])[o]? ≠ some (.int .u32 m) := noint3
theorem t32_live {w0 w : World} {L : List (Option Addr × Nat × List Nat)} (h : T32 w0) (hL : Live w0 w L) : T32 w := t32_below h hL.1
/-- An answer and whether it is one; an answer and an error. -/
def Yb (M E : Int) (q : Bool) (w : World) (e : Ending) (w' : World) : Prop := ∃ A c, e = .returned (.tuple #[.agg #[.bool (decide (M < 0)), .slice A (digs M.natAbs).length c, .int .i64 E], .bool q]) ∧ Dg w' A c (digs M.natAbs) ∧ Below w.heap.size w w'
def Ye (M E k : Int) (w : World) (e : Ending) (w' : World) : Prop := ∃ A c, e = .returned (.tuple #[.agg #[.bool (decide (M < 0)), .slice A (digs M.natAbs).length c, .int .i64 E], .int .i64 k]) ∧ Dg w' A c (digs M.natAbs) ∧ Below w.heap.size w w'
theorem nm_len (z : Int) : (digs (nm z).natAbs).length ≤ (digs z.natAbs).length := by
  by_cases h : z = 0
  · subst h; exact Nat.le_refl _
  · have ⟨_, _, c⟩ := nm_back h
    rw [c]; exact digs_len_mono _ _ (Nat.div_le_self _ _)
theorem zero_yb {w w' : World} (h : Below w.heap.size w w') : Yb 0 0 false w (.returned (.tuple #[.agg #[.bool false, .slice none 0 0, .int .i64 0], .bool false])) w' := by
  refine ⟨none, 0, ?_, ?_, h⟩
  · show _ = Ending.returned (.tuple #[.agg #[.bool false, .slice none (digs 0).length 0, .int .i64 0], .bool false])
    rw [digs_zero]; rfl
  · show Dg _ none 0 (digs 0)
    rw [digs_zero]; exact Dg.nil_ _ _
theorem zero_ye {k : Int} {w w' : World} (h : Below w.heap.size w w') : Ye 0 0 k w (.returned (.tuple #[.agg #[.bool false, .slice none 0 0, .int .i64 0], .int .i64 k])) w' := by
  refine ⟨none, 0, ?_, ?_, h⟩
  · show _ = Ending.returned (.tuple #[.agg #[.bool false, .slice none (digs 0).length 0, .int .i64 0], .int .i64 k])
    rw [digs_zero]; rfl
  · show Dg _ none 0 (digs 0)
    rw [digs_zero]; exact Dg.nil_ _ _
theorem zero_yr {w w' : World} (h : Below w.heap.size w w') : Yr 0 0 w (.returned (.agg #[.bool false, .slice none 0 0, .int .i64 0])) w' := by
  refine ⟨none, 0, ?_, ?_, h⟩
  · show _ = Ending.returned (.agg #[.bool false, .slice none (digs 0).length 0, .int .i64 0])
    rw [digs_zero]; rfl
  · show Dg _ none 0 (digs 0)
    rw [digs_zero]; exact Dg.nil_ _ _
/-- A number that is right. -/
def Rt (m e : Int) : Prop := Nf m e ∧ -131072 ≤ e ∧ e ≤ 131072
theorem dyR_num {m e : Int} (h : Rt m e) : dyR (decide (m < 0)) (digs m.natAbs) e = true := by
  obtain ⟨hn, h0, h1⟩ := h
  unfold dyR
  rcases hn with ⟨rfl, rfl⟩ | hn
  · show (if (digs 0).length = 0 then _ else _) = true
    rw [digs_zero]; rfl
  · have hm : m.natAbs ≠ 0 := by omega
    have hl : (digs m.natAbs).length ≠ 0 := fun e => hm (digs_nil.1 e)
    rw [if_neg hl, decide_eq_true h0, decide_eq_true h1]
    have h2 : rightB (decide (m < 0)) (digs m.natAbs) = true := by
      unfold rightB
      rw [if_neg hl, decide_eq_true_eq]
      have hne : (digs m.natAbs).getLast? = (digs m.natAbs)[(digs m.natAbs).length - 1]? := List.getLast?_eq_getElem?
      rcases hd : (digs m.natAbs)[(digs m.natAbs).length - 1]? with _ | d
      · rw [List.getElem?_eq_none_iff] at hd; omega
      · exact last_digs (by rw [hne, hd]; rfl)
    have h3 : decide ((digs m.natAbs)[0]?.getD 0 % 2 = 1) = true := by
      rw [digs_pos hm, decide_eq_true_eq]
      simp only [List.getElem?_cons_zero, Option.getD_some]
      omega
    rw [h2, h3]; rfl
theorem begin_1 {w : World} {g : Nat} {A : Option Addr} {c : Nat} {s q : Bool} {xs : List Nat} {e : Int} {T : TypeId} (hR : w.heap[g]? = some (.cells #[.bool s, .slice A xs.length c, .int .i64 e] T (0, 0))) (h : Dg w A c xs) (hq : dyR s xs e = q) (hl : xs.length ≤ 9223372036854775807) {k : Int} (hk : (if q then 0 else 1) = k) :
    Calls Tryd.prog 38 #[.slice (some ⟨g, 0, none⟩) 1 1] w fun e w' => e = .returned (.agg #[.int .i64 k]) ∧ Below w.heap.size w w' := by
  have := begin_any g 1 1 (fun _ => s) (fun _ => A) (fun _ => c) (fun _ => xs) (fun _ => e) (fun _ => q) w (heap_lt hR) (fun i hi => by
    obtain rfl : i = 0 := by omega
    exact ⟨row_c hR rfl, row_c hR rfl, row_c hR rfl, h⟩) (fun _ _ => hq) (fun _ _ => hl) (by omega) (Nat.le_refl _)
  have e : wrong (fun _ => q) 1 = k := by rw [← hk]; cases q <;> rfl
  rw [e] at this; exact this
def pk {α : Type} (a b : α) : Nat → α
  | 0 => a
  | _ => b
theorem begin_2 {w : World} {g : Nat} {A B : Option Addr} {c d : Nat} {s r q p : Bool} {xs ys : List Nat} {e f : Int} {T : TypeId} (hR : w.heap[g]? = some (.cells #[.bool s, .slice A xs.length c, .int .i64 e, .bool r, .slice B ys.length d, .int .i64 f] T (0, 0))) (h : Dg w A c xs) (h' : Dg w B d ys) (hq : dyR s xs e = q) (hp : dyR r ys f = p) (hl : xs.length ≤ 9223372036854775807) (hl' : ys.length ≤ 9223372036854775807) {k : Int} (hk : (if q && p then 0 else 1) = k) :
    Calls Tryd.prog 38 #[.slice (some ⟨g, 0, none⟩) 2 2] w fun e w' => e = .returned (.agg #[.int .i64 k]) ∧ Below w.heap.size w w' := by
  have := begin_any g 2 2 (pk s r) (pk A B) (pk c d) (pk xs ys) (pk e f) (pk q p) w (heap_lt hR) (fun i hi => by
    rcases i with _ | i
    · exact ⟨row_c hR rfl, row_c hR rfl, row_c hR rfl, h⟩
    · obtain rfl : i = 0 := by omega
      exact ⟨row_c hR rfl, row_c hR rfl, row_c hR rfl, h'⟩) (fun i _ => by rcases i with _ | i; exact hq; exact hp) (fun i _ => by rcases i with _ | i; exact hl; exact hl') (by omega) (Nat.le_refl _)
  have e : wrong (pk q p) 2 = k := by rw [← hk]; cases q <;> cases p <;> rfl
  rw [e] at this; exact this
end Go.Proofs.YtfhdhldgflbpjaaDoor
end

section
/-
  zint.Small.
-/
namespace Go.Proofs.YtfhdhldgflbpjaaDoor
open Go.RowKit
theorem ret_ib {a b : Int} {p q : Bool} (h : a = b) (h' : p = q) : Ending.returned (.tuple #[.int .i64 a, .bool p]) = .returned (.tuple #[.int .i64 b, .bool q]) := by rw [h, h']
theorem wrap_i64_eq (x : Int) (h : -9223372036854775808 ≤ x) (h' : x ≤ 9223372036854775807) : IntKind.i64.wrap x = x := IntWalk.i64_in _ ⟨h, h'⟩
theorem turn_u64 (x : Nat) (h : 0 < x) (h' : x ≤ 9223372036854775808) : wrap64 (IntKind.u64.wrap (-(x : Int))) = -(x : Int) := by
  rw [wrap_u64_eq]; unfold wrap64; omega
set_option maxHeartbeats 2000000 in
set_option maxRecDepth 100000 in
theorem zsmall_neg (A : Option Addr) (c : Nat) (s : Bool) (xs : List Nat) (w : World) (h : Dg w A c xs) (hl : xs.length ≤ 1000000) (hz : s = true) (h0 : 0 < val xs) (h1 : val xs ≤ 9223372036854775808) :
    Calls Tryd.prog 62 #[.agg #[.bool s, .slice A xs.length c]] w fun e w' => e = .returned (.tuple #[.int .i64 (-(val xs : Int)), .bool true]) ∧ Below w.heap.size w w' := by
  have l1 := digs_len_le h.2.1
  obtain ⟨t1, ht1⟩ : ∃ t, (s && decide (0 < val xs)) = t := ⟨_, rfl⟩
  have TA := Lib.hid (fun W h => take_any A c s xs W h (by omega))
  have HC := Lib.hid (fun A1 c1 W h1 => small_any A1 c1 (digs (val xs)) W h1 (by omega))
  simp only [val_digs] at HC
  have e1 : (s && decide (0 < val xs)) = true := by rw [hz, decide_eq_true h0]; rfl
  rw [e1] at ht1
  rw [e1] at TA
  have hs : small? (val xs) = val xs := by unfold small?; rw [if_pos (by omega)]
  have hd : decide (val xs < 18446744073709551616) = true := decide_eq_true (by omega)
  rw [hs, hd] at HC
  have dd : decide (((val xs : Nat) : Int) ≤ 9223372036854775808) = true := by simp; omega
  have HT := Lib.hid (turn_u64 (val xs) h0 h1)
  clear hs hd e1 h0 h1 hz
  clear ht1
  generalize val xs = x at *
  go_enter Tryd.func62, Tryd.ntmps62
  go_wp2_with fail
  refine (TA.out _ (h.below (below1 _ _))).mono ?_
  rintro e w1 ⟨A1, c1, rfl, hd, hb⟩
  have K1 := Lib.hid hb
  have G1 := Lib.hid hd
  obtain ⟨hc1, hf1⟩ := bcell hb
  clear hb hd h
  go_wp2_with fail
  refine (HC.out A1 c1 _ (G1.out.below (below1 _ _))).mono ?_
  rintro e w2 ⟨rfl, nn, rfl⟩
  go_wp2
  go_ret2
  exact ⟨ret_ib HT.out rfl, below_drewN (((below1 w _).trans (K1.out.mono (by simp))).alloc (by have := K1.out.size; simp at this; omega) _) _⟩
set_option maxHeartbeats 2000000 in
set_option maxRecDepth 100000 in
theorem zsmall_pos (A : Option Addr) (c : Nat) (s : Bool) (xs : List Nat) (w : World) (h : Dg w A c xs) (hl : xs.length ≤ 1000000) (hz : (s && decide (0 < val xs)) = false) (h1 : val xs ≤ 9223372036854775807) :
    Calls Tryd.prog 62 #[.agg #[.bool s, .slice A xs.length c]] w fun e w' => e = .returned (.tuple #[.int .i64 ((val xs : Nat) : Int), .bool true]) ∧ Below w.heap.size w w' := by
  have l1 := digs_len_le h.2.1
  obtain ⟨t1, ht1⟩ : ∃ t, (s && decide (0 < val xs)) = t := ⟨_, rfl⟩
  have TA := Lib.hid (fun W h => take_any A c s xs W h (by omega))
  have HC := Lib.hid (fun A1 c1 W h1 => small_any A1 c1 (digs (val xs)) W h1 (by omega))
  simp only [val_digs] at HC
  rw [hz] at ht1
  rw [hz] at TA
  have hs : small? (val xs) = val xs := by unfold small?; rw [if_pos (by omega)]
  have hd : decide (val xs < 18446744073709551616) = true := decide_eq_true (by omega)
  rw [hs, hd] at HC
  have dd : decide (((val xs : Nat) : Int) ≤ 9223372036854775807) = true := by simp; omega
  have HT := Lib.hid (wrap_i64_eq (val xs) (by omega) (by omega))
  clear hs hd hz
  clear ht1
  generalize val xs = x at *
  go_enter Tryd.func62, Tryd.ntmps62
  go_wp2_with fail
  refine (TA.out _ (h.below (below1 _ _))).mono ?_
  rintro e w1 ⟨A1, c1, rfl, hd, hb⟩
  have K1 := Lib.hid hb
  have G1 := Lib.hid hd
  obtain ⟨hc1, hf1⟩ := bcell hb
  clear hb hd h
  go_wp2_with fail
  refine (HC.out A1 c1 _ (G1.out.below (below1 _ _))).mono ?_
  rintro e w2 ⟨rfl, nn, rfl⟩
  go_wp2
  go_ret2
  exact ⟨rfl, below_drewN (((below1 w _).trans (K1.out.mono (by simp))).alloc (by have := K1.out.size; simp at this; omega) _) _⟩
set_option maxHeartbeats 2000000 in
set_option maxRecDepth 100000 in
theorem zsmall_far (A : Option Addr) (c : Nat) (s : Bool) (xs : List Nat) (w : World) (h : Dg w A c xs) (hl : xs.length ≤ 1000000) (h1 : 18446744073709551616 ≤ val xs) :
    Calls Tryd.prog 62 #[.agg #[.bool s, .slice A xs.length c]] w fun e w' => e = .returned (.tuple #[.int .i64 0, .bool false]) ∧ Below w.heap.size w w' := by
  have l1 := digs_len_le h.2.1
  obtain ⟨t1, ht1⟩ : ∃ t, (s && decide (0 < val xs)) = t := ⟨_, rfl⟩
  have TA := Lib.hid (fun W h => take_any A c s xs W h (by omega))
  have HC := Lib.hid (fun A1 c1 W h1 => small_any A1 c1 (digs (val xs)) W h1 (by omega))
  simp only [val_digs] at HC
  rw [ht1] at TA
  have hd : decide (val xs < 18446744073709551616) = false := decide_eq_false (by omega)
  rw [hd] at HC
  clear hd
  clear ht1
  generalize val xs = x at *
  go_enter Tryd.func62, Tryd.ntmps62
  go_wp2_with fail
  refine (TA.out _ (h.below (below1 _ _))).mono ?_
  rintro e w1 ⟨A1, c1, rfl, hd, hb⟩
  have K1 := Lib.hid hb
  have G1 := Lib.hid hd
  obtain ⟨hc1, hf1⟩ := bcell hb
  clear hb hd h
  go_wp2_with fail
  refine (HC.out A1 c1 _ (G1.out.below (below1 _ _))).mono ?_
  rintro e w2 ⟨rfl, nn, rfl⟩
  go_wp2
  go_ret2
  exact ⟨rfl, below_drewN (((below1 w _).trans (K1.out.mono (by simp))).alloc (by have := K1.out.size; simp at this; omega) _) _⟩
set_option maxHeartbeats 2000000 in
set_option maxRecDepth 100000 in
theorem zsmall_negfar (A : Option Addr) (c : Nat) (s : Bool) (xs : List Nat) (w : World) (h : Dg w A c xs) (hl : xs.length ≤ 1000000) (hz : s = true) (h0 : 9223372036854775808 < val xs) (h1 : val xs < 18446744073709551616) :
    Calls Tryd.prog 62 #[.agg #[.bool s, .slice A xs.length c]] w fun e w' => e = .returned (.tuple #[.int .i64 0, .bool false]) ∧ Below w.heap.size w w' := by
  have l1 := digs_len_le h.2.1
  obtain ⟨t1, ht1⟩ : ∃ t, (s && decide (0 < val xs)) = t := ⟨_, rfl⟩
  have TA := Lib.hid (fun W h => take_any A c s xs W h (by omega))
  have HC := Lib.hid (fun A1 c1 W h1 => small_any A1 c1 (digs (val xs)) W h1 (by omega))
  simp only [val_digs] at HC
  have e1 : (s && decide (0 < val xs)) = true := by rw [hz, decide_eq_true (by omega)]; rfl
  rw [e1] at ht1
  rw [e1] at TA
  have hs : small? (val xs) = val xs := by unfold small?; rw [if_pos (by omega)]
  have hd : decide (val xs < 18446744073709551616) = true := decide_eq_true (by omega)
  rw [hs, hd] at HC
  have dd : decide (((val xs : Nat) : Int) ≤ 9223372036854775808) = false := by simp; omega
  clear hs hd e1 h0 h1 hz
  clear ht1
  generalize val xs = x at *
  go_enter Tryd.func62, Tryd.ntmps62
  go_wp2_with fail
  refine (TA.out _ (h.below (below1 _ _))).mono ?_
  rintro e w1 ⟨A1, c1, rfl, hd, hb⟩
  have K1 := Lib.hid hb
  have G1 := Lib.hid hd
  obtain ⟨hc1, hf1⟩ := bcell hb
  clear hb hd h
  go_wp2_with fail
  refine (HC.out A1 c1 _ (G1.out.below (below1 _ _))).mono ?_
  rintro e w2 ⟨rfl, nn, rfl⟩
  go_wp2
  go_ret2
  exact ⟨rfl, below_drewN (((below1 w _).trans (K1.out.mono (by simp))).alloc (by have := K1.out.size; simp at this; omega) _) _⟩
set_option maxHeartbeats 2000000 in
set_option maxRecDepth 100000 in
theorem zsmall_posfar (A : Option Addr) (c : Nat) (s : Bool) (xs : List Nat) (w : World) (h : Dg w A c xs) (hl : xs.length ≤ 1000000) (hz : (s && decide (0 < val xs)) = false) (h0 : 9223372036854775807 < val xs) (h1 : val xs < 18446744073709551616) :
    Calls Tryd.prog 62 #[.agg #[.bool s, .slice A xs.length c]] w fun e w' => e = .returned (.tuple #[.int .i64 0, .bool false]) ∧ Below w.heap.size w w' := by
  have l1 := digs_len_le h.2.1
  obtain ⟨t1, ht1⟩ : ∃ t, (s && decide (0 < val xs)) = t := ⟨_, rfl⟩
  have TA := Lib.hid (fun W h => take_any A c s xs W h (by omega))
  have HC := Lib.hid (fun A1 c1 W h1 => small_any A1 c1 (digs (val xs)) W h1 (by omega))
  simp only [val_digs] at HC
  rw [hz] at ht1
  rw [hz] at TA
  have hs : small? (val xs) = val xs := by unfold small?; rw [if_pos (by omega)]
  have hd : decide (val xs < 18446744073709551616) = true := decide_eq_true (by omega)
  rw [hs, hd] at HC
  have dd : decide (((val xs : Nat) : Int) ≤ 9223372036854775807) = false := by simp; omega
  clear hs hd hz
  clear ht1
  generalize val xs = x at *
  go_enter Tryd.func62, Tryd.ntmps62
  go_wp2_with fail
  refine (TA.out _ (h.below (below1 _ _))).mono ?_
  rintro e w1 ⟨A1, c1, rfl, hd, hb⟩
  have K1 := Lib.hid hb
  have G1 := Lib.hid hd
  obtain ⟨hc1, hf1⟩ := bcell hb
  clear hb hd h
  go_wp2_with fail
  refine (HC.out A1 c1 _ (G1.out.below (below1 _ _))).mono ?_
  rintro e w2 ⟨rfl, nn, rfl⟩
  go_wp2
  go_ret2
  exact ⟨rfl, below_drewN (((below1 w _).trans (K1.out.mono (by simp))).alloc (by have := K1.out.size; simp at this; omega) _) _⟩
/-- What Small answers. -/
def smallz (z : Int) : Int := if -9223372036854775808 ≤ z ∧ z ≤ 9223372036854775807 then z else 0
def smallb (z : Int) : Bool := decide (-9223372036854775808 ≤ z ∧ z ≤ 9223372036854775807)
theorem zsmall_any (A : Option Addr) (c : Nat) (s : Bool) (xs : List Nat) (w : World) (h : Dg w A c xs) (hl : xs.length ≤ 1000000) (q : Int) (ok : Bool) (hq : smallz (sg s (val xs)) = q) (hok : smallb (sg s (val xs)) = ok) :
    Calls Tryd.prog 62 #[.agg #[.bool s, .slice A xs.length c]] w fun e w' => e = .returned (.tuple #[.int .i64 q, .bool ok]) ∧ Below w.heap.size w w' := by
  subst hq hok
  rcases Nat.lt_or_ge (val xs) 18446744073709551616 with h1 | h1
  · cases ht : (s && decide (0 < val xs))
    · have e : sg s (val xs) = (val xs : Int) := by
        rw [← sg_take, ht]; rfl
      rw [e]
      rcases Nat.lt_or_ge 9223372036854775807 (val xs) with h2 | h2
      · refine (zsmall_posfar A c s xs w h hl ht h2 h1).mono fun e w' ⟨he, hb⟩ => ⟨he.trans ?_, hb⟩
        exact ret_ib (by unfold smallz; rw [if_neg (by omega)]) (by unfold smallb; exact (decide_eq_false (by omega)).symm)
      · refine (zsmall_pos A c s xs w h hl ht h2).mono fun e w' ⟨he, hb⟩ => ⟨he.trans ?_, hb⟩
        exact ret_ib (by unfold smallz; rw [if_pos (by omega)]) (by unfold smallb; exact (decide_eq_true (by omega)).symm)
    · have e : sg s (val xs) = -(val xs : Int) := by
        rw [← sg_take, ht]; rfl
      simp only [Bool.and_eq_true, decide_eq_true_eq] at ht
      rw [e]
      rcases Nat.lt_or_ge 9223372036854775808 (val xs) with h2 | h2
      · refine (zsmall_negfar A c s xs w h hl ht.1 h2 h1).mono fun e w' ⟨he, hb⟩ => ⟨he.trans ?_, hb⟩
        exact ret_ib (by unfold smallz; rw [if_neg (by omega)]) (by unfold smallb; exact (decide_eq_false (by omega)).symm)
      · refine (zsmall_neg A c s xs w h hl ht.1 ht.2 h2).mono fun e w' ⟨he, hb⟩ => ⟨he.trans ?_, hb⟩
        exact ret_ib (by unfold smallz; rw [if_pos (by omega)]) (by unfold smallb; exact (decide_eq_true (by omega)).symm)
  · have e : sg s (val xs) = (val xs : Int) ∨ sg s (val xs) = -(val xs : Int) := by unfold sg; cases s <;> simp
    refine (zsmall_far A c s xs w h hl h1).mono fun e' w' ⟨he, hb⟩ => ⟨he.trans ?_, hb⟩
    exact ret_ib (by unfold smallz; rw [if_neg (by omega)]) (by unfold smallb; exact (decide_eq_false (by omega)).symm)
end Go.Proofs.YtfhdhldgflbpjaaDoor
end
