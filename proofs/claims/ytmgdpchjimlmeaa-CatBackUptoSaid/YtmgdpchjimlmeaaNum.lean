/-
  Plain arithmetic of lists of digits to the base 2^32, the least first. No program in sight.
-/
namespace Go.Proofs.Ytmgdpchjimlmeaa
/-- The number that a list of digits is. -/
def val : List Nat → Nat
  | [] => 0
  | x :: r => x + 4294967296 * val r
def ok32 (xs : List Nat) : Prop := ∀ x ∈ xs, x < 4294967296
/-- The digits of a number, none at the end being 0. -/
def digs (n : Nat) : List Nat := if h : n = 0 then [] else n % 4294967296 :: digs (n / 4294967296)
termination_by n
decreasing_by omega
theorem digs_zero : digs 0 = [] := by rw [digs]; simp
theorem digs_pos {n : Nat} (h : n ≠ 0) : digs n = n % 4294967296 :: digs (n / 4294967296) := by rw [digs]; simp [h]
theorem val_digs (n : Nat) : val (digs n) = n := by
  induction n using Nat.strongRecOn with
  | ind n ih =>
    by_cases h : n = 0
    · subst h; rw [digs_zero]; rfl
    · rw [digs_pos h, val, ih (n / 4294967296) (by omega)]; omega
theorem ok_digs (n : Nat) : ok32 (digs n) := by
  induction n using Nat.strongRecOn with
  | ind n ih =>
    by_cases h : n = 0
    · subst h; rw [digs_zero]; intro x hx; cases hx
    · rw [digs_pos h]; intro x hx
      rcases List.mem_cons.1 hx with rfl | hx
      · omega
      · exact ih _ (by omega) x hx
theorem digs_inj {a b : Nat} (h : digs a = digs b) : a = b := by rw [← val_digs a, h, val_digs]
theorem val_append (xs ys : List Nat) : val (xs ++ ys) = val xs + 4294967296 ^ xs.length * val ys := by
  induction xs with
  | nil => simp [val]
  | cons x r ih => simp only [List.cons_append, val, ih, List.length_cons, Nat.pow_succ]; rw [Nat.mul_add, ← Nat.mul_assoc, Nat.mul_comm 4294967296 (_ ^ _), Nat.add_assoc]
theorem val_lt {xs : List Nat} (h : ok32 xs) : val xs < 4294967296 ^ xs.length := by
  induction xs with
  | nil => simp [val]
  | cons x r ih =>
    have h1 : x < 4294967296 := h x (by simp)
    have h2 := ih (fun y hy => h y (by simp [hy]))
    simp only [val, List.length_cons, Nat.pow_succ]
    omega
/-- A list whose last digit is not 0 is the digits of its number. -/
theorem digs_val {xs : List Nat} (h : ok32 xs) (hl : ∀ x, xs.getLast? = some x → x ≠ 0) : digs (val xs) = xs := by
  induction xs with
  | nil => exact digs_zero
  | cons x r ih =>
    have h1 : x < 4294967296 := h x (by simp)
    have h2 : ok32 r := fun y hy => h y (by simp [hy])
    have hr : digs (val r) = r := by
      apply ih h2
      intro y hy
      apply hl
      cases r with
      | nil => simp at hy
      | cons z s => simpa using hy
    have hne : val (x :: r) ≠ 0 := by
      intro h0
      simp only [val] at h0
      have hx0 : x = 0 := by omega
      have hr0 : val r = 0 := by omega
      rw [hr0, digs_zero] at hr
      subst hr
      exact hl x (by simp) hx0
    rw [digs_pos hne]
    simp only [val]
    have e1 : (x + 4294967296 * val r) % 4294967296 = x := by omega
    have e2 : (x + 4294967296 * val r) / 4294967296 = val r := by omega
    rw [e1, e2, hr]
theorem val_zeros (n : Nat) : val (List.replicate n 0) = 0 := by
  induction n with
  | zero => rfl
  | succ n ih => simp [List.replicate_succ, val, ih]
/-- The first n digits, all behind them being 0. -/
theorem digs_take {xs : List Nat} {n : Nat} (h : ok32 xs) (hn : n ≤ xs.length) (hz : ∀ j, n ≤ j → j < xs.length → xs[j]?.getD 0 = 0) (hl : 0 < n → xs[n - 1]?.getD 0 ≠ 0) :
    xs.take n = digs (val xs) := by
  have e0 : xs.drop n = List.replicate (xs.length - n) 0 := by
    apply List.ext_getElem
    · simp
    · intro j h1 h2
      simp only [List.getElem_drop, List.getElem_replicate]
      have := hz (n + j) (by omega) (by simp at h1; omega)
      rw [List.getElem?_eq_getElem (by simp at h1; omega)] at this
      simpa using this
  have e1 : val xs = val (xs.take n) := by
    conv => lhs; rw [← List.take_append_drop n xs, val_append, e0, val_zeros]
    simp
  rw [e1, digs_val]
  · intro x hx; exact h x (List.mem_of_mem_take hx)
  · intro x hx
    rw [List.getLast?_eq_getElem?] at hx
    have hpos : 0 < n := by
      rcases Nat.eq_zero_or_pos n with h0 | h0
      · subst h0; simp at hx
      · exact h0
    have := hl hpos
    rw [List.length_take, Nat.min_eq_left hn, List.getElem?_take] at hx
    rw [if_pos (by omega)] at hx
    rw [hx] at this
    simpa using this
theorem digs_len_lt : ∀ {m n : Nat}, n < 4294967296 ^ m → (digs n).length ≤ m := by
  intro m
  induction m with
  | zero =>
    intro n hn
    have : n = 0 := by simp at hn; omega
    subst this; rw [digs_zero]; simp
  | succ m ih =>
    intro n hn
    by_cases h0 : n = 0
    · subst h0; rw [digs_zero]; simp
    · rw [digs_pos h0]
      have := ih (n := n / 4294967296) (by rw [Nat.div_lt_iff_lt_mul (by omega)]; rw [Nat.pow_succ] at hn; omega)
      simp; omega
theorem digs_len_le {xs : List Nat} (h : ok32 xs) : (digs (val xs)).length ≤ xs.length := digs_len_lt (val_lt h)
/-- How many bits a number needs. -/
def blen (n : Nat) : Nat := if h : n = 0 then 0 else 1 + blen (n / 2)
termination_by n
decreasing_by omega
theorem blen_zero : blen 0 = 0 := by rw [blen]; simp
theorem blen_pos {n : Nat} (h : n ≠ 0) : blen n = 1 + blen (n / 2) := by rw [blen]; simp [h]
theorem blen_shift : ∀ (k n : Nat), 2 ^ k ≤ n → blen n = k + blen (n / 2 ^ k) := by
  intro k
  induction k with
  | zero => intro n _; simp
  | succ k ih =>
    intro n h
    have h2 : 2 ^ (k + 1) = 2 * 2 ^ k := by rw [Nat.pow_succ, Nat.mul_comm]
    have hp : 0 < 2 ^ k := Nat.pow_pos (by omega)
    rw [blen_pos (by omega : n ≠ 0), ih (n / 2) (by omega), Nat.div_div_eq_div_mul, h2]
    omega
theorem blen_val : ∀ (xs : List Nat), ok32 xs → ∀ d, xs.getLast? = some d → d ≠ 0 → blen (val xs) = 32 * (xs.length - 1) + blen d := by
  intro xs
  induction xs with
  | nil => intro _ d h; simp at h
  | cons x r ih =>
    intro hk d h hd
    have hx : x < 4294967296 := hk x (by simp)
    rcases r with _ | ⟨y, s⟩
    · simp at h; subst h; simp [val]
    · have h' : (y :: s).getLast? = some d := by simpa using h
      have hr := ih (fun z hz => hk z (by simp [hz])) d h' hd
      have hpos : val (y :: s) ≠ 0 := by
        intro h0
        have := digs_val (xs := y :: s) (fun z hz => hk z (by simp [hz])) (fun z hz => by rw [h'] at hz; injection hz with hz; omega)
        rw [h0, digs_zero] at this
        simp at this
      have e : val (x :: y :: s) = x + 4294967296 * val (y :: s) := rfl
      rw [e, blen_shift 32 _ (by omega)]
      have e2 : (x + 4294967296 * val (y :: s)) / 2 ^ 32 = val (y :: s) := by omega
      rw [e2, hr]
      simp only [List.length_cons]
      omega
theorem last_digs {n d : Nat} (h : (digs n).getLast? = some d) : d ≠ 0 := by
  induction n using Nat.strongRecOn with
  | ind n ih =>
    by_cases h0 : n = 0
    · subst h0; rw [digs_zero] at h; simp at h
    · rw [digs_pos h0] at h
      by_cases h1 : n / 4294967296 = 0
      · rw [h1, digs_zero] at h; simp at h; omega
      · have e : (digs (n / 4294967296)).getLast? = some d := by
          rw [List.getLast?_cons] at h
          rcases hl : (digs (n / 4294967296)).getLast? with _ | z
          · rw [digs_pos h1] at hl; simp at hl
          · rw [hl] at h; simpa using h
        exact ih _ (by omega) e
theorem blen_digs (v : Nat) (h : v ≠ 0) : blen v = 32 * ((digs v).length - 1) + blen ((digs v)[(digs v).length - 1]?.getD 0) := by
  have hne : (digs v).getLast? = (digs v)[(digs v).length - 1]? := List.getLast?_eq_getElem?
  rcases hd : (digs v)[(digs v).length - 1]? with _ | d
  · rw [digs_pos h] at hd; simp at hd
  · have := blen_val (digs v) (ok_digs v) d (by rw [hne, hd]) (last_digs (by rw [hne, hd]))
    rw [val_digs] at this
    simpa using this
theorem digs_nil {v : Nat} : (digs v).length = 0 ↔ v = 0 := by
  constructor
  · intro h; by_cases h0 : v = 0
    · exact h0
    · rw [digs_pos h0] at h; simp at h
  · rintro rfl; rw [digs_zero]; rfl
/-- A digit's bits are the number's. -/
theorem val_bit : ∀ (xs : List Nat) (k r : Nat), ok32 xs → r < 32 → (val xs).testBit (32 * k + r) = (xs[k]?.getD 0).testBit r := by
  intro xs
  induction xs with
  | nil => intro k r _ _; simp [val]
  | cons x t ih =>
    intro k r hk hr
    have hx : x < 4294967296 := hk x (by simp)
    have ht : ok32 t := fun z hz => hk z (by simp [hz])
    have e : val (x :: t) = 2 ^ 32 * val t + x := by simp only [val]; omega
    rw [e, Nat.testBit_two_pow_mul_add _ (by omega)]
    rcases k with _ | k
    · rw [if_pos (by omega)]; simp
    · rw [if_neg (by omega), show 32 * (k + 1) + r - 32 = 32 * k + r by omega, ih k r ht hr]; simp
end Go.Proofs.Ytmgdpchjimlmeaa
