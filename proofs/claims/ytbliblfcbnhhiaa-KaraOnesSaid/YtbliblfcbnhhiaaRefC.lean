/-
  The reference's own text (astrolaberef01): Cmp, Add, Sub.
-/
import Derived.Test.YtbliblfcbnhhiaaRefB
import Derived.Test.YtbliblfcbnhhiaaSub
namespace Go.Proofs.Ytbliblfcbnhhiaa
open Go.RowKit
/-- A list with noughts behind. -/
def pad (xs : List Nat) (N : Nat) : List Nat := xs ++ List.replicate (N - xs.length) 0
theorem pad_len {xs : List Nat} {N : Nat} (h : xs.length ≤ N) : (pad xs N).length = N := by simp [pad]; omega
theorem pad_val (xs : List Nat) (N : Nat) : val (pad xs N) = val xs := by rw [pad, val_append, val_zeros]; simp
theorem pad_ok {xs : List Nat} (N : Nat) (h : ok32 xs) : ok32 (pad xs N) := by
  intro x hx
  rcases List.mem_append.1 hx with hx | hx
  · exact h x hx
  · rw [List.eq_of_mem_replicate hx]; omega
theorem pad_get (xs : List Nat) (N j : Nat) : (pad xs N)[j]?.getD 0 = xs[j]?.getD 0 := by
  rcases Nat.lt_or_ge j xs.length with h | h
  · rw [pad, List.getElem?_append_left h]
  · rw [pad, List.getElem?_append_right h, List.getElem?_eq_none h, List.getElem?_replicate]
    split <;> rfl
theorem val_take_step (xs : List Nat) (k : Nat) : val (xs.take (k + 1)) = val (xs.take k) + 4294967296 ^ k * (xs[k]?.getD 0) := by
  rcases Nat.lt_or_ge k xs.length with h | h
  · rw [take_one h, val_snoc, List.length_take, Nat.min_eq_left (by omega)]
  · rw [List.take_of_length_le (by omega), List.take_of_length_le h, List.getElem?_eq_none h]; simp
theorem val_take_mod {xs : List Nat} (h : ok32 xs) (k : Nat) : val (xs.take k) = val xs % 4294967296 ^ k := by
  have e : val xs = val (xs.take k) + 4294967296 ^ k * val (xs.drop k) := by
    rcases Nat.lt_or_ge k xs.length with hl | hl
    · conv => lhs; rw [← List.take_append_drop k xs, val_append]
      rw [List.length_take, Nat.min_eq_left (by omega)]
    · rw [List.take_of_length_le hl, List.drop_eq_nil_of_le hl]; simp [val]
  have hlt : val (xs.take k) < 4294967296 ^ k := by
    have h1 := val_lt (xs := xs.take k) (fun x hx => h x (List.mem_of_mem_take hx))
    rw [List.length_take] at h1
    exact Nat.lt_of_lt_of_le h1 (Nat.pow_le_pow_right (by omega) (Nat.min_le_left _ _))
  rw [e, Nat.add_mul_mod_self_left, Nat.mod_eq_of_lt hlt]
theorem pad_lt {xs ys : List Nat} {N k : Nat} (hx : ok32 xs) (hy : ok32 ys) (lx : xs.length ≤ N) (ly : ys.length ≤ N) (hk : k < N) (hj : ∀ j, k < j → j < N → xs[j]?.getD 0 = ys[j]?.getD 0) (h : xs[k]?.getD 0 < ys[k]?.getD 0) : val xs < val ys := by
  rw [← pad_val xs N, ← pad_val ys N]
  exact val_lt_at _ _ k (by rw [pad_len lx, pad_len ly]) (pad_ok N hx) (pad_ok N hy) (by rw [pad_len lx]; exact hk) (fun j a b => by rw [pad_len lx] at b; rw [pad_get, pad_get]; exact hj j a b) (by rw [pad_get, pad_get]; exact h)
theorem pad_eq {xs ys : List Nat} {N : Nat} (lx : xs.length ≤ N) (ly : ys.length ≤ N) (hj : ∀ j, j < N → xs[j]?.getD 0 = ys[j]?.getD 0) : val xs = val ys := by
  rw [← pad_val xs N, ← pad_val ys N]
  exact congrArg val (val_eq_of (by rw [pad_len lx, pad_len ly]) (fun j b => by rw [pad_len lx] at b; rw [pad_get, pad_get]; exact hj j b))
theorem rsum_step {xs ys zs : List Nat} {k s d c t : Nat} (hz : zs.length = k) (h : val zs + 4294967296 ^ k * c = val (xs.take k) + val (ys.take k))
    (hs : s + 4294967296 * d = xs[k]?.getD 0 + ys[k]?.getD 0 + c) (ht : t = s) : val (zs ++ [t]) + 4294967296 ^ (k + 1) * d = val (xs.take (k + 1)) + val (ys.take (k + 1)) := by
  subst ht
  rw [val_take_step, val_take_step, val_snoc, hz, Nat.pow_succ]
  have : 4294967296 ^ k * t + 4294967296 ^ k * 4294967296 * d = 4294967296 ^ k * (xs[k]?.getD 0) + 4294967296 ^ k * (ys[k]?.getD 0) + 4294967296 ^ k * c := by
    rw [Nat.mul_assoc, ← Nat.mul_add, hs, Nat.mul_add, Nat.mul_add]
  omega
theorem sum_end {a b c p q z : Nat} (h : c + p * z = a + b) (ha : a < q) (hb : b < q) (hp : 2 * q ≤ p) : c = a + b := by
  rcases z with _ | z
  · omega
  · have : p ≤ p * (z + 1) := Nat.le_mul_of_pos_right _ (by omega)
    omega
theorem pow_twice (N : Nat) : 2 * 4294967296 ^ N ≤ 4294967296 ^ (N + 1) := by
  rw [Nat.pow_succ]
  have := Nat.mul_le_mul_left (4294967296 ^ N) (show 2 ≤ 4294967296 by omega)
  rw [Nat.mul_comm 2]
  exact this
theorem rsum_end {xs ys zs : List Nat} {N z : Nat} (o1 : ok32 xs) (o2 : ok32 ys) (n1 : xs.length ≤ N) (n2 : ys.length ≤ N) (h : val zs + 4294967296 ^ (N + 1) * z = val (xs.take (N + 1)) + val (ys.take (N + 1))) : val zs = val xs + val ys := by
  rw [List.take_of_length_le (by omega), List.take_of_length_le (by omega)] at h
  exact sum_end h (Nat.lt_of_lt_of_le (val_lt o1) (Nat.pow_le_pow_right (by omega) n1)) (Nat.lt_of_lt_of_le (val_lt o2) (Nat.pow_le_pow_right (by omega) n2)) (pow_twice N)
theorem ok_snoc {zs : List Nat} (h : ok32 zs) {x : Nat} (hx : x < 4294967296) : ok32 (zs ++ [x]) := by
  intro z hz
  rcases List.mem_append.1 hz with hz | hz
  · exact h z hz
  · simp at hz; omega
theorem own_snoc {w : World} {base : Nat} {e : TypeId} {v : Value} {k : Nat} {zs : List Nat} {x : Int} {t : Nat} (h : w.ownsRow base e 1 v (k + 1) (cells zs ++ [.int .u32 x])) (hx : x = (t : Int)) : w.ownsRow base e 1 v (k + 1) (cells (zs ++ [t])) := by
  subst hx
  simpa [cells] using h
theorem cell_new (w : World) (x : Value) (t : TypeId) : ∀ j u, [x][j]? = some u → (w.alloc (.cells #[x] t)).cell? ((⟨w.heap.size, 0, none⟩ : Addr).add j) = some u := by
  intro j u hj
  match j, hj with
  | 0, hj =>
    simp at hj; subst hj
    rw [Addr.add_lit, cell_of_row _ _ _ _ _ _ (heap_alloc_new w _)]
    rfl
end Go.Proofs.Ytbliblfcbnhhiaa
