/-
  A block of digits that the call itself made; Add32 and Sub32 as functions; what is left of a list.
-/
import Derived.Test.YtceningojnfgpaaLen
import Derived.Deep.OwnRows
namespace Go.Proofs.Ytceningojnfgpaa
open Go.RowKit
def Row (w : World) (g : Nat) (ys : List Nat) : Prop := w.heap[g]? = some (.cells (cells ys).toArray 37 (0, 0))
theorem cells_len (xs : List Nat) : (cells xs).length = xs.length := by simp [cells]
theorem cells_at {xs : List Nat} {j : Nat} (h : j < xs.length) : (cells xs)[j]? = some (.int .u32 (xs[j]?.getD 0 : Nat)) := by
  unfold cells; rw [List.getElem?_map, List.getElem?_eq_getElem h]; simp
section
variable {w w' : World} {g : Nat} {ys : List Nat}
theorem Row.lt (h : Row w g ys) : g < w.heap.size := by
  rcases Nat.lt_or_ge g w.heap.size with hlt | hge
  · exact hlt
  · unfold Row at h; rw [Array.getElem?_eq_none hge] at h; cases h
theorem Row.cell (h : Row w g ys) {i : Nat} (hi : i < ys.length) : w.cell? ⟨g, i, none⟩ = some (.int .u32 (ys[i]?.getD 0 : Nat)) := by
  rw [cell_of_row w g i _ _ _ h, List.getElem?_toArray, cells_at hi]
theorem Row.frozen (h : Row w g ys) (i : Nat) : w.frozen? ⟨g, i, none⟩ = false := by unfold Row at h; simp [World.frozen?, h]
theorem Row.made (w : World) (n : Nat) : Row (w.alloc (.cells (madeCells #[.int .u32 0] n) 37)) w.heap.size (List.replicate n 0) := by
  have e : madeCells #[.int .u32 0] n = (cells (List.replicate n 0)).toArray := by
    apply Array.ext
    · simp [madeCells, cells]
    · intro i h1 h2
      simp [madeCells, cells, Nat.mod_one]
  unfold Row
  rw [e]
  exact heap_alloc_new w _
theorem Row.drew (h : Row w g ys) : Row w.drew g ys := h
theorem Row.drewN (h : Row w g ys) (n : Nat) : Row (w.drewN n) g ys := h
theorem Row.set_ (h : Row w g ys) (i x : Nat) : Row (w.setCell ⟨g, i, none⟩ (.int .u32 (x : Int))) g (ys.set i x) := by
  have e : (cells (ys.set i x)).toArray = (cells ys).toArray.setIfInBounds i (.int .u32 (x : Int)) := by
    simp [cells]
  unfold Row at *
  rw [e]
  simp [World.setCell, Array.getElem?_modify, h]
theorem Row.below {B : Nat} (h : Row w g ys) (hb : Below B w w') (hg : g < B) : Row w' g ys := (hb.block g hg).trans h
theorem Row.below_ (h : Row w g ys) (hb : Below w.heap.size w w') : Row w' g ys := h.below hb h.lt
theorem Row.dg (h : Row w g ys) (hk : ok32 ys) {c : Nat} (hc : ys.length ≤ c) : Dg w (some ⟨g, 0, none⟩) c ys :=
  ⟨hc, hk, fun _ => ⟨g, 0, rfl, h.lt, fun j hj => by rw [Nat.zero_add]; exact h.cell hj⟩⟩
end
theorem ok_zeros (n : Nat) : ok32 (List.replicate n 0) := by
  intro x hx
  rw [List.eq_of_mem_replicate hx]; omega
theorem ok_set {ys : List Nat} (h : ok32 ys) {x : Nat} (hx : x < 4294967296) (i : Nat) : ok32 (ys.set i x) := by
  intro z hz
  rcases List.mem_or_eq_of_mem_set hz with hz | rfl
  · exact h z hz
  · exact hx
/-- The lower and the upper half of a number of 64 bits. -/
def lo (n : Nat) : Nat := n % 4294967296
def hi (n : Nat) : Nat := n / 4294967296
theorem lo_hi (n : Nat) : lo n + 4294967296 * hi n = n := by unfold lo hi; omega
theorem lo_lt (n : Nat) : lo n < 4294967296 := by unfold lo; omega
def sublo (x y c : Nat) : Nat := (x + 8589934592 - y - c) % 4294967296
def subhi (x y c : Nat) : Nat := if x < y + c then 1 else 0
theorem sub_parts {x y c : Nat} (hx : x < 4294967296) (hy : y < 4294967296) (hc : c ≤ 1) : sublo x y c + y + c = x + 4294967296 * subhi x y c ∧ sublo x y c < 4294967296 ∧ subhi x y c ≤ 1 := by
  unfold sublo subhi; split <;> omega
set_option maxHeartbeats 400000 in
theorem add32_fn (x y c : Nat) (w : World) (hx : x < 4294967296) (hy : y < 4294967296) (hc : c ≤ 1) :
    Calls Try.prog 42 #[.int .u32 x, .int .u32 y, .int .u32 c] w fun e w' => e = .returned (.tuple #[.int .u32 (lo (x + y + c) : Nat), .int .u32 (hi (x + y + c) : Nat)]) ∧ w' = w :=
  (add32_any x y c w hx hy hc).mono fun e w' ⟨⟨s, d, he, h1, h2, h3⟩, hw⟩ => by
    have e1 : s = lo (x + y + c) := by unfold lo; omega
    have e2 : d = hi (x + y + c) := by unfold hi; omega
    exact ⟨by rw [he, e1, e2], hw.symm⟩
set_option maxHeartbeats 400000 in
theorem sub32_fn (x y c : Nat) (w : World) (hx : x < 4294967296) (hy : y < 4294967296) (hc : c ≤ 1) :
    Calls Try.prog 46 #[.int .u32 x, .int .u32 y, .int .u32 c] w fun e w' => e = .returned (.tuple #[.int .u32 (sublo x y c : Nat), .int .u32 (subhi x y c : Nat)]) ∧ w' = w :=
  (sub32_any x y c w hx hy hc).mono fun e w' ⟨⟨s, d, he, h1, h2, h3⟩, hw⟩ => by
    have := sub_parts hx hy hc
    have e1 : s = sublo x y c := by omega
    have e2 : d = subhi x y c := by omega
    exact ⟨by rw [he, e1, e2], hw.symm⟩
theorem take_set {ys : List Nat} {k x : Nat} (h : k < ys.length) : (ys.set k x).take (k + 1) = ys.take k ++ [x] := by
  rw [List.take_succ_eq_append_getElem (by simpa using h)]; simp [List.take_set_of_le (Nat.le_refl k)]
theorem take_one {xs : List Nat} {k : Nat} (h : k < xs.length) : xs.take (k + 1) = xs.take k ++ [xs[k]?.getD 0] := by
  rw [List.take_succ_eq_append_getElem h, List.getElem?_eq_getElem h]; rfl
theorem val_snoc (xs : List Nat) (d : Nat) : val (xs ++ [d]) = val xs + 4294967296 ^ xs.length * d := by rw [val_append]; simp [val]
/-- One place more: of a sum. -/
theorem sum_step {xs ys zs : List Nat} {k s d c t : Nat} (hx : k < xs.length) (hy : k < ys.length) (hz : k < zs.length) (h : val (zs.take k) + 4294967296 ^ k * c = val (xs.take k) + val (ys.take k))
    (hs : s + 4294967296 * d = xs[k]?.getD 0 + ys[k]?.getD 0 + c) (ht : t = s) : val ((zs.set k t).take (k + 1)) + 4294967296 ^ (k + 1) * d = val (xs.take (k + 1)) + val (ys.take (k + 1)) := by
  subst ht
  rw [take_set hz, take_one hx, take_one hy, val_snoc, val_snoc, val_snoc, List.length_take, List.length_take, List.length_take, Nat.min_eq_left (by omega), Nat.min_eq_left (by omega), Nat.min_eq_left (by omega), Nat.pow_succ]
  have : 4294967296 ^ k * t + 4294967296 ^ k * 4294967296 * d = 4294967296 ^ k * (xs[k]?.getD 0) + 4294967296 ^ k * (ys[k]?.getD 0) + 4294967296 ^ k * c := by
    rw [Nat.mul_assoc, ← Nat.mul_add, hs, Nat.mul_add, Nat.mul_add]
  omega
/-- One place more, where the shorter list is at its end. -/
theorem sum_step' {xs ys zs : List Nat} {k s d c t : Nat} (hx : k < xs.length) (hy : ys.length ≤ k) (hz : k < zs.length) (h : val (zs.take k) + 4294967296 ^ k * c = val (xs.take k) + val (ys.take k))
    (hs : s + 4294967296 * d = xs[k]?.getD 0 + 0 + c) (ht : t = s) : val ((zs.set k t).take (k + 1)) + 4294967296 ^ (k + 1) * d = val (xs.take (k + 1)) + val (ys.take (k + 1)) := by
  subst ht
  rw [List.take_of_length_le (by omega : ys.length ≤ k)] at h
  rw [take_set hz, take_one hx, List.take_of_length_le (by omega : ys.length ≤ k + 1), val_snoc, val_snoc, List.length_take, List.length_take, Nat.min_eq_left (by omega), Nat.min_eq_left (by omega), Nat.pow_succ]
  have : 4294967296 ^ k * t + 4294967296 ^ k * 4294967296 * d = 4294967296 ^ k * (xs[k]?.getD 0) + 4294967296 ^ k * c := by
    rw [Nat.mul_assoc, ← Nat.mul_add, hs, Nat.mul_add, Nat.add_zero]
  omega
theorem set_last {zs : List Nat} {n z : Nat} (h : zs.length = n + 1) : val (zs.set n z) = val (zs.take n) + 4294967296 ^ n * z := by
  have e : zs.set n z = zs.take n ++ [z] := by rw [← take_set (by omega : n < zs.length), List.take_of_length_le (by simp; omega)]
  rw [e, val_snoc, List.length_take, Nat.min_eq_left (by omega)]
end Go.Proofs.Ytceningojnfgpaa
