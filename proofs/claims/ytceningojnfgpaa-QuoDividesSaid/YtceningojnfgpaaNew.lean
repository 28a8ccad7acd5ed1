/-
  Slices of digits that are written out in a text; inputs that are cut to so many digits.
-/
import Derived.Test.YtceningojnfgpaaDigits
namespace Go.Proofs.Ytceningojnfgpaa
open Go.RowKit
theorem Live.new {w0 w : World} {L : List (Option Addr × Nat × List Nat)} (h : Live w0 w L) (cs : Array Value) {xs : List Nat} (hk : ok32 xs) (hc : ∀ j, j < xs.length → cs[j]? = some (.int .u32 (xs[j]?.getD 0 : Nat))) :
    Live w0 (w.alloc (.cells cs 37)) ((some ⟨w.heap.size, 0, none⟩, xs.length, xs) :: L) :=
  (h.step ((Below.refl _ _).alloc (Nat.le_refl _) _)).add (dg_new w cs _ hk hc (Nat.le_refl _))
theorem Live.new1 {w0 w : World} {L : List (Option Addr × Nat × List Nat)} (h : Live w0 w L) (x : Int) (a : Nat) (hx : x = (a : Int)) (ha : a < 4294967296) :
    Live w0 (w.alloc (.cells #[.int .u32 x] 37)) ((some ⟨w.heap.size, 0, none⟩, 1, [a]) :: L) := by
  subst hx
  exact h.new #[.int .u32 (a : Int)] (xs := [a]) (by intro z hz; simp at hz; omega) (by intro j hj; simp at hj; subst hj; rfl)
theorem Live.new2 {w0 w : World} {L : List (Option Addr × Nat × List Nat)} (h : Live w0 w L) (x y : Int) (a b : Nat) (hx : x = (a : Int)) (hy : y = (b : Int)) (ha : a < 4294967296) (hb : b < 4294967296) :
    Live w0 (w.alloc (.cells #[.int .u32 x, .int .u32 y] 37)) ((some ⟨w.heap.size, 0, none⟩, 2, [a, b]) :: L) := by
  subst hx hy
  exact h.new #[.int .u32 (a : Int), .int .u32 (b : Int)] (xs := [a, b]) (by intro z hz; simp at hz; omega)
    (by intro j hj; simp at hj; rcases (show j = 0 ∨ j = 1 by omega) with rfl | rfl <;> rfl)
theorem Live.new3 {w0 w : World} {L : List (Option Addr × Nat × List Nat)} (h : Live w0 w L) (x y z : Int) (a b c : Nat) (hx : x = (a : Int)) (hy : y = (b : Int)) (hz : z = (c : Int)) (ha : a < 4294967296) (hb : b < 4294967296) (hc : c < 4294967296) :
    Live w0 (w.alloc (.cells #[.int .u32 x, .int .u32 y, .int .u32 z] 37)) ((some ⟨w.heap.size, 0, none⟩, 3, [a, b, c]) :: L) := by
  subst hx hy hz
  exact h.new #[.int .u32 (a : Int), .int .u32 (b : Int), .int .u32 (c : Int)] (xs := [a, b, c]) (by intro z hz; simp at hz; omega)
    (by intro j hj; simp at hj; rcases (show j = 0 ∨ j = 1 ∨ j = 2 by omega) with rfl | rfl | rfl <;> rfl)
theorem digs_two {a b : Nat} (ha : a < 4294967296) (hb : b < 4294967296) (h : b ≠ 0) : digs (a + 4294967296 * b) = [a, b] := by
  rw [digs_pos (by omega), show (a + 4294967296 * b) % 4294967296 = a by omega, show (a + 4294967296 * b) / 4294967296 = b by omega, digs_pos h, show b % 4294967296 = b by omega, show b / 4294967296 = 0 by omega, digs_zero]
theorem digs_one {a : Nat} (ha : a < 4294967296) (h : a ≠ 0) : digs a = [a] := by
  rw [digs_pos h, show a % 4294967296 = a by omega, show a / 4294967296 = 0 by omega, digs_zero]
theorem live_start (w : World) : Live w w [] := ⟨Below.refl _ _, fun t ht => by simp at ht⟩
theorem Dg.take {w : World} {A : Option Addr} {c : Nat} {xs : List Nat} (h : Dg w A c xs) (k : Nat) : Dg w A c (xs.take k) :=
  ⟨by rw [List.length_take]; have := h.1; omega, fun x hx => h.2.1 x (List.mem_of_mem_take hx), fun h0 => by
    rw [List.length_take] at h0
    obtain ⟨b, off, e, hb, hc⟩ := h.2.2 (by omega)
    refine ⟨b, off, e, hb, fun j hj => ?_⟩
    rw [List.length_take] at hj
    rw [hc j (by omega), List.getElem?_take, if_pos (by omega)]⟩
theorem blen_ne {v : Nat} (h : v ≠ 0) : ((blen v : Int) == 0) = false := by rw [blen_pos h]; exact beq_eq_false_iff_ne.2 (by omega)
end Go.Proofs.Ytceningojnfgpaa
