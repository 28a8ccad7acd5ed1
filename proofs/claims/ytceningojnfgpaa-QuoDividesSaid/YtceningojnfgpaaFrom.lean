/-
  nat.From, Small, Cmp.
-/
import Derived.Test.YtceningojnfgpaaSmall
namespace Go.Proofs.Ytceningojnfgpaa
open Go.RowKit
theorem short_n {A : Option Addr} {c n : Nat} {xs : List Nat} {w : World} (h : Dg w A c xs) (hl : xs.length ≤ 16777216) (hn : n = xs.length) :
    Calls Try.prog 40 #[.slice A n c] w fun e w' => ∃ A' c', e = .returned (.slice A' (digs (val xs)).length c') ∧ Dg w A' c' (digs (val xs)) ∧ w = w' := by
  subst hn; exact short_any A c xs w h hl
/-- A block that was just made holds the digits. -/
theorem dg_new (w : World) (cs : Array Value) (t : TypeId) {xs : List Nat} (hk : ok32 xs) (hc : ∀ j, j < xs.length → cs[j]? = some (.int .u32 (xs[j]?.getD 0 : Nat))) {c : Nat} (hcap : xs.length ≤ c) :
    Dg (w.alloc (.cells cs t)) (some ⟨w.heap.size, 0, none⟩) c xs := by
  refine ⟨hcap, hk, fun _ => ⟨w.heap.size, 0, rfl, by simp, fun j hj => ?_⟩⟩
  rw [Nat.zero_add, cell_of_row _ _ _ _ _ _ (heap_alloc_new w _)]
  exact hc j hj
theorem cell_eq {x : Int} {a : Nat} (h : x = (a : Int)) : Value.int .u32 x = .int .u32 (a : Int) := by rw [h]
theorem dg_two (w : World) (x y : Int) (a b : Nat) (hx : x = (a : Int)) (hy : y = (b : Int)) (t : TypeId) (ha : a < 4294967296) (hb : b < 4294967296) :
    Dg (w.alloc (.cells #[.int .u32 x, .int .u32 y] t)) (some ⟨w.heap.size, 0, none⟩) 2 [a, b] := by
  refine dg_new _ _ _ ?_ (fun j hj => ?_) (Nat.le_refl _)
  · intro x hx; simp at hx; rcases hx with rfl | rfl <;> assumption
  · simp at hj
    subst hx hy
    rcases (show j = 0 ∨ j = 1 by omega) with rfl | rfl <;> rfl
set_option maxHeartbeats 400000 in
theorem from_any (n : Nat) (w : World) (hn : n < 18446744073709551616) :
    Calls Try.prog 48 #[.int .u64 n] w fun e w' => ∃ A' c', e = .returned (.slice A' (digs n).length c') ∧ Dg w' A' c' (digs n) ∧ Below w.heap.size w w' := by
  have hv : val [n % 4294967296, n / 4294967296] = n := by simp only [val]; omega
  have hs := short_n (n := 2) (dg_two w ((n : Int) % 4294967296) ((n : Int) / 4294967296) (n % 4294967296) (n / 4294967296) (by omega) (by omega) 37 (by omega) (by omega)) (by simp) rfl
  rw [hv] at hs
  have HS := Lib.hid hs
  clear hs hv
  go_enter Try.func48, Try.ntmps48
  go_wp2_with fail
  refine HS.out.mono ?_
  rintro e w' ⟨A1, c1, rfl, h1, rfl⟩
  have H1 := Lib.hid h1
  clear h1
  go_wp2
  go_ret
  exact ⟨A1, c1, rfl, H1.out, (Below.refl _ _).alloc (Nat.le_refl _) _⟩
theorem digs_small {n : Nat} (h : n < 18446744073709551616) : (digs n).length ≤ 2 := by
  by_cases h0 : n = 0
  · subst h0; rw [digs_zero]; simp
  · rw [digs_pos h0]
    by_cases h1 : n / 4294967296 = 0
    · rw [h1, digs_zero]; simp
    · rw [digs_pos h1, show n / 4294967296 / 4294967296 = 0 by omega, digs_zero]; simp
theorem digs_great {n : Nat} (h : 18446744073709551616 ≤ n) : 2 < (digs n).length := by
  rw [digs_pos (by omega), digs_pos (by omega), digs_pos (by omega)]; simp
def small? (n : Nat) : Nat := if n < 18446744073709551616 then n else 0
theorem ret_ub {a b : Int} {p q : Bool} (h : a = b ∧ p = q) : Ending.returned (.tuple #[.int .u64 a, .bool p]) = .returned (.tuple #[.int .u64 b, .bool q]) := by rw [h.1, h.2]
theorem small_yes {n v : Nat} (h : n = v) (hv : n < 18446744073709551616) : (v : Int) = (small? n : Int) ∧ true = decide (n < 18446744073709551616) := by
  unfold small?; rw [if_pos hv, h]; exact ⟨rfl, by rw [decide_eq_true]; omega⟩
theorem small_no {n : Nat} (hv : 18446744073709551616 ≤ n) : (0 : Int) = (small? n : Int) ∧ false = decide (n < 18446744073709551616) := by
  unfold small?; rw [if_neg (by omega)]; exact ⟨rfl, by rw [decide_eq_false]; omega⟩
theorem or_join (a b : Nat) (ha : a < 4294967296) (hb : b < 4294967296) : bits BinOp.or IntKind.u64 ((a : Int) * 4294967296) (b : Int) = ((b + 4294967296 * a : Nat) : Int) := by
  have e : (a : Int) * 4294967296 = ((a * 4294967296 : Nat) : Int) := by omega
  rw [e, u64_or_nat _ _ (by omega) (by omega), nat_join 32 _ _ (by omega) (by omega)]
  congr 1
  omega
end Go.Proofs.Ytceningojnfgpaa
