/-
  The law's own 'examples': the chapter's examples are so.
-/
import Derived.Test.YtjnbdbgggcfbjaaLive
namespace Go.Proofs.Ytjnbdbgggcfbjaa
open Go.RowKit
theorem Live.new {w0 w : World} {L : List (Option Addr × Nat × List Nat)} (h : Live w0 w L) (cs : Array Value) {xs : List Nat} (hk : ok32 xs) (hc : ∀ j, j < xs.length → cs[j]? = some (.int .u32 (xs[j]?.getD 0 : Nat))) :
    Live w0 (w.alloc (.cells cs 40)) ((some ⟨w.heap.size, 0, none⟩, xs.length, xs) :: L) :=
  (h.step ((Below.refl _ _).alloc (Nat.le_refl _) _)).add (dg_new w cs _ hk hc (Nat.le_refl _))
theorem Live.new1 {w0 w : World} {L : List (Option Addr × Nat × List Nat)} (h : Live w0 w L) (x : Int) (a : Nat) (hx : x = (a : Int)) (ha : a < 4294967296) :
    Live w0 (w.alloc (.cells #[.int .u32 x] 40)) ((some ⟨w.heap.size, 0, none⟩, 1, [a]) :: L) := by
  subst hx
  exact h.new #[.int .u32 (a : Int)] (xs := [a]) (by intro z hz; simp at hz; omega) (by intro j hj; simp at hj; subst hj; rfl)
theorem Live.new2 {w0 w : World} {L : List (Option Addr × Nat × List Nat)} (h : Live w0 w L) (x y : Int) (a b : Nat) (hx : x = (a : Int)) (hy : y = (b : Int)) (ha : a < 4294967296) (hb : b < 4294967296) :
    Live w0 (w.alloc (.cells #[.int .u32 x, .int .u32 y] 40)) ((some ⟨w.heap.size, 0, none⟩, 2, [a, b]) :: L) := by
  subst hx hy
  exact h.new #[.int .u32 (a : Int), .int .u32 (b : Int)] (xs := [a, b]) (by intro z hz; simp at hz; omega)
    (by intro j hj; simp at hj; rcases (show j = 0 ∨ j = 1 by omega) with rfl | rfl <;> rfl)
theorem Live.new3 {w0 w : World} {L : List (Option Addr × Nat × List Nat)} (h : Live w0 w L) (x y z : Int) (a b c : Nat) (hx : x = (a : Int)) (hy : y = (b : Int)) (hz : z = (c : Int)) (ha : a < 4294967296) (hb : b < 4294967296) (hc : c < 4294967296) :
    Live w0 (w.alloc (.cells #[.int .u32 x, .int .u32 y, .int .u32 z] 40)) ((some ⟨w.heap.size, 0, none⟩, 3, [a, b, c]) :: L) := by
  subst hx hy hz
  exact h.new #[.int .u32 (a : Int), .int .u32 (b : Int), .int .u32 (c : Int)] (xs := [a, b, c]) (by intro z hz; simp at hz; omega)
    (by intro j hj; simp at hj; rcases (show j = 0 ∨ j = 1 ∨ j = 2 by omega) with rfl | rfl | rfl <;> rfl)
theorem digs_two {a b : Nat} (ha : a < 4294967296) (hb : b < 4294967296) (h : b ≠ 0) : digs (a + 4294967296 * b) = [a, b] := by
  rw [digs_pos (by omega), show (a + 4294967296 * b) % 4294967296 = a by omega, show (a + 4294967296 * b) / 4294967296 = b by omega, digs_pos h, show b % 4294967296 = b by omega, show b / 4294967296 = 0 by omega, digs_zero]
theorem digs_one {a : Nat} (ha : a < 4294967296) (h : a ≠ 0) : digs a = [a] := by
  rw [digs_pos h, show a % 4294967296 = a by omega, show a / 4294967296 = 0 by omega, digs_zero]
theorem live_start (w : World) : Live w w [] := ⟨Below.refl _ _, fun t ht => by simp at ht⟩
set_option maxHeartbeats 1000000 in
set_option maxRecDepth 100000 in
theorem examples_any (w : World) : Calls Try.prog 11 #[] w fun e w' => e = .returned (.bool true) ∧ Below w.heap.size w w' := by
  have L0 := Lib.hid (live_start w)
  have e1 := Lib.hid (show digs (4294967295 + 1) = [0, 1] from digs_two (a := 0) (b := 1) (by omega) (by omega) (by omega))
  have e2 := Lib.hid (show digs (4294967296 * 3) = [0, 3] from digs_two (a := 0) (b := 3) (by omega) (by omega) (by omega))
  have e3 := Lib.hid (show (blen 17179869184 : Int) = 35 from by rw [blen_eq _ (by omega)]; rfl)
  go_enter Try.func11, Try.ntmps11
  go_wp2_with fail
  have L1 := Lib.hid ((L0.out.new1 4294967295 4294967295 rfl (by omega)).new1 1 1 rfl (by omega))
  refine Calls.mono (add_l (x := 4294967295) (y := 1) (xs := [4294967295]) (ys := [1]) L1.out (by simp) (by simp) rfl rfl rfl rfl (by simp) (by simp)) ?_
  rintro e w1 ⟨A1, c1, rfl, h1⟩
  have L2 := Lib.hid h1
  clear h1
  go_wp2_with fail
  have L3 := Lib.hid (L2.out.new2 0 1 0 1 rfl rfl (by omega) (by omega))
  refine Calls.mono (digits_l (ys := [0, 1]) L3.out (by simp) (by simp) rfl rfl (by rw [e1.out]; simp) e1.out) ?_
  rintro e w2 ⟨rfl, h1⟩
  have L4 := Lib.hid h1
  clear h1
  go_wp2_with fail
  have L5 := Lib.hid ((L4.out.new2 0 1 0 1 rfl rfl (by omega) (by omega)).new2 3 0 3 0 rfl rfl (by omega) (by omega))
  refine Calls.mono (mul_l (x := 4294967296) (y := 3) (xs := [0, 1]) (ys := [3, 0]) L5.out (by simp) (by simp) rfl rfl (by simp [val]) (by simp [val]) (by simp) (by simp)) ?_
  rintro e w3 ⟨A2, c2, rfl, h1⟩
  have L6 := Lib.hid h1
  clear h1
  go_wp2_with fail
  have L7 := Lib.hid (L6.out.new2 0 3 0 3 rfl rfl (by omega) (by omega))
  refine Calls.mono (digits_l (ys := [0, 3]) L7.out (by simp) (by simp) rfl rfl (by rw [e2.out]; simp) e2.out) ?_
  rintro e w4 ⟨rfl, h1⟩
  have L8 := Lib.hid h1
  clear h1
  go_wp2_with fail
  have L9 := Lib.hid (L8.out.new3 5 1 0 5 1 0 rfl rfl rfl (by omega) (by omega) (by omega))
  refine Calls.mono (small_l (x := 4294967301) (q := 4294967301) (xs := [5, 1, 0]) L9.out (by simp) rfl (by simp [val]) (by simp) (by omega) rfl) ?_
  rintro e w5 ⟨rfl, h1⟩
  have L10 := Lib.hid h1
  clear h1
  go_wp2_with fail
  have L11 := Lib.hid (L10.out.new2 0 4 0 4 rfl rfl (by omega) (by omega))
  refine Calls.mono (bits_l (x := 17179869184) (q := 35) (xs := [0, 4]) L11.out (by simp) rfl (by simp [val]) (by simp) e3.out) ?_
  rintro e w6 ⟨rfl, h1⟩
  have L12 := Lib.hid h1
  clear h1
  go_wp2
  go_ret
  exact ⟨rfl, L12.out.1⟩
end Go.Proofs.Ytjnbdbgggcfbjaa
