/-
  The law's own 'examples' of chapter 3.
-/
import Derived.Test.YtceningojnfgpaaSqrt2
import Derived.Test.YtceningojnfgpaaLive3
namespace Go.Proofs.Ytceningojnfgpaa
open Go.RowKit
theorem rt99 : rt 99 = 9 := (rt_is (n := 99) (s := 9) (by omega) (by omega)).symm
set_option maxHeartbeats 2000000 in
set_option maxRecDepth 100000 in
theorem examples_any (w : World) : Calls Try.prog 11 #[] w fun e w' => e = .returned (.bool true) ∧ Below w.heap.size w w' := by
  have L0 := Lib.hid (live_start w)
  have e1 := Lib.hid (show digs (18446744073709551616 / 10) = [2576980377, 429496729] from digs_two (a := 2576980377) (b := 429496729) (by omega) (by omega) (by omega))
  have e2 := Lib.hid (show digs (18446744073709551616 % 10) = [6] from digs_one (a := 6) (by omega) (by omega))
  have e3 := Lib.hid (show digs (rt 99) = [9] by rw [rt99]; exact digs_one (a := 9) (by omega) (by omega))
  have e4 := Lib.hid (show digs (99 - rt 99 * rt 99) = [18] by rw [rt99]; exact digs_one (a := 18) (by omega) (by omega))
  have e5 := Lib.hid (show digs (Nat.gcd 12 18) = [6] from digs_one (a := 6) (by omega) (by omega))
  go_enter Try.func11, Try.ntmps11
  go_wp2_with fail
  have L1 := Lib.hid ((L0.out.new3 0 0 1 0 0 1 rfl rfl rfl (by omega) (by omega) (by omega)).new1 10 10 rfl (by omega))
  refine Calls.mono (divmod_l (x := 18446744073709551616) (y := 10) (xs := [0, 0, 1]) (ys := [10]) L1.out (by simp) (by simp) rfl rfl (by simp [val]) (by simp [val]) (by simp) (by simp) (by omega)) ?_
  rw [e1.out, e2.out]
  rintro e w2 ⟨A1, c1, A2, c2, rfl, h1⟩
  have L2 := Lib.hid h1
  clear h1
  go_wp2_with fail
  have L3 := Lib.hid (L2.out.new2 2576980377 429496729 2576980377 429496729 rfl rfl (by omega) (by omega))
  refine Calls.mono (digits_l (xs := [2576980377, 429496729]) (ys := [2576980377, 429496729]) L3.out (by simp) (by simp) rfl rfl (by simp) rfl) ?_
  rintro e w3 ⟨rfl, h1⟩
  have L4 := Lib.hid h1
  clear h1
  go_wp2_with fail
  have L5 := Lib.hid (L4.out.new1 6 6 rfl (by omega))
  refine Calls.mono (digits_l (xs := [6]) (ys := [6]) L5.out (by simp) (by simp) rfl rfl (by simp) rfl) ?_
  rintro e w4 ⟨rfl, h1⟩
  have L6 := Lib.hid h1
  clear h1
  go_wp2_with fail
  have L7 := Lib.hid (L6.out.new1 99 99 rfl (by omega))
  refine Calls.mono (sqrt_l (x := 99) (xs := [99]) L7.out (by simp) rfl (by simp [val]) (by simp)) ?_
  rw [e3.out, e4.out]
  rintro e w5 ⟨A5, c5, A6, c6, rfl, h1⟩
  have L8 := Lib.hid h1
  clear h1
  go_wp2_with fail
  have L9 := Lib.hid (L8.out.new1 9 9 rfl (by omega))
  refine Calls.mono (digits_l (xs := [9]) (ys := [9]) L9.out (by simp) (by simp) rfl rfl (by simp) rfl) ?_
  rintro e w6 ⟨rfl, h1⟩
  have L10 := Lib.hid h1
  clear h1
  go_wp2_with fail
  have L11 := Lib.hid (L10.out.new1 18 18 rfl (by omega))
  refine Calls.mono (digits_l (xs := [18]) (ys := [18]) L11.out (by simp) (by simp) rfl rfl (by simp) rfl) ?_
  rintro e w7 ⟨rfl, h1⟩
  have L12 := Lib.hid h1
  clear h1
  go_wp2_with fail
  have L13 := Lib.hid ((L12.out.new1 12 12 rfl (by omega)).new1 18 18 rfl (by omega))
  refine Calls.mono (gcd_l (x := 12) (y := 18) (xs := [12]) (ys := [18]) L13.out (by simp) (by simp) rfl rfl (by simp [val]) (by simp [val]) (by simp) (by simp)) ?_
  rw [e5.out]
  rintro e w8 ⟨A8, c8, rfl, h1⟩
  have L14 := Lib.hid h1
  clear h1
  go_wp2_with fail
  have L15 := Lib.hid (L14.out.new1 6 6 rfl (by omega))
  refine Calls.mono (digits_l (xs := [6]) (ys := [6]) L15.out (by simp) (by simp) rfl rfl (by simp) rfl) ?_
  rintro e w9 ⟨rfl, h1⟩
  have L16 := Lib.hid h1
  clear h1
  go_wp2
  go_ret
  exact ⟨rfl, L16.out.1⟩
end Go.Proofs.Ytceningojnfgpaa
