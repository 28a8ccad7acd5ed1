/-
  The law's own 'examples': the chapter's examples are so.
-/
import Derived.Test.YtjnbdbgggcfbjaaNew
namespace Go.Proofs.Ytjnbdbgggcfbjaa
open Go.RowKit
set_option maxHeartbeats 1000000 in
set_option maxRecDepth 100000 in
theorem examples_any (w : World) : Calls Try.prog 11 #[] w fun e w' => e = .returned (.bool true) ∧ Below w.heap.size w w' := by
  have L0 := Lib.hid (live_start w)
  have e1 := Lib.hid (show digs (4294967295 + 1) = [0, 1] from digs_two (a := 0) (b := 1) (by omega) (by omega) (by omega))
  have e2 := Lib.hid (show digs (4294967296 * 3) = [0, 3] from digs_two (a := 0) (b := 3) (by omega) (by omega) (by omega))
  have e3 := Lib.hid (show (blen 17179869184 : Int) = 35 from by rw [blen_eq _ (by omega)]; rfl)
  go_enter Try.func11, Try.ntmps11
  go_wp2_with fail
  have L1 := Lib.hid ((L0.out.new1 4294967295 4294967295 rfl (by omega)).new1 1 1 rfl (by omega))
  refine Calls.mono (add_l (x := 4294967295) (y := 1) (xs := [4294967295]) (ys := [1]) L1.out (by simp) (by simp) rfl rfl rfl rfl (by simp) (by simp)) ?_
  rintro e w1 ⟨A1, c1, rfl, h1⟩
  have L2 := Lib.hid h1
  clear h1
  go_wp2_with fail
  have L3 := Lib.hid (L2.out.new2 0 1 0 1 rfl rfl (by omega) (by omega))
  refine Calls.mono (digits_l (ys := [0, 1]) L3.out (by simp) (by simp) rfl rfl (by rw [e1.out]; simp) e1.out) ?_
  rintro e w2 ⟨rfl, h1⟩
  have L4 := Lib.hid h1
  clear h1
  go_wp2_with fail
  have L5 := Lib.hid ((L4.out.new2 0 1 0 1 rfl rfl (by omega) (by omega)).new2 3 0 3 0 rfl rfl (by omega) (by omega))
  refine Calls.mono (mul_l (x := 4294967296) (y := 3) (xs := [0, 1]) (ys := [3, 0]) L5.out (by simp) (by simp) rfl rfl (by simp [val]) (by simp [val]) (by simp) (by simp)) ?_
  rintro e w3 ⟨A2, c2, rfl, h1⟩
  have L6 := Lib.hid h1
  clear h1
  go_wp2_with fail
  have L7 := Lib.hid (L6.out.new2 0 3 0 3 rfl rfl (by omega) (by omega))
  refine Calls.mono (digits_l (ys := [0, 3]) L7.out (by simp) (by simp) rfl rfl (by rw [e2.out]; simp) e2.out) ?_
  rintro e w4 ⟨rfl, h1⟩
  have L8 := Lib.hid h1
  clear h1
  go_wp2_with fail
  have L9 := Lib.hid (L8.out.new3 5 1 0 5 1 0 rfl rfl rfl (by omega) (by omega) (by omega))
  refine Calls.mono (small_l (x := 4294967301) (q := 4294967301) (xs := [5, 1, 0]) L9.out (by simp) rfl (by simp [val]) (by simp) (by omega) rfl) ?_
  rintro e w5 ⟨rfl, h1⟩
  have L10 := Lib.hid h1
  clear h1
  go_wp2_with fail
  have L11 := Lib.hid (L10.out.new2 0 4 0 4 rfl rfl (by omega) (by omega))
  refine Calls.mono (bits_l (x := 17179869184) (q := 35) (xs := [0, 4]) L11.out (by simp) rfl (by simp [val]) (by simp) e3.out) ?_
  rintro e w6 ⟨rfl, h1⟩
  have L12 := Lib.hid h1
  clear h1
  go_wp2
  go_ret
  exact ⟨rfl, L12.out.1⟩
end Go.Proofs.Ytjnbdbgggcfbjaa
