/-
  astrolabelaw03.QuoRoots: any number has the root and the rest that the chapter says.
-/
import Derived.Test.YtceningojnfgpaaExam
import Derived.Test.YtceningojnfgpaaQref3
namespace Go.Proofs.Ytceningojnfgpaa
open Go.RowKit
set_option maxHeartbeats 8000000 in
set_option maxRecDepth 100000 in
theorem qroots_any (A : Option Addr) (ca : Nat) (xs : List Nat)  (w : World) (hX : Dg w A ca xs)  :
    Calls Try.prog 4 #[.slice A xs.length ca] w fun e w' => e = .returned (.bool true) ∧ Below w.heap.size w w' := by
  have L0 := Lib.hid ((live_start w).add (hX.take 30))
  have mX := hX.1
  have nX : (0 : Int) ≤ min (xs.length : Int) 30 := by omega
  have kX : min (xs.length : Int) 30 ≤ (ca : Int) := by omega
  have HnX := Lib.hid (show (min (xs.length : Int) 30).toNat = (xs.take 30).length from by rw [List.length_take]; omega)
  have lX : (xs.take 30).length ≤ 30 := by rw [List.length_take]; omega
  have dX := digs_len_le (hX.take 30).2.1
  have oX := Lib.hid (hX.take 30).2.1
  clear hX mX
  generalize xs.take 30 = X at *
  go_enter Try.func4, Try.ntmps4
  go_wp2_with fail
  refine (examples_any w).mono ?_
  rintro e w1 ⟨rfl, hb1⟩
  have L1 := Lib.hid (L0.out.step hb1)
  clear hb1
  go_wp2_with fail
  refine Calls.mono (sqrt_l (xs := X) (x := val X) L1.out (by simp) HnX.out rfl (by omega) ) ?_
  rintro e w2 ⟨A2, c2, B2, d2, rfl, h1⟩
  have L2 := Lib.hid h1
  clear h1
  have lt2_0 := digs_len_mono _ _ (rt_self (val X))
  have lt2_1 := digs_sub_len (val X) (rt (val X) * rt (val X))
  go_wp2_with fail
  refine Calls.mono (rsqrt_l (xs := X) (x := val X) L2.out (by simp) HnX.out rfl (by omega) ) ?_
  rintro e w3 ⟨A3, c3, B3, d3, rfl, h1⟩
  have L3 := Lib.hid h1
  clear h1
  go_wp2_with fail
  refine Calls.mono (digits_l (xs := digs (rt (val X))) (ys := digs (rt (val X))) L3.out (by simp) (by simp) rfl rfl (by first | omega | simp) (rfl)) ?_
  rintro e w4 ⟨rfl, h1⟩
  have L4 := Lib.hid h1
  clear h1
  go_wp2_with fail
  refine Calls.mono (digits_l (xs := digs (val X - rt (val X) * rt (val X))) (ys := digs (val X - rt (val X) * rt (val X))) L4.out (by simp) (by simp) rfl rfl (by first | omega | simp) (rfl)) ?_
  rintro e w5 ⟨rfl, h1⟩
  have L5 := Lib.hid h1
  clear h1
  go_wp2
  go_ret
  exact ⟨rfl, L5.out.1⟩
end Go.Proofs.Ytceningojnfgpaa
