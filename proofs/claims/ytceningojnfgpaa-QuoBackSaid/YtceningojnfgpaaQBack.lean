/-
  astrolabelaw03.QuoBack: the quotient times the divisor, and the rest, are the number.
-/
import Derived.Test.YtceningojnfgpaaExam
namespace Go.Proofs.Ytceningojnfgpaa
open Go.RowKit
set_option maxHeartbeats 8000000 in
set_option maxRecDepth 100000 in
theorem qback_any (A : Option Addr) (ca : Nat) (xs : List Nat) (B : Option Addr) (cb : Nat) (ys : List Nat)  (w : World) (hX : Dg w A ca xs) (hY : Dg w B cb ys)  :
    Calls Try.prog 5 #[.slice A xs.length ca, .slice B ys.length cb] w fun e w' => e = .returned (.bool true) ∧ Below w.heap.size w w' := by
  have L0 := Lib.hid (((live_start w).add (hX.take 30)).add (hY.take 30))
  have mX := hX.1
  have nX : (0 : Int) ≤ min (xs.length : Int) 30 := by omega
  have kX : min (xs.length : Int) 30 ≤ (ca : Int) := by omega
  have HnX := Lib.hid (show (min (xs.length : Int) 30).toNat = (xs.take 30).length from by rw [List.length_take]; omega)
  have lX : (xs.take 30).length ≤ 30 := by rw [List.length_take]; omega
  have dX := digs_len_le (hX.take 30).2.1
  have oX := Lib.hid (hX.take 30).2.1
  have mY := hY.1
  have nY : (0 : Int) ≤ min (ys.length : Int) 30 := by omega
  have kY : min (ys.length : Int) 30 ≤ (cb : Int) := by omega
  have HnY := Lib.hid (show (min (ys.length : Int) 30).toNat = (ys.take 30).length from by rw [List.length_take]; omega)
  have lY : (ys.take 30).length ≤ 30 := by rw [List.length_take]; omega
  have dY := digs_len_le (hY.take 30).2.1
  have oY := Lib.hid (hY.take 30).2.1
  clear hX mX hY mY
  generalize xs.take 30 = X at *
  generalize ys.take 30 = Y at *
  by_cases h0 : val Y = 0
  · have H0 := Lib.hid h0
    clear h0
    go_enter Try.func5, Try.ntmps5
    go_wp2_with fail
    refine (examples_any w).mono ?_
    rintro e w1 ⟨rfl, hb1⟩
    have L1 := Lib.hid (L0.out.step hb1)
    clear hb1
    go_wp2_with fail
    refine Calls.mono (divmod_l_no (xs := X) (ys := Y) L1.out (by simp) (by simp) HnX.out HnY.out H0.out (by omega) (by omega)) ?_
    rintro e w2 ⟨rfl, h1⟩
    have L2 := Lib.hid h1
    clear h1
    go_wp2_with fail
    refine Calls.mono (bits_l (xs := Y) (x := val Y) L2.out (by simp) HnY.out rfl (by omega) (q := 0) (by rw [H0.out, blen_zero]; rfl)) ?_
    rintro e w3 ⟨rfl, h1⟩
    have L3 := Lib.hid h1
    clear h1
    go_wp2
    go_ret
    exact ⟨rfl, L3.out.1⟩
  · have H0 := Lib.hid h0
    have HB := Lib.hid (blen_ne (v := val Y) h0)
    clear h0
    go_enter Try.func5, Try.ntmps5
    go_wp2_with fail
    refine (examples_any w).mono ?_
    rintro e w1 ⟨rfl, hb1⟩
    have L1 := Lib.hid (L0.out.step hb1)
    clear hb1
    go_wp2_with fail
    refine Calls.mono (divmod_l (xs := X) (ys := Y) (x := val X) (y := val Y) L1.out (by simp) (by simp) HnX.out HnY.out rfl rfl (by omega) (by omega) H0.out) ?_
    rintro e w2 ⟨A2, c2, B2, d2, rfl, h1⟩
    have L2 := Lib.hid h1
    clear h1
    have lq2 := digs_len_mono _ _ (Nat.div_le_self (val X) (val Y))
    have lr2 := digs_len_mono _ _ (Nat.mod_le (val X) (val Y))
    have tb := HB.out
    go_wp2_with fail
    refine Calls.mono (bits_l (xs := Y) (x := val Y) L2.out (by simp) HnY.out rfl (by omega) (q := (blen (val Y) : Int)) rfl) ?_
    rintro e w3 ⟨rfl, h1⟩
    have L3 := Lib.hid h1
    clear h1
    go_wp2_with fail
    refine Calls.mono (mul_l (xs := digs ((val X) / (val Y))) (ys := Y) (x := (val X) / (val Y)) (y := val Y) L3.out (by simp) (by simp) rfl HnY.out (val_digs _) rfl (by omega) (by omega)) ?_
    rintro e w4 ⟨A4, c4, rfl, h1⟩
    have L4 := Lib.hid h1
    clear h1
    have len4 := digs_mul_len ((val X) / (val Y)) (val Y)
    go_wp2_with fail
    refine Calls.mono (add_l (xs := digs (((val X) / (val Y)) * (val Y))) (ys := digs ((val X) % (val Y))) (x := ((val X) / (val Y)) * (val Y)) (y := (val X) % (val Y)) L4.out (by simp) (by simp) rfl rfl (val_digs _) (val_digs _) (by omega) (by omega)) ?_
    rintro e w5 ⟨A5, c5, rfl, h1⟩
    have L5 := Lib.hid h1
    clear h1
    have len5 := digs_add_len (((val X) / (val Y)) * (val Y)) ((val X) % (val Y))
    go_wp2_with fail
    refine Calls.mono (trim_l (xs := X) (x := val X) L5.out (by simp) HnX.out rfl (by omega)) ?_
    rintro e w6 ⟨A6, c6, rfl, h1⟩
    have L6 := Lib.hid h1
    clear h1
    go_wp2_with fail
    refine Calls.mono (digits_l (xs := digs ((((val X) / (val Y)) * (val Y)) + ((val X) % (val Y)))) (ys := digs (val X)) L6.out (by simp) (by simp) rfl rfl (by first | omega | simp) (by rw [Nat.mul_comm, Nat.div_add_mod])) ?_
    rintro e w7 ⟨rfl, h1⟩
    have L7 := Lib.hid h1
    clear h1
    go_wp2_with fail
    refine Calls.mono (mul_l (xs := X) (ys := Y) (x := val X) (y := val Y) L7.out (by simp) (by simp) HnX.out HnY.out rfl rfl (by omega) (by omega)) ?_
    rintro e w8 ⟨A8, c8, rfl, h1⟩
    have L8 := Lib.hid h1
    clear h1
    have len8 := digs_mul_len (val X) (val Y)
    go_wp2_with fail
    refine Calls.mono (divmod_l (xs := digs ((val X) * (val Y))) (ys := Y) (x := (val X) * (val Y)) (y := val Y) L8.out (by simp) (by simp) rfl HnY.out (val_digs _) rfl (by omega) (by omega) H0.out) ?_
    rintro e w9 ⟨A9, c9, B9, d9, rfl, h1⟩
    rw [Nat.mul_div_cancel _ (Nat.pos_of_ne_zero H0.out)] at h1
    rw [Nat.mul_div_cancel _ (Nat.pos_of_ne_zero H0.out)]
    rw [Nat.mul_mod_left, digs_zero] at h1
    rw [Nat.mul_mod_left, digs_zero]
    have L9 := Lib.hid h1
    clear h1
    have lq9 := digs_len_mono _ _ (Nat.div_le_self ((val X) * (val Y)) (val Y))
    have lr9 := digs_len_mono _ _ (Nat.mod_le ((val X) * (val Y)) (val Y))
    go_wp2_with fail
    refine Calls.mono (trim_l (xs := X) (x := val X) L9.out (by simp) HnX.out rfl (by omega)) ?_
    rintro e w10 ⟨A10, c10, rfl, h1⟩
    have L10 := Lib.hid h1
    clear h1
    go_wp2_with fail
    refine Calls.mono (digits_l (xs := digs (val X)) (ys := digs (val X)) L10.out (by simp) (by simp) rfl rfl (by first | omega | simp) (rfl)) ?_
    rintro e w11 ⟨rfl, h1⟩
    have L11 := Lib.hid h1
    clear h1
    go_wp2_with fail
    refine Calls.mono (cmp_l (xs := digs ((val X) % (val Y))) (ys := Y) (x := (val X) % (val Y)) (y := val Y) L11.out (by simp) (by simp) rfl HnY.out (val_digs _) rfl (by omega) (by omega) (q := (-1)) (cmpi_lt (Nat.mod_lt _ (Nat.pos_of_ne_zero H0.out)))) ?_
    rintro e w12 ⟨rfl, h1⟩
    have L12 := Lib.hid h1
    clear h1
    go_wp2
    go_ret
    exact ⟨rfl, L12.out.1⟩
end Go.Proofs.Ytceningojnfgpaa
