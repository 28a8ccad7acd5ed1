/-
  astrolabelaw01.NatDoubles: a number and itself are it moved up by one; so often a number as a small one says is their product, and its rest below 2^k is what is left when it is moved down and up again.
-/
import Derived.Test.YtjnbdbgggcfbjaaThere
namespace Go.Proofs.Ytjnbdbgggcfbjaa
open Go.RowKit
theorem rest_lt (x k : Nat) : x - x / 2 ^ k * 2 ^ k < 2 ^ k := by
  have h1 := Nat.div_add_mod x (2 ^ k)
  have h2 := Nat.mod_lt x (Nat.pow_pos (by omega) : 0 < 2 ^ k)
  rw [Nat.mul_comm] at h1
  omega
set_option maxHeartbeats 8000000 in
set_option maxRecDepth 100000 in
theorem doubles_any (A : Option Addr) (ca : Nat) (xs : List Nat) (n : Int) (w : World) (hX : Dg w A ca xs) (hn : -9223372036854775808 ≤ n) (hn' : n ≤ 9223372036854775807) :
    Calls Try.prog 9 #[.slice A xs.length ca, .int .i64 n] w fun e w' => e = .returned (.bool true) ∧ Below w.heap.size w w' := by
  have L0 := Lib.hid ((live_start w).add (hX.take 40))
  have mX := hX.1
  have nX : (0 : Int) ≤ min (xs.length : Int) 40 := by omega
  have kX : min (xs.length : Int) 40 ≤ (ca : Int) := by omega
  have HnX := Lib.hid (show (min (xs.length : Int) 40).toNat = (xs.take 40).length from by rw [List.length_take]; omega)
  have lX : (xs.take 40).length ≤ 40 := by rw [List.length_take]; omega
  have dX := digs_len_le (hX.take 40).2.1
  have oX := Lib.hid (hX.take 40).2.1
  clear hX mX
  generalize xs.take 40 = X at *
  go_enter Try.func9, Try.ntmps9
  go_wp2_with fail
  refine (examples_any w).mono ?_
  rintro e w1 ⟨rfl, hb1⟩
  have L1 := Lib.hid (L0.out.step hb1)
  clear hb1
  go_upto_if 23 with fail
  go_cut [1] (fun s1 wx => (∃ z : Int, 0 ≤ z ∧ z ≤ 9223372036854775807 ∧ s1 = .int .i64 z) ∧ w1 = wx)
  case first =>
    by_cases h : n < 0
    · have d0 : decide (n < 0) = true := by simp [h]
      go_wp2_with fail
      go_meet
      exact ⟨⟨_, by omega, by omega, rfl⟩, rfl⟩
    · have d0 : decide (n < 0) = false := by simp; omega
      go_wp2_with fail
      go_meet
      exact ⟨⟨_, by omega, by omega, rfl⟩, rfl⟩
  case rest =>
    obtain ⟨⟨z, hz0, hz1, rfl⟩, rfl⟩ := hcut
    have hN : ∃ N : Nat, z % 601 = (N : Int) ∧ N ≤ 600 := ⟨(z % 601).toNat, by omega, by omega⟩
    obtain ⟨N, eN, lN⟩ := hN
    go_wp2_with fail
    rw [eN]
    clear eN
    go_wp2_with fail
    refine Calls.mono (shl_l (xs := X) (x := val X) L1.out (by simp) HnX.out rfl (by omega) (i := 1) (k := 1) rfl (by omega)) ?_
    rintro e w2 ⟨A2, c2, rfl, h1⟩
    rw [Nat.pow_one] at h1
    rw [Nat.pow_one]
    have L2 := Lib.hid h1
    clear h1
    have len2 := digs_mul_len (val X) 2
    have d2 := digs_small (n := 2) (by omega)
    go_wp2_with fail
    refine Calls.mono (add_l (xs := X) (ys := X) (x := val X) (y := val X) L2.out (by simp) (by simp) HnX.out HnX.out rfl rfl (by omega) (by omega)) ?_
    rintro e w3 ⟨A3, c3, rfl, h1⟩
    have L3 := Lib.hid h1
    clear h1
    have len3 := digs_add_len (val X) (val X)
    go_wp2_with fail
    refine Calls.mono (digits_l (xs := digs ((val X) + (val X))) (ys := digs (val X * 2)) L3.out (by simp) (by simp) rfl rfl (by omega) (by rw [Nat.mul_two])) ?_
    rintro e w4 ⟨rfl, h1⟩
    have L4 := Lib.hid h1
    clear h1
    go_wp2_with fail
    refine Calls.mono (shr_l (xs := X) (x := val X) L4.out (by simp) HnX.out rfl (by omega) (i := (N : Int)) (k := N) rfl (by omega)) ?_
    rintro e w5 ⟨A5, c5, rfl, h1⟩
    have L5 := Lib.hid h1
    clear h1
    have len5 := digs_shr_len (val X) N
    go_wp2_with fail
    refine Calls.mono (shl_l (xs := digs ((val X) / 2 ^ N)) (x := (val X) / 2 ^ N) L5.out (by simp) rfl (val_digs _) (by omega) (i := (N : Int)) (k := N) rfl (by omega)) ?_
    rintro e w6 ⟨A6, c6, rfl, h1⟩
    have L6 := Lib.hid h1
    clear h1
    have len6 := digs_shl_len ((val X) / 2 ^ N) N
    go_wp2_with fail
    refine Calls.mono (sub_l (xs := X) (ys := digs (((val X) / 2 ^ N) * 2 ^ N)) (x := val X) (y := ((val X) / 2 ^ N) * 2 ^ N) L6.out (by simp) (by simp) HnX.out rfl rfl (val_digs _) (by omega) (by omega) (Nat.div_mul_le_self _ _)) ?_
    rintro e w7 ⟨A7, c7, rfl, h1⟩
    have L7 := Lib.hid h1
    clear h1
    have len7 := digs_sub_len (val X) (((val X) / 2 ^ N) * 2 ^ N)
    go_wp2_with fail
    refine Calls.mono (from_l   L7.out     (i := 3) (k := 3) rfl (by omega)) ?_
    rintro e w8 ⟨A8, c8, rfl, h1⟩
    have L8 := Lib.hid h1
    clear h1
    have d3 := digs_small (n := 3) (by omega)
    go_wp2_with fail
    refine Calls.mono (mul_l (xs := X) (ys := digs (3)) (x := val X) (y := 3) L8.out (by simp) (by simp) HnX.out rfl rfl (val_digs _) (by omega) (by omega)) ?_
    rintro e w9 ⟨A9, c9, rfl, h1⟩
    have L9 := Lib.hid h1
    clear h1
    have len9 := digs_mul_len (val X) (3)
    go_wp2_with fail
    refine Calls.mono (add_l (xs := digs (val X * 2)) (ys := X) (x := val X * 2) (y := val X) L9.out (by simp) (by simp) rfl HnX.out (val_digs _) rfl (by omega) (by omega)) ?_
    rintro e w10 ⟨A10, c10, rfl, h1⟩
    have L10 := Lib.hid h1
    clear h1
    have len10 := digs_add_len (val X * 2) (val X)
    go_wp2_with fail
    refine Calls.mono (digits_l (xs := digs ((val X) * 3)) (ys := digs ((val X * 2) + (val X))) L10.out (by simp) (by simp) rfl rfl (by omega) (by rw [Nat.mul_succ])) ?_
    rintro e w11 ⟨rfl, h1⟩
    have L11 := Lib.hid h1
    clear h1
    have db : decide (blen (val X - val X / 2 ^ N * 2 ^ N) ≤ N) = true := by rw [decide_eq_true_iff]; exact blen_le_of (rest_lt _ _)
    go_wp2_with fail
    refine Calls.mono (bits_l (xs := digs ((val X) - (((val X) / 2 ^ N) * 2 ^ N))) (x := (val X) - (((val X) / 2 ^ N) * 2 ^ N)) L11.out (by simp) rfl (val_digs _) (by omega) (q := (blen (val X - val X / 2 ^ N * 2 ^ N) : Int)) rfl) ?_
    rintro e w12 ⟨rfl, h1⟩
    have L12 := Lib.hid h1
    clear h1
    go_wp2
    go_ret
    exact ⟨rfl, L12.out.1⟩
end Go.Proofs.Ytjnbdbgggcfbjaa
