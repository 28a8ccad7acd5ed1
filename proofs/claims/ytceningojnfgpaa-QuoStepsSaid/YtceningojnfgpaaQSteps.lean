/-
  astrolabelaw03.QuoSteps: divided by one number, and by another one, a number is what it is divided by their product; moved down it is divided by the power of 2.
-/
import Derived.Test.YtceningojnfgpaaExam
namespace Go.Proofs.Ytceningojnfgpaa
open Go.RowKit
set_option maxHeartbeats 8000000 in
set_option maxRecDepth 100000 in
theorem qsteps_any (A : Option Addr) (ca : Nat) (xs : List Nat) (B : Option Addr) (cb : Nat) (ys : List Nat) (C : Option Addr) (cc : Nat) (zs : List Nat) (n : Int) (w : World) (hX : Dg w A ca xs) (hY : Dg w B cb ys) (hZ : Dg w C cc zs) (hn : -9223372036854775808 ≤ n) (hn' : n ≤ 9223372036854775807) :
    Calls Try.prog 8 #[.slice A xs.length ca, .slice B ys.length cb, .slice C zs.length cc, .int .i64 n] w fun e w' => e = .returned (.bool true) ∧ Below w.heap.size w w' := by
  have L0 := Lib.hid ((((live_start w).add (hX.take 20)).add (hY.take 20)).add (hZ.take 20))
  have mX := hX.1
  have nX : (0 : Int) ≤ min (xs.length : Int) 20 := by omega
  have kX : min (xs.length : Int) 20 ≤ (ca : Int) := by omega
  have HnX := Lib.hid (show (min (xs.length : Int) 20).toNat = (xs.take 20).length from by rw [List.length_take]; omega)
  have lX : (xs.take 20).length ≤ 20 := by rw [List.length_take]; omega
  have dX := digs_len_le (hX.take 20).2.1
  have oX := Lib.hid (hX.take 20).2.1
  have mY := hY.1
  have nY : (0 : Int) ≤ min (ys.length : Int) 20 := by omega
  have kY : min (ys.length : Int) 20 ≤ (cb : Int) := by omega
  have HnY := Lib.hid (show (min (ys.length : Int) 20).toNat = (ys.take 20).length from by rw [List.length_take]; omega)
  have lY : (ys.take 20).length ≤ 20 := by rw [List.length_take]; omega
  have dY := digs_len_le (hY.take 20).2.1
  have oY := Lib.hid (hY.take 20).2.1
  have mZ := hZ.1
  have nZ : (0 : Int) ≤ min (zs.length : Int) 20 := by omega
  have kZ : min (zs.length : Int) 20 ≤ (cc : Int) := by omega
  have HnZ := Lib.hid (show (min (zs.length : Int) 20).toNat = (zs.take 20).length from by rw [List.length_take]; omega)
  have lZ : (zs.take 20).length ≤ 20 := by rw [List.length_take]; omega
  have dZ := digs_len_le (hZ.take 20).2.1
  have oZ := Lib.hid (hZ.take 20).2.1
  clear hX mX hY mY hZ mZ
  generalize xs.take 20 = X at *
  generalize ys.take 20 = Y at *
  generalize zs.take 20 = Z at *
  by_cases h0 : val Y = 0
  · have HY := Lib.hid h0
    clear h0
    go_enter Try.func8, Try.ntmps8
    go_wp2_with fail
    refine (examples_any w).mono ?_
    rintro e w1 ⟨rfl, hb1⟩
    have L1 := Lib.hid (L0.out.step hb1)
    clear hb1
    go_upto_if 45 with fail
    go_cut [3] (fun s1 wx => (∃ z : Int, 0 ≤ z ∧ z ≤ 9223372036854775807 ∧ s1 = .int .i64 z) ∧ w1 = wx)
    case first =>
      by_cases h : n < 0
      · have d0 : decide (n < 0) = true := by simp [h]
        go_wp2_with fail
        go_meet
        exact ⟨⟨_, by omega, by omega, rfl⟩, rfl⟩
      · have d0 : decide (n < 0) = false := by simp; omega
        go_wp2_with fail
        go_meet
        exact ⟨⟨_, by omega, by omega, rfl⟩, rfl⟩
    case rest =>
      obtain ⟨⟨z, hz0, hz1, rfl⟩, rfl⟩ := hcut
      have hN : ∃ N : Nat, z % 601 = (N : Int) ∧ N ≤ 600 := ⟨(z % 601).toNat, by omega, by omega⟩
      obtain ⟨N, eN, lN⟩ := hN
      go_wp2_with fail
      rw [eN]
      clear eN
      go_wp2_with fail
      have Lne := Lib.hid (L1.out.new1 1 1 rfl (by omega))
      go_wp2_with fail
      refine Calls.mono (shl_l (xs := [1]) (x := 1) Lne.out (by simp) rfl (by simp [val]) (by simp <;> omega) (i := (N : Int)) (k := N) rfl (by omega)) ?_
      rintro e w2 ⟨A2, c2, rfl, h1⟩
      rw [Nat.one_mul] at h1
      rw [Nat.one_mul]
      have L2 := Lib.hid h1
      clear h1
      have len2 := pow_digs_len N
      go_wp2_with fail
      refine Calls.mono (divmod_l (xs := X) (ys := digs (2 ^ N)) (x := val X) (y := 2 ^ N) L2.out (by simp) (by simp) HnX.out rfl rfl (val_digs _) (by omega) (by omega) (Nat.ne_of_gt (Nat.pow_pos (by omega)))) ?_
      rintro e w3 ⟨A3, c3, B3, d3, rfl, h1⟩
      have L3 := Lib.hid h1
      clear h1
      have lq3 := digs_len_mono _ _ (Nat.div_le_self (val X) (2 ^ N))
      have lr3 := digs_len_mono _ _ (Nat.mod_le (val X) (2 ^ N))
      go_wp2_with fail
      refine Calls.mono (shr_l (xs := X) (x := val X) L3.out (by simp) HnX.out rfl (by omega) (i := (N : Int)) (k := N) rfl (by omega)) ?_
      rintro e w4 ⟨A4, c4, rfl, h1⟩
      have L4 := Lib.hid h1
      clear h1
      have len4 := digs_shr_len (val X) N
      go_wp2_with fail
      refine Calls.mono (digits_l (xs := digs ((val X) / (2 ^ N))) (ys := digs ((val X) / 2 ^ N)) L4.out (by simp) (by simp) rfl rfl (by first | omega | simp) (rfl)) ?_
      rintro e w5 ⟨rfl, h1⟩
      have L5 := Lib.hid h1
      clear h1
      go_wp2_with fail
      refine Calls.mono (bits_l (xs := Y) (x := val Y) L5.out (by simp) HnY.out rfl (by omega) (q := 0) (by rw [HY.out, blen_zero]; rfl)) ?_
      rintro e w6 ⟨rfl, h1⟩
      have L6 := Lib.hid h1
      clear h1
      go_wp2
      go_ret
      exact ⟨rfl, L6.out.1⟩
  by_cases h1 : val Z = 0
  · have HY := Lib.hid h0
    have HBY := Lib.hid (blen_ne (v := val Y) h0)
    have HZ := Lib.hid h1
    clear h1
    clear h0
    go_enter Try.func8, Try.ntmps8
    go_wp2_with fail
    refine (examples_any w).mono ?_
    rintro e w1 ⟨rfl, hb1⟩
    have L1 := Lib.hid (L0.out.step hb1)
    clear hb1
    go_upto_if 45 with fail
    go_cut [3] (fun s1 wx => (∃ z : Int, 0 ≤ z ∧ z ≤ 9223372036854775807 ∧ s1 = .int .i64 z) ∧ w1 = wx)
    case first =>
      by_cases h : n < 0
      · have d0 : decide (n < 0) = true := by simp [h]
        go_wp2_with fail
        go_meet
        exact ⟨⟨_, by omega, by omega, rfl⟩, rfl⟩
      · have d0 : decide (n < 0) = false := by simp; omega
        go_wp2_with fail
        go_meet
        exact ⟨⟨_, by omega, by omega, rfl⟩, rfl⟩
    case rest =>
      obtain ⟨⟨z, hz0, hz1, rfl⟩, rfl⟩ := hcut
      have hN : ∃ N : Nat, z % 601 = (N : Int) ∧ N ≤ 600 := ⟨(z % 601).toNat, by omega, by omega⟩
      obtain ⟨N, eN, lN⟩ := hN
      go_wp2_with fail
      rw [eN]
      clear eN
      go_wp2_with fail
      have Lne := Lib.hid (L1.out.new1 1 1 rfl (by omega))
      go_wp2_with fail
      refine Calls.mono (shl_l (xs := [1]) (x := 1) Lne.out (by simp) rfl (by simp [val]) (by simp <;> omega) (i := (N : Int)) (k := N) rfl (by omega)) ?_
      rintro e w2 ⟨A2, c2, rfl, h1⟩
      rw [Nat.one_mul] at h1
      rw [Nat.one_mul]
      have L2 := Lib.hid h1
      clear h1
      have len2 := pow_digs_len N
      go_wp2_with fail
      refine Calls.mono (divmod_l (xs := X) (ys := digs (2 ^ N)) (x := val X) (y := 2 ^ N) L2.out (by simp) (by simp) HnX.out rfl rfl (val_digs _) (by omega) (by omega) (Nat.ne_of_gt (Nat.pow_pos (by omega)))) ?_
      rintro e w3 ⟨A3, c3, B3, d3, rfl, h1⟩
      have L3 := Lib.hid h1
      clear h1
      have lq3 := digs_len_mono _ _ (Nat.div_le_self (val X) (2 ^ N))
      have lr3 := digs_len_mono _ _ (Nat.mod_le (val X) (2 ^ N))
      go_wp2_with fail
      refine Calls.mono (shr_l (xs := X) (x := val X) L3.out (by simp) HnX.out rfl (by omega) (i := (N : Int)) (k := N) rfl (by omega)) ?_
      rintro e w4 ⟨A4, c4, rfl, h1⟩
      have L4 := Lib.hid h1
      clear h1
      have len4 := digs_shr_len (val X) N
      go_wp2_with fail
      refine Calls.mono (digits_l (xs := digs ((val X) / (2 ^ N))) (ys := digs ((val X) / 2 ^ N)) L4.out (by simp) (by simp) rfl rfl (by first | omega | simp) (rfl)) ?_
      rintro e w5 ⟨rfl, h1⟩
      have L5 := Lib.hid h1
      clear h1
      have tb := HBY.out
      go_wp2_with fail
      refine Calls.mono (bits_l (xs := Y) (x := val Y) L5.out (by simp) HnY.out rfl (by omega) (q := (blen (val Y) : Int)) rfl) ?_
      rintro e w6 ⟨rfl, h1⟩
      have L6 := Lib.hid h1
      clear h1
      go_wp2_with fail
      refine Calls.mono (bits_l (xs := Z) (x := val Z) L6.out (by simp) HnZ.out rfl (by omega) (q := 0) (by rw [HZ.out, blen_zero]; rfl)) ?_
      rintro e w7 ⟨rfl, h1⟩
      have L7 := Lib.hid h1
      clear h1
      go_wp2
      go_ret
      exact ⟨rfl, L7.out.1⟩
  · have HY := Lib.hid h0
    have HBY := Lib.hid (blen_ne (v := val Y) h0)
    have HZ := Lib.hid h1
    have HBZ := Lib.hid (blen_ne (v := val Z) h1)
    clear h1
    clear h0
    go_enter Try.func8, Try.ntmps8
    go_wp2_with fail
    refine (examples_any w).mono ?_
    rintro e w1 ⟨rfl, hb1⟩
    have L1 := Lib.hid (L0.out.step hb1)
    clear hb1
    go_upto_if 45 with fail
    go_cut [3] (fun s1 wx => (∃ z : Int, 0 ≤ z ∧ z ≤ 9223372036854775807 ∧ s1 = .int .i64 z) ∧ w1 = wx)
    case first =>
      by_cases h : n < 0
      · have d0 : decide (n < 0) = true := by simp [h]
        go_wp2_with fail
        go_meet
        exact ⟨⟨_, by omega, by omega, rfl⟩, rfl⟩
      · have d0 : decide (n < 0) = false := by simp; omega
        go_wp2_with fail
        go_meet
        exact ⟨⟨_, by omega, by omega, rfl⟩, rfl⟩
    case rest =>
      obtain ⟨⟨z, hz0, hz1, rfl⟩, rfl⟩ := hcut
      have hN : ∃ N : Nat, z % 601 = (N : Int) ∧ N ≤ 600 := ⟨(z % 601).toNat, by omega, by omega⟩
      obtain ⟨N, eN, lN⟩ := hN
      go_wp2_with fail
      rw [eN]
      clear eN
      go_wp2_with fail
      have Lne := Lib.hid (L1.out.new1 1 1 rfl (by omega))
      go_wp2_with fail
      refine Calls.mono (shl_l (xs := [1]) (x := 1) Lne.out (by simp) rfl (by simp [val]) (by simp <;> omega) (i := (N : Int)) (k := N) rfl (by omega)) ?_
      rintro e w2 ⟨A2, c2, rfl, h1⟩
      rw [Nat.one_mul] at h1
      rw [Nat.one_mul]
      have L2 := Lib.hid h1
      clear h1
      have len2 := pow_digs_len N
      go_wp2_with fail
      refine Calls.mono (divmod_l (xs := X) (ys := digs (2 ^ N)) (x := val X) (y := 2 ^ N) L2.out (by simp) (by simp) HnX.out rfl rfl (val_digs _) (by omega) (by omega) (Nat.ne_of_gt (Nat.pow_pos (by omega)))) ?_
      rintro e w3 ⟨A3, c3, B3, d3, rfl, h1⟩
      have L3 := Lib.hid h1
      clear h1
      have lq3 := digs_len_mono _ _ (Nat.div_le_self (val X) (2 ^ N))
      have lr3 := digs_len_mono _ _ (Nat.mod_le (val X) (2 ^ N))
      go_wp2_with fail
      refine Calls.mono (shr_l (xs := X) (x := val X) L3.out (by simp) HnX.out rfl (by omega) (i := (N : Int)) (k := N) rfl (by omega)) ?_
      rintro e w4 ⟨A4, c4, rfl, h1⟩
      have L4 := Lib.hid h1
      clear h1
      have len4 := digs_shr_len (val X) N
      go_wp2_with fail
      refine Calls.mono (digits_l (xs := digs ((val X) / (2 ^ N))) (ys := digs ((val X) / 2 ^ N)) L4.out (by simp) (by simp) rfl rfl (by first | omega | simp) (rfl)) ?_
      rintro e w5 ⟨rfl, h1⟩
      have L5 := Lib.hid h1
      clear h1
      have tb := HBY.out
      go_wp2_with fail
      refine Calls.mono (bits_l (xs := Y) (x := val Y) L5.out (by simp) HnY.out rfl (by omega) (q := (blen (val Y) : Int)) rfl) ?_
      rintro e w6 ⟨rfl, h1⟩
      have L6 := Lib.hid h1
      clear h1
      have tc := HBZ.out
      go_wp2_with fail
      refine Calls.mono (bits_l (xs := Z) (x := val Z) L6.out (by simp) HnZ.out rfl (by omega) (q := (blen (val Z) : Int)) rfl) ?_
      rintro e w7 ⟨rfl, h1⟩
      have L7 := Lib.hid h1
      clear h1
      go_wp2_with fail
      refine Calls.mono (divmod_l (xs := X) (ys := Y) (x := val X) (y := val Y) L7.out (by simp) (by simp) HnX.out HnY.out rfl rfl (by omega) (by omega) HY.out) ?_
      rintro e w8 ⟨A8, c8, B8, d8, rfl, h1⟩
      have L8 := Lib.hid h1
      clear h1
      have lq8 := digs_len_mono _ _ (Nat.div_le_self (val X) (val Y))
      have lr8 := digs_len_mono _ _ (Nat.mod_le (val X) (val Y))
      go_wp2_with fail
      refine Calls.mono (divmod_l (xs := digs ((val X) / (val Y))) (ys := Z) (x := (val X) / (val Y)) (y := val Z) L8.out (by simp) (by simp) rfl HnZ.out (val_digs _) rfl (by omega) (by omega) HZ.out) ?_
      rintro e w9 ⟨A9, c9, B9, d9, rfl, h1⟩
      have L9 := Lib.hid h1
      clear h1
      have lq9 := digs_len_mono _ _ (Nat.div_le_self ((val X) / (val Y)) (val Z))
      have lr9 := digs_len_mono _ _ (Nat.mod_le ((val X) / (val Y)) (val Z))
      go_wp2_with fail
      refine Calls.mono (mul_l (xs := Y) (ys := Z) (x := val Y) (y := val Z) L9.out (by simp) (by simp) HnY.out HnZ.out rfl rfl (by omega) (by omega)) ?_
      rintro e w10 ⟨A10, c10, rfl, h1⟩
      have L10 := Lib.hid h1
      clear h1
      have len10 := digs_mul_len (val Y) (val Z)
      go_wp2_with fail
      refine Calls.mono (divmod_l (xs := X) (ys := digs ((val Y) * (val Z))) (x := val X) (y := (val Y) * (val Z)) L10.out (by simp) (by simp) HnX.out rfl rfl (val_digs _) (by omega) (by omega) (Nat.mul_ne_zero HY.out HZ.out)) ?_
      rintro e w11 ⟨A11, c11, B11, d11, rfl, h1⟩
      rw [← Nat.div_div_eq_div_mul] at h1
      rw [← Nat.div_div_eq_div_mul]
      have L11 := Lib.hid h1
      clear h1
      have lq11 := digs_len_mono _ _ (Nat.div_le_self (val X) ((val Y) * (val Z)))
      have lr11 := digs_len_mono _ _ (Nat.mod_le (val X) ((val Y) * (val Z)))
      go_wp2_with fail
      refine Calls.mono (digits_l (xs := digs (((val X) / (val Y)) / (val Z))) (ys := digs (val X / val Y / val Z)) L11.out (by simp) (by simp) rfl rfl (by first | omega | simp) (rfl)) ?_
      rintro e w12 ⟨rfl, h1⟩
      have L12 := Lib.hid h1
      clear h1
      go_wp2
      go_ret
      exact ⟨rfl, L12.out.1⟩
end Go.Proofs.Ytceningojnfgpaa
