/-
  astrolabelaw01.NatThere: moved up, and down again, a number is as it was; moved up it is so often doubled, has so many bits more, and its bits stand so much higher.
-/
import Derived.Test.YtjnbdbgggcfbjaaExam
import Derived.Test.YtjnbdbgggcfbjaaLive2
namespace Go.Proofs.Ytjnbdbgggcfbjaa
open Go.RowKit
theorem blen_le_of {x k : Nat} (h : x < 2 ^ k) : blen x ≤ k := by
  rcases Nat.eq_zero_or_pos x with h0 | h0
  · subst h0; rw [blen_zero]; omega
  · rcases Nat.lt_or_ge k (blen x) with h1 | h1
    · have h2 := blen_shift (blen x - 1)
      have h3 : 2 ^ (blen x - 1) ≤ x := by
        rcases Nat.lt_or_ge x (2 ^ (blen x - 1)) with h4 | h4
        · exfalso
          have key : ∀ (m y : Nat), y ≠ 0 → y < 2 ^ m → blen y ≤ m := by
            intro m
            induction m with
            | zero => intro y hy hlt; simp at hlt; omega
            | succ m ih =>
              intro y hy hlt
              rw [blen_pos hy]
              by_cases hz : y / 2 = 0
              · rw [hz, blen_zero]; omega
              · have := ih (y / 2) hz (by rw [Nat.pow_succ] at hlt; omega); omega
          have := key _ _ (by omega : x ≠ 0) h4
          omega
        · exact h4
      have h5 := Nat.pow_le_pow_right (n := 2) (by omega) (show k ≤ blen x - 1 by omega)
      omega
    · exact h1
theorem blen_le_len {xs : List Nat} (h : ok32 xs) : blen (val xs) ≤ 32 * xs.length := by
  apply blen_le_of
  have e : (2 : Nat) ^ (32 * xs.length) = 4294967296 ^ xs.length := by rw [Nat.pow_mul]
  rw [e]
  exact val_lt h
set_option maxHeartbeats 8000000 in
set_option maxRecDepth 100000 in
theorem there_any (A : Option Addr) (ca : Nat) (xs : List Nat) (n i : Int) (w : World) (hX : Dg w A ca xs) (hn : -9223372036854775808 ≤ n) (hn' : n ≤ 9223372036854775807) (hi : -9223372036854775808 ≤ i) (hi' : i ≤ 9223372036854775807) :
    Calls Try.prog 7 #[.slice A xs.length ca, .int .i64 n, .int .i64 i] w fun e w' => e = .returned (.bool true) ∧ Below w.heap.size w w' := by
  have L0 := Lib.hid ((live_start w).add (hX.take 40))
  have mX := hX.1
  have nX : (0 : Int) ≤ min (xs.length : Int) 40 := by omega
  have kX : min (xs.length : Int) 40 ≤ (ca : Int) := by omega
  have HnX := Lib.hid (show (min (xs.length : Int) 40).toNat = (xs.take 40).length from by rw [List.length_take]; omega)
  have lX : (xs.take 40).length ≤ 40 := by rw [List.length_take]; omega
  have dX := digs_len_le (hX.take 40).2.1
  have oX := Lib.hid (hX.take 40).2.1
  clear hX mX
  generalize xs.take 40 = X at *
  go_enter Try.func7, Try.ntmps7
  go_wp2_with fail
  refine (examples_any w).mono ?_
  rintro e w1 ⟨rfl, hb1⟩
  have L1 := Lib.hid (L0.out.step hb1)
  clear hb1
  go_upto_if 24 with fail
  go_cut [1] (fun s1 wx => (∃ z : Int, 0 ≤ z ∧ z ≤ 9223372036854775807 ∧ s1 = .int .i64 z) ∧ w1 = wx)
  case first =>
    by_cases h : n < 0
    · have d0 : decide (n < 0) = true := by simp [h]
      go_wp2_with fail
      go_meet
      exact ⟨⟨_, by omega, by omega, rfl⟩, rfl⟩
    · have d0 : decide (n < 0) = false := by simp; omega
      go_wp2_with fail
      go_meet
      exact ⟨⟨_, by omega, by omega, rfl⟩, rfl⟩
  case rest =>
    obtain ⟨⟨z, hz0, hz1, rfl⟩, rfl⟩ := hcut
    go_upto_if 29 with fail
    go_cut [2] (fun s1 wx => (∃ z : Int, 0 ≤ z ∧ z ≤ 9223372036854775807 ∧ s1 = .int .i64 z) ∧ w1 = wx)
    case first =>
      by_cases h : i < 0
      · have d0 : decide (i < 0) = true := by simp [h]
        go_wp2_with fail
        go_meet
        exact ⟨⟨_, by omega, by omega, rfl⟩, rfl⟩
      · have d0 : decide (i < 0) = false := by simp; omega
        go_wp2_with fail
        go_meet
        exact ⟨⟨_, by omega, by omega, rfl⟩, rfl⟩
    case rest =>
      obtain ⟨⟨y, hy0, hy1, rfl⟩, rfl⟩ := hcut
      go_wp2_with fail
      have hN : ∃ N : Nat, z % 3001 = (N : Int) ∧ N ≤ 3000 := ⟨(z % 3001).toNat, by omega, by omega⟩
      have hI : ∃ I : Nat, y % 3001 = (I : Int) ∧ I ≤ 3000 := ⟨(y % 3001).toNat, by omega, by omega⟩
      obtain ⟨N, eN, lN⟩ := hN
      obtain ⟨I, eI, lI⟩ := hI
      rw [eN]
      rw [eI]
      clear eN eI
      go_wp2_with fail
      refine Calls.mono (shl_l (xs := X) (x := val X) L1.out (by simp) HnX.out rfl (by omega) (i := (N : Int)) (k := N) rfl (by omega)) ?_
      rintro e w2 ⟨A2, c2, rfl, h1⟩
      have L2 := Lib.hid h1
      clear h1
      have len2 := digs_shl_len (val X) N
      go_wp2_with fail
      have Lne := Lib.hid (L2.out.new1 1 1 rfl (by omega))
      go_wp2_with fail
      refine Calls.mono (shl_l (xs := [1]) (x := 1) Lne.out (by simp) rfl (by simp [val]) (by simp <;> omega) (i := (N : Int)) (k := N) rfl (by omega)) ?_
      rintro e w3 ⟨A3, c3, rfl, h1⟩
      rw [Nat.one_mul] at h1
      rw [Nat.one_mul]
      have L3 := Lib.hid h1
      clear h1
      have len3 := pow_digs_len N
      go_wp2_with fail
      refine Calls.mono (shr_l (xs := digs ((val X) * 2 ^ N)) (x := (val X) * 2 ^ N) L3.out (by simp) rfl (val_digs _) (by omega) (i := (N : Int)) (k := N) rfl (by omega)) ?_
      rintro e w4 ⟨A4, c4, rfl, h1⟩
      have L4 := Lib.hid h1
      clear h1
      have len4 := digs_shr_len ((val X) * 2 ^ N) N
      go_wp2_with fail
      refine Calls.mono (trim_l (xs := X) (x := val X) L4.out (by simp) HnX.out rfl (by omega)) ?_
      rintro e w5 ⟨A5, c5, rfl, h1⟩
      have L5 := Lib.hid h1
      clear h1
      go_wp2_with fail
      refine Calls.mono (digits_l (xs := digs (((val X) * 2 ^ N) / 2 ^ N)) (ys := digs (val X)) L5.out (by simp) (by simp) rfl rfl (by omega) (by rw [Nat.mul_div_cancel _ (Nat.pow_pos (by omega))])) ?_
      rintro e w6 ⟨rfl, h1⟩
      have L6 := Lib.hid h1
      clear h1
      go_wp2_with fail
      refine Calls.mono (mul_l (xs := X) (ys := digs (2 ^ N)) (x := val X) (y := 2 ^ N) L6.out (by simp) (by simp) HnX.out rfl rfl (val_digs _) (by omega) (by omega)) ?_
      rintro e w7 ⟨A7, c7, rfl, h1⟩
      have L7 := Lib.hid h1
      clear h1
      have len7 := digs_mul_len (val X) (2 ^ N)
      go_wp2_with fail
      refine Calls.mono (digits_l (xs := digs ((val X) * 2 ^ N)) (ys := digs ((val X) * (2 ^ N))) L7.out (by simp) (by simp) rfl rfl (by omega) (rfl)) ?_
      rintro e w8 ⟨rfl, h1⟩
      have L8 := Lib.hid h1
      clear h1
      by_cases h0 : val X = 0
      · have H0 := Lib.hid h0
        clear h0
        go_wp2_with fail
        refine Calls.mono (bits_l (xs := digs ((val X) * 2 ^ N)) (x := (val X) * 2 ^ N) L8.out (by simp) rfl (val_digs _) (by omega) (q := 0) (by rw [H0.out, Nat.zero_mul, blen_zero]; rfl)) ?_
        rintro e w9 ⟨rfl, h1⟩
        have L9 := Lib.hid h1
        clear h1
        go_wp2_with fail
        refine Calls.mono (bits_l (xs := X) (x := val X) L9.out (by simp) HnX.out rfl (by omega) (q := 0) (by rw [H0.out, blen_zero]; rfl)) ?_
        rintro e w10 ⟨rfl, h1⟩
        have L10 := Lib.hid h1
        clear h1
        go_wp2_with fail
        refine Calls.mono (bits_l (xs := X) (x := val X) L10.out (by simp) HnX.out rfl (by omega) (q := 0) (by rw [H0.out, blen_zero]; rfl)) ?_
        rintro e w11 ⟨rfl, h1⟩
        have L11 := Lib.hid h1
        clear h1
        go_wp2_with fail
        refine Calls.mono (bits_l (xs := digs ((val X) * 2 ^ N)) (x := (val X) * 2 ^ N) L11.out (by simp) rfl (val_digs _) (by omega) (q := 0) (by rw [H0.out, Nat.zero_mul, blen_zero]; rfl)) ?_
        rintro e w12 ⟨rfl, h1⟩
        have L12 := Lib.hid h1
        clear h1
        go_wp2_with fail
        refine Calls.mono (bit_l (xs := digs ((val X) * 2 ^ N)) (x := (val X) * 2 ^ N) L12.out (by simp) rfl (val_digs _) (by omega) (i := ((I : Int) + (N : Int))) (q := (bitAt (val X) (I : Int))) (by omega) (by omega) (bit_shl _ _ _)) ?_
        rintro e w13 ⟨rfl, h1⟩
        have L13 := Lib.hid h1
        clear h1
        go_wp2_with fail
        refine Calls.mono (bit_l (xs := X) (x := val X) L13.out (by simp) HnX.out rfl (by omega) (i := (I : Int)) (q := (bitAt (val X) (I : Int))) (by omega) (by omega) rfl) ?_
        rintro e w14 ⟨rfl, h1⟩
        have L14 := Lib.hid h1
        clear h1
        go_wp2_with fail
        refine Calls.mono (bits_l (xs := X) (x := val X) L14.out (by simp) HnX.out rfl (by omega) (q := 0) (by rw [H0.out, blen_zero]; rfl)) ?_
        rintro e w15 ⟨rfl, h1⟩
        have L15 := Lib.hid h1
        clear h1
        go_wp2_with fail
        refine Calls.mono (bit_l (xs := X) (x := val X) L15.out (by simp) HnX.out rfl (by omega) (i := (I : Int)) (q := false) (by omega) (by omega) (by rw [H0.out]; unfold bitAt; simp)) ?_
        rintro e w16 ⟨rfl, h1⟩
        have L16 := Lib.hid h1
        clear h1
        go_wp2
        go_ret
        exact ⟨rfl, L16.out.1⟩
      · have H0 := Lib.hid (blen_shl N h0)
        have HB := Lib.hid (blen_ne (v := val X) h0)
        have lb : blen (val X) ≤ 32 * X.length := blen_le_len oX.out
        clear h0
        go_wp2_with fail
        refine Calls.mono (bits_l (xs := digs ((val X) * 2 ^ N)) (x := (val X) * 2 ^ N) L8.out (by simp) rfl (val_digs _) (by omega) (q := ((blen (val X) : Int) + (N : Int))) (by rw [H0.out]; omega)) ?_
        rintro e w9 ⟨rfl, h1⟩
        have L9 := Lib.hid h1
        clear h1
        go_wp2_with fail
        refine Calls.mono (bits_l (xs := X) (x := val X) L9.out (by simp) HnX.out rfl (by omega) (q := (blen (val X) : Int)) rfl) ?_
        rintro e w10 ⟨rfl, h1⟩
        have L10 := Lib.hid h1
        clear h1
        have tb := HB.out
        go_wp2_with fail
        refine Calls.mono (bits_l (xs := X) (x := val X) L10.out (by simp) HnX.out rfl (by omega) (q := (blen (val X) : Int)) rfl) ?_
        rintro e w11 ⟨rfl, h1⟩
        have L11 := Lib.hid h1
        clear h1
        go_wp2_with fail
        refine Calls.mono (bit_l (xs := digs ((val X) * 2 ^ N)) (x := (val X) * 2 ^ N) L11.out (by simp) rfl (val_digs _) (by omega) (i := ((I : Int) + (N : Int))) (q := (bitAt (val X) (I : Int))) (by omega) (by omega) (bit_shl _ _ _)) ?_
        rintro e w12 ⟨rfl, h1⟩
        have L12 := Lib.hid h1
        clear h1
        go_wp2_with fail
        refine Calls.mono (bit_l (xs := X) (x := val X) L12.out (by simp) HnX.out rfl (by omega) (i := (I : Int)) (q := (bitAt (val X) (I : Int))) (by omega) (by omega) rfl) ?_
        rintro e w13 ⟨rfl, h1⟩
        have L13 := Lib.hid h1
        clear h1
        go_wp2_with fail
        refine Calls.mono (bits_l (xs := X) (x := val X) L13.out (by simp) HnX.out rfl (by omega) (q := (blen (val X) : Int)) rfl) ?_
        rintro e w14 ⟨rfl, h1⟩
        have L14 := Lib.hid h1
        clear h1
        go_wp2_with fail
        refine Calls.mono (bit_l (xs := X) (x := val X) L14.out (by simp) HnX.out rfl (by omega) (i := ((blen (val X) : Int) + (I : Int))) (q := false) (by omega) (by omega) (bit_past _ _)) ?_
        rintro e w15 ⟨rfl, h1⟩
        have L15 := Lib.hid h1
        clear h1
        go_wp2
        go_ret
        exact ⟨rfl, L15.out.1⟩
end Go.Proofs.Ytjnbdbgggcfbjaa
