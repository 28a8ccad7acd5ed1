/-
  astrolabelaw01.NatOrder: of two numbers the one is not below the other one just if it may be taken away from it; more bits are more; of three that rise the first is not above the last.
-/
import Derived.Test.YtjnbdbgggcfbjaaExam
namespace Go.Proofs.Ytjnbdbgggcfbjaa
open Go.RowKit
theorem blen_mono {a : Nat} : ∀ {b : Nat}, a ≤ b → blen a ≤ blen b := by
  induction a using Nat.strongRecOn with
  | ind a ih =>
    intro b h
    by_cases h0 : a = 0
    · subst h0; rw [blen_zero]; omega
    · rw [blen_pos h0, blen_pos (by omega : b ≠ 0)]
      have := ih (a / 2) (by omega) (b := b / 2) (by omega)
      omega
theorem cmpi_le {a b : Nat} (h : a ≤ b) : cmpi a b ≤ 0 := by unfold cmpi; rcases Nat.lt_or_ge a b with h1 | h1; (rw [if_pos h1]; omega); (rw [if_neg (by omega), if_pos (by omega)]; omega)
theorem cmpi_not {a b : Nat} (h : ¬ 0 < cmpi a b) : a ≤ b := by
  rcases Nat.lt_or_ge b a with h1 | h1
  · rw [cmpi_gt h1] at h; omega
  · exact h1
set_option maxHeartbeats 4000000 in
set_option maxRecDepth 100000 in
theorem order_any (A : Option Addr) (ca : Nat) (xs : List Nat) (B : Option Addr) (cb : Nat) (ys : List Nat) (C : Option Addr) (cc : Nat) (zs : List Nat)  (w : World) (hX : Dg w A ca xs) (hY : Dg w B cb ys) (hZ : Dg w C cc zs)  :
    Calls Try.prog 8 #[.slice A xs.length ca, .slice B ys.length cb, .slice C zs.length cc] w fun e w' => e = .returned (.bool true) ∧ Below w.heap.size w w' := by
  have L0 := Lib.hid ((((live_start w).add (hX.take 60)).add (hY.take 60)).add (hZ.take 60))
  have mX := hX.1
  have nX : (0 : Int) ≤ min (xs.length : Int) 60 := by omega
  have kX : min (xs.length : Int) 60 ≤ (ca : Int) := by omega
  have HnX := Lib.hid (show (min (xs.length : Int) 60).toNat = (xs.take 60).length from by rw [List.length_take]; omega)
  have lX : (xs.take 60).length ≤ 60 := by rw [List.length_take]; omega
  have dX := digs_len_le (hX.take 60).2.1
  have oX := Lib.hid (hX.take 60).2.1
  have mY := hY.1
  have nY : (0 : Int) ≤ min (ys.length : Int) 60 := by omega
  have kY : min (ys.length : Int) 60 ≤ (cb : Int) := by omega
  have HnY := Lib.hid (show (min (ys.length : Int) 60).toNat = (ys.take 60).length from by rw [List.length_take]; omega)
  have lY : (ys.take 60).length ≤ 60 := by rw [List.length_take]; omega
  have dY := digs_len_le (hY.take 60).2.1
  have oY := Lib.hid (hY.take 60).2.1
  have mZ := hZ.1
  have nZ : (0 : Int) ≤ min (zs.length : Int) 60 := by omega
  have kZ : min (zs.length : Int) 60 ≤ (cc : Int) := by omega
  have HnZ := Lib.hid (show (min (zs.length : Int) 60).toNat = (zs.take 60).length from by rw [List.length_take]; omega)
  have lZ : (zs.take 60).length ≤ 60 := by rw [List.length_take]; omega
  have dZ := digs_len_le (hZ.take 60).2.1
  have oZ := Lib.hid (hZ.take 60).2.1
  clear hX mX hY mY hZ mZ
  generalize xs.take 60 = X at *
  generalize ys.take 60 = Y at *
  generalize zs.take 60 = Z at *
  obtain ⟨qy, hqy⟩ : ∃ q, cmpi (val Y) (val Z) = q := ⟨_, rfl⟩
  obtain ⟨qz, hqz⟩ : ∃ q, cmpi (val X) (val Z) = q := ⟨_, rfl⟩
  have HQY := Lib.hid hqy
  have HQZ := Lib.hid hqz
  rcases Nat.lt_trichotomy (val X) (val Y) with h | h | h
  · have HAB := Lib.hid h
    have HBL := Lib.hid (blen_mono (show val X ≤ val Y by omega))
    by_cases hy : 0 < qy
    · have dy : decide (0 < qy) = true := by simp; omega
      have db : decide (blen (val X) ≤ blen (val Y)) = true := by simp; exact HBL.out
      clear h hqy hqz hy
      go_enter Try.func8, Try.ntmps8
      go_wp2_with fail
      refine (examples_any w).mono ?_
      rintro e w1 ⟨rfl, hb1⟩
      have L1 := Lib.hid (L0.out.step hb1)
      clear hb1
      go_wp2_with fail
      refine Calls.mono (cmp_l (xs := X) (ys := Y) (x := val X) (y := val Y) L1.out (by simp) (by simp) HnX.out HnY.out rfl rfl (by omega) (by omega) (q := (-1)) (cmpi_lt (by have := HAB.out; omega))) ?_
      rintro e w2 ⟨rfl, h1⟩
      have L2 := Lib.hid h1
      clear h1
      go_wp2_with fail
      refine Calls.mono (cmp_l (xs := Y) (ys := Z) (x := val Y) (y := val Z) L2.out (by simp) (by simp) HnY.out HnZ.out rfl rfl (by omega) (by omega) (q := qy) HQY.out) ?_
      rintro e w3 ⟨rfl, h1⟩
      have L3 := Lib.hid h1
      clear h1
      go_wp2_with fail
      refine Calls.mono (cmp_l (xs := X) (ys := Z) (x := val X) (y := val Z) L3.out (by simp) (by simp) HnX.out HnZ.out rfl rfl (by omega) (by omega) (q := qz) HQZ.out) ?_
      rintro e w4 ⟨rfl, h1⟩
      have L4 := Lib.hid h1
      clear h1
      go_wp2_with fail
      refine Calls.mono (sub_l_no (xs := X) (ys := Y) (x := val X) (y := val Y) L4.out (by simp) (by simp) HnX.out HnY.out rfl rfl (by omega) (by omega) (by have := HAB.out; omega)) ?_
      rintro e w5 ⟨rfl, h1⟩
      have L5 := Lib.hid h1
      clear h1
      go_wp2_with fail
      refine Calls.mono (cmp_l (xs := Y) (ys := X) (x := val Y) (y := val X) L5.out (by simp) (by simp) HnY.out HnX.out rfl rfl (by omega) (by omega) (q := (1)) (cmpi_gt (by have := HAB.out; omega))) ?_
      rintro e w6 ⟨rfl, h1⟩
      have L6 := Lib.hid h1
      clear h1
      go_wp2_with fail
      refine Calls.mono (bits_l (xs := X) (x := val X) L6.out (by simp) HnX.out rfl (by omega) (q := (blen (val X) : Int)) rfl) ?_
      rintro e w7 ⟨rfl, h1⟩
      have L7 := Lib.hid h1
      clear h1
      go_wp2_with fail
      refine Calls.mono (bits_l (xs := Y) (x := val Y) L7.out (by simp) HnY.out rfl (by omega) (q := (blen (val Y) : Int)) rfl) ?_
      rintro e w8 ⟨rfl, h1⟩
      have L8 := Lib.hid h1
      clear h1
      go_wp2_with fail
      refine Calls.mono (cmp_l (xs := X) (ys := X) (x := val X) (y := val X) L8.out (by simp) (by simp) HnX.out HnX.out rfl rfl (by omega) (by omega) (q := 0) (cmpi_eq rfl)) ?_
      rintro e w9 ⟨rfl, h1⟩
      have L9 := Lib.hid h1
      clear h1
      go_wp2
      go_ret
      exact ⟨rfl, L9.out.1⟩
    · have dy : decide (0 < qy) = false := by simp; omega
      have dz : decide (qz ≤ 0) = true := by rw [decide_eq_true_iff, ← hqz]; exact cmpi_le (by have := cmpi_not (show ¬ 0 < cmpi (val Y) (val Z) by rw [hqy]; exact hy); omega)
      have db : decide (blen (val X) ≤ blen (val Y)) = true := by simp; exact HBL.out
      clear h hqy hqz hy
      go_enter Try.func8, Try.ntmps8
      go_wp2_with fail
      refine (examples_any w).mono ?_
      rintro e w1 ⟨rfl, hb1⟩
      have L1 := Lib.hid (L0.out.step hb1)
      clear hb1
      go_wp2_with fail
      refine Calls.mono (cmp_l (xs := X) (ys := Y) (x := val X) (y := val Y) L1.out (by simp) (by simp) HnX.out HnY.out rfl rfl (by omega) (by omega) (q := (-1)) (cmpi_lt (by have := HAB.out; omega))) ?_
      rintro e w2 ⟨rfl, h1⟩
      have L2 := Lib.hid h1
      clear h1
      go_wp2_with fail
      refine Calls.mono (cmp_l (xs := Y) (ys := Z) (x := val Y) (y := val Z) L2.out (by simp) (by simp) HnY.out HnZ.out rfl rfl (by omega) (by omega) (q := qy) HQY.out) ?_
      rintro e w3 ⟨rfl, h1⟩
      have L3 := Lib.hid h1
      clear h1
      go_wp2_with fail
      refine Calls.mono (cmp_l (xs := X) (ys := Z) (x := val X) (y := val Z) L3.out (by simp) (by simp) HnX.out HnZ.out rfl rfl (by omega) (by omega) (q := qz) HQZ.out) ?_
      rintro e w4 ⟨rfl, h1⟩
      have L4 := Lib.hid h1
      clear h1
      go_wp2_with fail
      refine Calls.mono (sub_l_no (xs := X) (ys := Y) (x := val X) (y := val Y) L4.out (by simp) (by simp) HnX.out HnY.out rfl rfl (by omega) (by omega) (by have := HAB.out; omega)) ?_
      rintro e w5 ⟨rfl, h1⟩
      have L5 := Lib.hid h1
      clear h1
      go_wp2_with fail
      refine Calls.mono (cmp_l (xs := Y) (ys := X) (x := val Y) (y := val X) L5.out (by simp) (by simp) HnY.out HnX.out rfl rfl (by omega) (by omega) (q := (1)) (cmpi_gt (by have := HAB.out; omega))) ?_
      rintro e w6 ⟨rfl, h1⟩
      have L6 := Lib.hid h1
      clear h1
      go_wp2_with fail
      refine Calls.mono (bits_l (xs := X) (x := val X) L6.out (by simp) HnX.out rfl (by omega) (q := (blen (val X) : Int)) rfl) ?_
      rintro e w7 ⟨rfl, h1⟩
      have L7 := Lib.hid h1
      clear h1
      go_wp2_with fail
      refine Calls.mono (bits_l (xs := Y) (x := val Y) L7.out (by simp) HnY.out rfl (by omega) (q := (blen (val Y) : Int)) rfl) ?_
      rintro e w8 ⟨rfl, h1⟩
      have L8 := Lib.hid h1
      clear h1
      go_wp2_with fail
      refine Calls.mono (cmp_l (xs := X) (ys := X) (x := val X) (y := val X) L8.out (by simp) (by simp) HnX.out HnX.out rfl rfl (by omega) (by omega) (q := 0) (cmpi_eq rfl)) ?_
      rintro e w9 ⟨rfl, h1⟩
      have L9 := Lib.hid h1
      clear h1
      go_wp2
      go_ret
      exact ⟨rfl, L9.out.1⟩
  · have HAB := Lib.hid h
    have HBL := Lib.hid (blen_mono (show val X ≤ val Y by omega))
    by_cases hy : 0 < qy
    · have dy : decide (0 < qy) = true := by simp; omega
      have db : decide (blen (val X) ≤ blen (val Y)) = true := by simp; exact HBL.out
      clear h hqy hqz hy
      go_enter Try.func8, Try.ntmps8
      go_wp2_with fail
      refine (examples_any w).mono ?_
      rintro e w1 ⟨rfl, hb1⟩
      have L1 := Lib.hid (L0.out.step hb1)
      clear hb1
      go_wp2_with fail
      refine Calls.mono (cmp_l (xs := X) (ys := Y) (x := val X) (y := val Y) L1.out (by simp) (by simp) HnX.out HnY.out rfl rfl (by omega) (by omega) (q := (0)) (cmpi_eq (by have := HAB.out; omega))) ?_
      rintro e w2 ⟨rfl, h1⟩
      have L2 := Lib.hid h1
      clear h1
      go_wp2_with fail
      refine Calls.mono (cmp_l (xs := Y) (ys := Z) (x := val Y) (y := val Z) L2.out (by simp) (by simp) HnY.out HnZ.out rfl rfl (by omega) (by omega) (q := qy) HQY.out) ?_
      rintro e w3 ⟨rfl, h1⟩
      have L3 := Lib.hid h1
      clear h1
      go_wp2_with fail
      refine Calls.mono (cmp_l (xs := X) (ys := Z) (x := val X) (y := val Z) L3.out (by simp) (by simp) HnX.out HnZ.out rfl rfl (by omega) (by omega) (q := qz) HQZ.out) ?_
      rintro e w4 ⟨rfl, h1⟩
      have L4 := Lib.hid h1
      clear h1
      go_wp2_with fail
      refine Calls.mono (sub_l (xs := X) (ys := Y) (x := val X) (y := val Y) L4.out (by simp) (by simp) HnX.out HnY.out rfl rfl (by omega) (by omega) (by have := HAB.out; omega)) ?_
      rintro e w5 ⟨A5, c5, rfl, h1⟩
      have L5 := Lib.hid h1
      clear h1
      have len5 := digs_sub_len (val X) (val Y)
      go_wp2_with fail
      refine Calls.mono (cmp_l (xs := Y) (ys := X) (x := val Y) (y := val X) L5.out (by simp) (by simp) HnY.out HnX.out rfl rfl (by omega) (by omega) (q := (0)) (cmpi_eq (by have := HAB.out; omega))) ?_
      rintro e w6 ⟨rfl, h1⟩
      have L6 := Lib.hid h1
      clear h1
      go_wp2_with fail
      refine Calls.mono (bits_l (xs := X) (x := val X) L6.out (by simp) HnX.out rfl (by omega) (q := (blen (val X) : Int)) rfl) ?_
      rintro e w7 ⟨rfl, h1⟩
      have L7 := Lib.hid h1
      clear h1
      go_wp2_with fail
      refine Calls.mono (bits_l (xs := Y) (x := val Y) L7.out (by simp) HnY.out rfl (by omega) (q := (blen (val Y) : Int)) rfl) ?_
      rintro e w8 ⟨rfl, h1⟩
      have L8 := Lib.hid h1
      clear h1
      go_wp2_with fail
      refine Calls.mono (cmp_l (xs := X) (ys := X) (x := val X) (y := val X) L8.out (by simp) (by simp) HnX.out HnX.out rfl rfl (by omega) (by omega) (q := 0) (cmpi_eq rfl)) ?_
      rintro e w9 ⟨rfl, h1⟩
      have L9 := Lib.hid h1
      clear h1
      go_wp2
      go_ret
      exact ⟨rfl, L9.out.1⟩
    · have dy : decide (0 < qy) = false := by simp; omega
      have dz : decide (qz ≤ 0) = true := by rw [decide_eq_true_iff, ← hqz]; exact cmpi_le (by have := cmpi_not (show ¬ 0 < cmpi (val Y) (val Z) by rw [hqy]; exact hy); omega)
      have db : decide (blen (val X) ≤ blen (val Y)) = true := by simp; exact HBL.out
      clear h hqy hqz hy
      go_enter Try.func8, Try.ntmps8
      go_wp2_with fail
      refine (examples_any w).mono ?_
      rintro e w1 ⟨rfl, hb1⟩
      have L1 := Lib.hid (L0.out.step hb1)
      clear hb1
      go_wp2_with fail
      refine Calls.mono (cmp_l (xs := X) (ys := Y) (x := val X) (y := val Y) L1.out (by simp) (by simp) HnX.out HnY.out rfl rfl (by omega) (by omega) (q := (0)) (cmpi_eq (by have := HAB.out; omega))) ?_
      rintro e w2 ⟨rfl, h1⟩
      have L2 := Lib.hid h1
      clear h1
      go_wp2_with fail
      refine Calls.mono (cmp_l (xs := Y) (ys := Z) (x := val Y) (y := val Z) L2.out (by simp) (by simp) HnY.out HnZ.out rfl rfl (by omega) (by omega) (q := qy) HQY.out) ?_
      rintro e w3 ⟨rfl, h1⟩
      have L3 := Lib.hid h1
      clear h1
      go_wp2_with fail
      refine Calls.mono (cmp_l (xs := X) (ys := Z) (x := val X) (y := val Z) L3.out (by simp) (by simp) HnX.out HnZ.out rfl rfl (by omega) (by omega) (q := qz) HQZ.out) ?_
      rintro e w4 ⟨rfl, h1⟩
      have L4 := Lib.hid h1
      clear h1
      go_wp2_with fail
      refine Calls.mono (sub_l (xs := X) (ys := Y) (x := val X) (y := val Y) L4.out (by simp) (by simp) HnX.out HnY.out rfl rfl (by omega) (by omega) (by have := HAB.out; omega)) ?_
      rintro e w5 ⟨A5, c5, rfl, h1⟩
      have L5 := Lib.hid h1
      clear h1
      have len5 := digs_sub_len (val X) (val Y)
      go_wp2_with fail
      refine Calls.mono (cmp_l (xs := Y) (ys := X) (x := val Y) (y := val X) L5.out (by simp) (by simp) HnY.out HnX.out rfl rfl (by omega) (by omega) (q := (0)) (cmpi_eq (by have := HAB.out; omega))) ?_
      rintro e w6 ⟨rfl, h1⟩
      have L6 := Lib.hid h1
      clear h1
      go_wp2_with fail
      refine Calls.mono (bits_l (xs := X) (x := val X) L6.out (by simp) HnX.out rfl (by omega) (q := (blen (val X) : Int)) rfl) ?_
      rintro e w7 ⟨rfl, h1⟩
      have L7 := Lib.hid h1
      clear h1
      go_wp2_with fail
      refine Calls.mono (bits_l (xs := Y) (x := val Y) L7.out (by simp) HnY.out rfl (by omega) (q := (blen (val Y) : Int)) rfl) ?_
      rintro e w8 ⟨rfl, h1⟩
      have L8 := Lib.hid h1
      clear h1
      go_wp2_with fail
      refine Calls.mono (cmp_l (xs := X) (ys := X) (x := val X) (y := val X) L8.out (by simp) (by simp) HnX.out HnX.out rfl rfl (by omega) (by omega) (q := 0) (cmpi_eq rfl)) ?_
      rintro e w9 ⟨rfl, h1⟩
      have L9 := Lib.hid h1
      clear h1
      go_wp2
      go_ret
      exact ⟨rfl, L9.out.1⟩
  · have HAB := Lib.hid h
    by_cases hbl : blen (val X) ≤ blen (val Y)
    · have db : decide (blen (val X) ≤ blen (val Y)) = true := by simp; omega
      clear h hqy hqz hbl
      go_enter Try.func8, Try.ntmps8
      go_wp2_with fail
      refine (examples_any w).mono ?_
      rintro e w1 ⟨rfl, hb1⟩
      have L1 := Lib.hid (L0.out.step hb1)
      clear hb1
      go_wp2_with fail
      refine Calls.mono (cmp_l (xs := X) (ys := Y) (x := val X) (y := val Y) L1.out (by simp) (by simp) HnX.out HnY.out rfl rfl (by omega) (by omega) (q := (1)) (cmpi_gt (by have := HAB.out; omega))) ?_
      rintro e w2 ⟨rfl, h1⟩
      have L2 := Lib.hid h1
      clear h1
      go_wp2_with fail
      refine Calls.mono (cmp_l (xs := Y) (ys := Z) (x := val Y) (y := val Z) L2.out (by simp) (by simp) HnY.out HnZ.out rfl rfl (by omega) (by omega) (q := qy) HQY.out) ?_
      rintro e w3 ⟨rfl, h1⟩
      have L3 := Lib.hid h1
      clear h1
      go_wp2_with fail
      refine Calls.mono (cmp_l (xs := X) (ys := Z) (x := val X) (y := val Z) L3.out (by simp) (by simp) HnX.out HnZ.out rfl rfl (by omega) (by omega) (q := qz) HQZ.out) ?_
      rintro e w4 ⟨rfl, h1⟩
      have L4 := Lib.hid h1
      clear h1
      go_wp2_with fail
      refine Calls.mono (sub_l (xs := X) (ys := Y) (x := val X) (y := val Y) L4.out (by simp) (by simp) HnX.out HnY.out rfl rfl (by omega) (by omega) (by have := HAB.out; omega)) ?_
      rintro e w5 ⟨A5, c5, rfl, h1⟩
      have L5 := Lib.hid h1
      clear h1
      have len5 := digs_sub_len (val X) (val Y)
      go_wp2_with fail
      refine Calls.mono (cmp_l (xs := Y) (ys := X) (x := val Y) (y := val X) L5.out (by simp) (by simp) HnY.out HnX.out rfl rfl (by omega) (by omega) (q := (-1)) (cmpi_lt (by have := HAB.out; omega))) ?_
      rintro e w6 ⟨rfl, h1⟩
      have L6 := Lib.hid h1
      clear h1
      go_wp2_with fail
      refine Calls.mono (bits_l (xs := X) (x := val X) L6.out (by simp) HnX.out rfl (by omega) (q := (blen (val X) : Int)) rfl) ?_
      rintro e w7 ⟨rfl, h1⟩
      have L7 := Lib.hid h1
      clear h1
      go_wp2_with fail
      refine Calls.mono (bits_l (xs := Y) (x := val Y) L7.out (by simp) HnY.out rfl (by omega) (q := (blen (val Y) : Int)) rfl) ?_
      rintro e w8 ⟨rfl, h1⟩
      have L8 := Lib.hid h1
      clear h1
      go_wp2_with fail
      refine Calls.mono (cmp_l (xs := X) (ys := X) (x := val X) (y := val X) L8.out (by simp) (by simp) HnX.out HnX.out rfl rfl (by omega) (by omega) (q := 0) (cmpi_eq rfl)) ?_
      rintro e w9 ⟨rfl, h1⟩
      have L9 := Lib.hid h1
      clear h1
      go_wp2
      go_ret
      exact ⟨rfl, L9.out.1⟩
    · have db : decide (blen (val X) ≤ blen (val Y)) = false := by simp; omega
      clear h hqy hqz hbl
      go_enter Try.func8, Try.ntmps8
      go_wp2_with fail
      refine (examples_any w).mono ?_
      rintro e w1 ⟨rfl, hb1⟩
      have L1 := Lib.hid (L0.out.step hb1)
      clear hb1
      go_wp2_with fail
      refine Calls.mono (cmp_l (xs := X) (ys := Y) (x := val X) (y := val Y) L1.out (by simp) (by simp) HnX.out HnY.out rfl rfl (by omega) (by omega) (q := (1)) (cmpi_gt (by have := HAB.out; omega))) ?_
      rintro e w2 ⟨rfl, h1⟩
      have L2 := Lib.hid h1
      clear h1
      go_wp2_with fail
      refine Calls.mono (cmp_l (xs := Y) (ys := Z) (x := val Y) (y := val Z) L2.out (by simp) (by simp) HnY.out HnZ.out rfl rfl (by omega) (by omega) (q := qy) HQY.out) ?_
      rintro e w3 ⟨rfl, h1⟩
      have L3 := Lib.hid h1
      clear h1
      go_wp2_with fail
      refine Calls.mono (cmp_l (xs := X) (ys := Z) (x := val X) (y := val Z) L3.out (by simp) (by simp) HnX.out HnZ.out rfl rfl (by omega) (by omega) (q := qz) HQZ.out) ?_
      rintro e w4 ⟨rfl, h1⟩
      have L4 := Lib.hid h1
      clear h1
      go_wp2_with fail
      refine Calls.mono (sub_l (xs := X) (ys := Y) (x := val X) (y := val Y) L4.out (by simp) (by simp) HnX.out HnY.out rfl rfl (by omega) (by omega) (by have := HAB.out; omega)) ?_
      rintro e w5 ⟨A5, c5, rfl, h1⟩
      have L5 := Lib.hid h1
      clear h1
      have len5 := digs_sub_len (val X) (val Y)
      go_wp2_with fail
      refine Calls.mono (cmp_l (xs := Y) (ys := X) (x := val Y) (y := val X) L5.out (by simp) (by simp) HnY.out HnX.out rfl rfl (by omega) (by omega) (q := (-1)) (cmpi_lt (by have := HAB.out; omega))) ?_
      rintro e w6 ⟨rfl, h1⟩
      have L6 := Lib.hid h1
      clear h1
      go_wp2_with fail
      refine Calls.mono (bits_l (xs := X) (x := val X) L6.out (by simp) HnX.out rfl (by omega) (q := (blen (val X) : Int)) rfl) ?_
      rintro e w7 ⟨rfl, h1⟩
      have L7 := Lib.hid h1
      clear h1
      go_wp2_with fail
      refine Calls.mono (bits_l (xs := Y) (x := val Y) L7.out (by simp) HnY.out rfl (by omega) (q := (blen (val Y) : Int)) rfl) ?_
      rintro e w8 ⟨rfl, h1⟩
      have L8 := Lib.hid h1
      clear h1
      go_wp2_with fail
      refine Calls.mono (cmp_l (xs := X) (ys := X) (x := val X) (y := val X) L8.out (by simp) (by simp) HnX.out HnX.out rfl rfl (by omega) (by omega) (q := 0) (cmpi_eq rfl)) ?_
      rintro e w9 ⟨rfl, h1⟩
      have L9 := Lib.hid h1
      clear h1
      go_wp2
      go_ret
      exact ⟨rfl, L9.out.1⟩
end Go.Proofs.Ytjnbdbgggcfbjaa
