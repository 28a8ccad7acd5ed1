/-
  astrolabelaw01.NatSums: sums may be taken in any order; a sum less one part is the other one; nothing is below a part of itself.
-/
import Derived.Test.YtjnbdbgggcfbjaaExam
namespace Go.Proofs.Ytjnbdbgggcfbjaa
open Go.RowKit
theorem min60 (n k : Nat) : (min (n : Int) (k : Int)).toNat = min n k := by omega
theorem Dg.take {w : World} {A : Option Addr} {c : Nat} {xs : List Nat} (h : Dg w A c xs) (k : Nat) : Dg w A c (xs.take k) :=
  ⟨by rw [List.length_take]; have := h.1; omega, fun x hx => h.2.1 x (List.mem_of_mem_take hx), fun h0 => by
    rw [List.length_take] at h0
    obtain ⟨b, off, e, hb, hc⟩ := h.2.2 (by omega)
    refine ⟨b, off, e, hb, fun j hj => ?_⟩
    rw [List.length_take] at hj
    rw [hc j (by omega), List.getElem?_take, if_pos (by omega)]⟩
theorem blen_ne {v : Nat} (h : v ≠ 0) : ((blen v : Int) == 0) = false := by rw [blen_pos h]; exact beq_eq_false_iff_ne.2 (by omega)
set_option maxHeartbeats 4000000 in
theorem sums_any (A B C : Option Addr) (ca cb cc : Nat) (xs ys zs : List Nat) (w : World) (ha : Dg w A ca xs) (hb : Dg w B cb ys) (hc : Dg w C cc zs) :
    Calls Try.prog 5 #[.slice A xs.length ca, .slice B ys.length cb, .slice C zs.length cc] w fun e w' => e = .returned (.bool true) ∧ Below w.heap.size w w' := by
  have L0 := Lib.hid ((((live_start w).add (ha.take 60)).add (hb.take 60)).add (hc.take 60))
  have ma := ha.1
  have mb := hb.1
  have mc := hc.1
  have n1 : (0 : Int) ≤ min (xs.length : Int) 60 := by omega
  have n2 : (0 : Int) ≤ min (ys.length : Int) 60 := by omega
  have n3 : (0 : Int) ≤ min (zs.length : Int) 60 := by omega
  have m1 : min (xs.length : Int) 60 ≤ (ca : Int) := by omega
  have m2 : min (ys.length : Int) 60 ≤ (cb : Int) := by omega
  have m3 : min (zs.length : Int) 60 ≤ (cc : Int) := by omega
  have e1 : (min (xs.length : Int) 60).toNat = (xs.take 60).length := by rw [List.length_take]; omega
  have e2 : (min (ys.length : Int) 60).toNat = (ys.take 60).length := by rw [List.length_take]; omega
  have e3 : (min (zs.length : Int) 60).toNat = (zs.take 60).length := by rw [List.length_take]; omega
  have HnX := Lib.hid e1
  have HnY := Lib.hid e2
  have HnZ := Lib.hid e3
  have lX : (xs.take 60).length ≤ 60 := by rw [List.length_take]; omega
  have lY : (ys.take 60).length ≤ 60 := by rw [List.length_take]; omega
  have lZ : (zs.take 60).length ≤ 60 := by rw [List.length_take]; omega
  have dX := digs_len_le (ha.take 60).2.1
  have dY := digs_len_le (hb.take 60).2.1
  have dZ := digs_len_le (hc.take 60).2.1
  clear e1 e2 e3 ha hb hc ma mb mc
  generalize xs.take 60 = X at *
  generalize ys.take 60 = Y at *
  generalize zs.take 60 = Z at *
  go_enter Try.func5, Try.ntmps5
  go_wp2_with fail
  refine (examples_any w).mono ?_
  rintro e w1 ⟨rfl, hb1⟩
  have L1 := Lib.hid (L0.out.step hb1)
  clear hb1
  go_wp2_with fail
  refine Calls.mono (add_l (xs := X) (ys := Y) L1.out (by simp) (by simp) HnX.out HnY.out rfl rfl (by omega) (by omega)) ?_
  rintro e w2 ⟨A2, c2, rfl, h1⟩
  have L2 := Lib.hid h1
  clear h1
  have len2 := digs_add_len (val X) (val Y)
  go_wp2_with fail
  refine Calls.mono (add_l (xs := Y) (ys := X) L2.out (by simp) (by simp) HnY.out HnX.out rfl rfl (by omega) (by omega)) ?_
  rintro e w3 ⟨A3, c3, rfl, h1⟩
  have L3 := Lib.hid h1
  clear h1
  have len3 := digs_add_len (val Y) (val X)
  go_wp2_with fail
  refine Calls.mono (digits_l (xs := digs ((val X) + (val Y))) (ys := digs ((val Y) + (val X))) L3.out (by simp) (by simp) rfl rfl (by omega) (by rw [Nat.add_comm])) ?_
  rintro e w4 ⟨rfl, h1⟩
  have L4 := Lib.hid h1
  clear h1
  go_wp2_with fail
  refine Calls.mono (add_l (xs := digs ((val X) + (val Y))) (ys := Z) L4.out (by simp) (by simp) rfl HnZ.out (val_digs _) rfl (by omega) (by omega)) ?_
  rintro e w5 ⟨A5, c5, rfl, h1⟩
  have L5 := Lib.hid h1
  clear h1
  have len5 := digs_add_len ((val X) + (val Y)) (val Z)
  go_wp2_with fail
  refine Calls.mono (add_l (xs := Y) (ys := Z) L5.out (by simp) (by simp) HnY.out HnZ.out rfl rfl (by omega) (by omega)) ?_
  rintro e w6 ⟨A6, c6, rfl, h1⟩
  have L6 := Lib.hid h1
  clear h1
  have len6 := digs_add_len (val Y) (val Z)
  go_wp2_with fail
  refine Calls.mono (add_l (xs := X) (ys := digs ((val Y) + (val Z))) L6.out (by simp) (by simp) HnX.out rfl rfl (val_digs _) (by omega) (by omega)) ?_
  rintro e w7 ⟨A7, c7, rfl, h1⟩
  have L7 := Lib.hid h1
  clear h1
  have len7 := digs_add_len (val X) ((val Y) + (val Z))
  go_wp2_with fail
  refine Calls.mono (digits_l (xs := digs (((val X) + (val Y)) + (val Z))) (ys := digs ((val X) + ((val Y) + (val Z)))) L7.out (by simp) (by simp) rfl rfl (by omega) (by rw [Nat.add_assoc])) ?_
  rintro e w8 ⟨rfl, h1⟩
  have L8 := Lib.hid h1
  clear h1
  go_wp2_with fail
  refine Calls.mono (sub_l (xs := digs ((val X) + (val Y))) (ys := Y) L8.out (by simp) (by simp) rfl HnY.out (val_digs _) rfl (by omega) (by omega) (Nat.le_add_left _ _)) ?_
  rintro e w9 ⟨A9, c9, rfl, h1⟩
  rw [Nat.add_sub_cancel] at h1
  rw [Nat.add_sub_cancel]
  have L9 := Lib.hid h1
  clear h1
  have len9 := digs_sub_len ((val X) + (val Y)) (val Y)
  go_wp2_with fail
  refine Calls.mono (trim_l (xs := X) L9.out (by simp) HnX.out rfl (by omega)) ?_
  rintro e w10 ⟨A10, c10, rfl, h1⟩
  have L10 := Lib.hid h1
  clear h1
  go_wp2_with fail
  refine Calls.mono (digits_l (xs := digs (val X)) (ys := digs (val X)) L10.out (by simp) (by simp) rfl rfl (by omega) (rfl)) ?_
  rintro e w11 ⟨rfl, h1⟩
  have L11 := Lib.hid h1
  clear h1
  by_cases h0 : val Y = 0
  · have H0 := Lib.hid h0
    clear h0
    go_wp2_with fail
    refine Calls.mono (cmp_l (xs := digs ((val X) + (val Y))) (ys := X) L11.out (by simp) (by simp) rfl HnX.out (val_digs _) rfl (by omega) (by omega) (q := 0) (cmpi_eq (by have := H0.out; omega))) ?_
    rintro e w12 ⟨rfl, h1⟩
    have L12 := Lib.hid h1
    clear h1
    go_wp2_with fail
    refine Calls.mono (cmp_l (xs := digs ((val X) + (val Y))) (ys := X) L12.out (by simp) (by simp) rfl HnX.out (val_digs _) rfl (by omega) (by omega) (q := 0) (cmpi_eq (by have := H0.out; omega))) ?_
    rintro e w13 ⟨rfl, h1⟩
    have L13 := Lib.hid h1
    clear h1
    go_wp2_with fail
    refine Calls.mono (bits_l (xs := Y) L13.out (by simp) HnY.out rfl (by omega) (q := 0) (by rw [H0.out, blen_zero]; rfl)) ?_
    rintro e w14 ⟨rfl, h1⟩
    have L14 := Lib.hid h1
    clear h1
    go_wp2
    go_ret
    exact ⟨rfl, L14.out.1⟩
  · have H0 := Lib.hid h0
    have HB := Lib.hid (blen_ne (v := val Y) h0)
    clear h0
    go_wp2_with fail
    refine Calls.mono (cmp_l (xs := digs ((val X) + (val Y))) (ys := X) L11.out (by simp) (by simp) rfl HnX.out (val_digs _) rfl (by omega) (by omega) (q := 1) (cmpi_gt (by have := H0.out; omega))) ?_
    rintro e w12 ⟨rfl, h1⟩
    have L12 := Lib.hid h1
    clear h1
    go_wp2_with fail
    refine Calls.mono (cmp_l (xs := digs ((val X) + (val Y))) (ys := X) L12.out (by simp) (by simp) rfl HnX.out (val_digs _) rfl (by omega) (by omega) (q := 1) (cmpi_gt (by have := H0.out; omega))) ?_
    rintro e w13 ⟨rfl, h1⟩
    have L13 := Lib.hid h1
    clear h1
    have t0 := HB.out
    go_wp2_with fail
    refine Calls.mono (bits_l (xs := Y) L13.out (by simp) HnY.out rfl (by omega) (q := (blen (val Y) : Int)) rfl) ?_
    rintro e w14 ⟨rfl, h1⟩
    have L14 := Lib.hid h1
    clear h1
    go_wp2
    go_ret
    exact ⟨rfl, L14.out.1⟩
end Go.Proofs.Ytjnbdbgggcfbjaa
