/-
  The reference's own text (astrolaberef01): Small, Bits, Bit, From, Cmp.
-/
import Derived.Test.YtjnbdbgggcfbjaaRefA
import Derived.Test.YtjnbdbgggcfbjaaLen
namespace Go.Proofs.Ytjnbdbgggcfbjaa
open Go.RowKit
theorem or_join' (a b : Nat) (ha : a < 4294967296) (hb : b < 4294967296) : bits BinOp.or IntKind.u64 (a : Int) ((b : Int) * 4294967296) = ((a + 4294967296 * b : Nat) : Int) := by
  have e : (b : Int) * 4294967296 = ((b * 4294967296 : Nat) : Int) := by omega
  rw [e, u64_or_nat _ _ (by omega) (by omega), Nat.or_comm, nat_join 32 _ _ (by omega) (by omega)]
  congr 1
  omega
set_option maxHeartbeats 1000000 in
theorem rsmall_any (A : Option Addr) (c : Nat) (xs : List Nat) (w : World) (h : Dg w A c xs) (hl : xs.length ≤ 16777216) :
    Calls Try.prog 30 #[.slice A xs.length c] w fun e w' => e = .returned (.tuple #[.int .u64 (small? (val xs)), .bool (decide (val xs < 18446744073709551616))]) ∧ Below w.heap.size w w' := by
  have H := Lib.hid h
  clear h
  go_enter Try.func30, Try.ntmps30
  go_wp2_with fail
  refine (rtrim_any A c xs _ H.out hl).mono ?_
  rintro e w1 ⟨A1, c1, rfl, h1, hb⟩
  have H1 := Lib.hid h1
  have HB := Lib.hid hb
  clear h1 hb
  by_cases hlt : val xs < 18446744073709551616
  · have hs := digs_small hlt
    have hv := val_digs (val xs)
    have o := ok_digs (val xs)
    have x0 := getD_lt o 0
    have x1 := getD_lt o 1
    have d0 : decide (2 < (digs (val xs)).length) = false := by simp; omega
    have HV : (digs (val xs))[0]?.getD 0 + 4294967296 * ((digs (val xs))[1]?.getD 0) = val xs := by
      generalize digs (val xs) = D at *
      rcases D with _ | ⟨d0, _ | ⟨d1, _ | ⟨d2, r⟩⟩⟩
      · simp [val] at hv ⊢; omega
      · simp [val] at hv ⊢; omega
      · simp [val] at hv ⊢; omega
      · simp at hs
    have HF := Lib.hid (small_yes HV.symm hlt)
    have HO := Lib.hid (or_join' _ _ x0 x1)
    clear hlt hv o HV
    generalize digs (val xs) = D at *
    have r0 := Lib.hid (rat_any A1 c1 D 0 w1 H1.out (by omega))
    have r1 := Lib.hid (rat_any A1 c1 D 1 w1 H1.out (by omega))
    generalize D[0]?.getD 0 = x at *
    generalize D[1]?.getD 0 = y at *
    go_wp2_with fail
    refine r0.out.mono ?_
    rintro e w' ⟨rfl, rfl⟩
    go_wp2_with fail
    refine r1.out.mono ?_
    rintro e w' ⟨rfl, rfl⟩
    go_wp2
    go_ret2
    exact ⟨ret_ub ⟨HO.out.trans HF.out.1, HF.out.2⟩, HB.out⟩
  · have HF := Lib.hid (small_no (n := val xs) (by omega))
    have hg := digs_great (n := val xs) (by omega)
    have d0 : decide (2 < (digs (val xs)).length) = true := by simp; omega
    clear hlt
    go_wp2
    go_ret2
    exact ⟨ret_ub HF.out, HB.out⟩
set_option maxHeartbeats 1000000 in
theorem rbits_any (A : Option Addr) (c : Nat) (xs : List Nat) (w : World) (h : Dg w A c xs) (hl : xs.length ≤ 16777216) :
    Calls Try.prog 32 #[.slice A xs.length c] w fun e w' => e = .returned (.int .i64 (blen (val xs))) ∧ Below w.heap.size w w' := by
  have l1 := digs_len_le h.2.1
  have H := Lib.hid h
  clear h
  go_enter Try.func32, Try.ntmps32
  go_wp2_with fail
  refine (rtrim_any A c xs _ H.out hl).mono ?_
  rintro e w1 ⟨A1, c1, rfl, h1, hb⟩
  have H1 := Lib.hid h1
  have HB := Lib.hid hb
  clear h1 hb
  by_cases h0 : val xs = 0
  · have e0 : digs (val xs) = [] := by rw [h0, digs_zero]
    have HF := Lib.hid (show (0 : Int) = (blen (val xs) : Int) from by rw [h0, blen_zero]; rfl)
    rw [e0]
    clear h0 e0
    go_wp2
    go_ret
    exact ⟨ret_i HF.out, HB.out⟩
  · have hb := blen_digs (val xs) h0
    have hn : (digs (val xs)).length ≠ 0 := fun h => h0 (digs_nil.1 h)
    have ok := ok_digs (val xs)
    generalize digs (val xs) = X at *
    obtain ⟨b, off, hA, hbk, hcx⟩ := H1.out.2.2 (by omega)
    have hx := hcx (X.length - 1) (by omega)
    have hlt := getD_lt ok (X.length - 1)
    generalize X[X.length - 1]?.getD 0 = d at *
    have hbl : blen d ≤ 64 := by rw [blen_eq _ (by omega)]; exact Lib.bitLen_le d 64 (by omega) (by omega)
    have HBL := Lib.hid hb
    have t0 : 0 < X.length := by omega
    have t1 : ((X.length : Int) == 0) = false := beq_eq_false_iff_ne.2 (by omega)
    clear hcx hb h0 hn ok
    subst hA
    go_wp2
    go_loop [4, 5] (fun bi kk => ∃ i k : Nat, bi = .int .i64 (32 * ((X.length : Int) - 1) + i) ∧ kk = .int .u32 k ∧ k < 4294967296 ∧ Hid (i + blen k = blen d)) (fun _ kk => (intOf kk).toNat)
    case atStart => exact ⟨0, d, by go_num, rfl, hlt, by simp [Hid]⟩
    case round =>
      obtain ⟨i, k, rfl, rfl, hk, HE⟩ := hrel
      have hi : i ≤ 64 := by have := HE.out; omega
      by_cases h0 : k = 0
      · subst h0
        have HI := Lib.hid (show (32 * ((X.length : Int) - 1) + i) = (blen (val xs) : Int) from by have := HE.out; rw [blen_zero] at this; rw [HBL.out]; omega)
        clear HE
        go_wp2
        go_ret
        exact ⟨ret_i HI.out, HB.out⟩
      · have hkp : 0 < k := by omega
        have HK := Lib.hid (blen_pos h0)
        go_wp2
        go_round
        case rel => exact ⟨i + 1, k / 2, by go_num, by go_num, by omega, by have := HE.out; rw [HK.out] at this; show i + 1 + blen (k / 2) = blen d; omega⟩
        case measure => simp [intOf]; omega
set_option maxHeartbeats 1000000 in
theorem rbit_any (A : Option Addr) (c : Nat) (xs : List Nat) (i : Int) (w : World) (h : Dg w A c xs) (hl : xs.length ≤ 16777216) (hi : -9223372036854775808 ≤ i) (hi' : i ≤ 9223372036854775807) :
    Calls Try.prog 34 #[.slice A xs.length c, .int .i64 i] w fun e w' => e = .returned (.bool (bitAt (val xs) i)) ∧ w = w' := by
  by_cases h0 : i < 0
  · have HF : Hid (false = bitAt (val xs) i) := by unfold bitAt; rw [decide_eq_false (by omega)]; rfl
    have d0 : decide (i < 0) = true := by simp; omega
    go_enter Try.func34, Try.ntmps34
    go_wp2
    go_ret
    exact ⟨ret_b HF.out, rfl⟩
  · obtain ⟨n, rfl⟩ := Int.eq_ofNat_of_zero_le (show 0 ≤ i by omega)
    have hb := val_bit xs (n / 32) (n % 32) h.2.1 (by omega)
    rw [show 32 * (n / 32) + n % 32 = n by omega] at hb
    have HF : Hid (bitAt (val xs) n = (xs[n / 32]?.getD 0).testBit (n % 32)) := by unfold bitAt; rw [decide_eq_true (by omega), Int.toNat_natCast, hb]; rfl
    clear hb
    by_cases h1 : xs.length ≤ n / 32
    · have d1 : decide ((xs.length : Int) ≤ (n : Int) / 32) = true := by simp; omega
      have HG : Hid (xs[n / 32]?.getD 0 = 0) := by rw [List.getElem?_eq_none h1]; rfl
      clear h1 h0
      go_enter Try.func34, Try.ntmps34
      go_wp2
      go_ret
      exact ⟨ret_b (by rw [HF.out, HG.out]; simp), rfl⟩
    · obtain ⟨b, off, hA, hbk, hcx⟩ := h.2.2 (by omega)
      have hx := hcx (n / 32) (by omega)
      have hlt := getD_lt h.2.1 (n / 32)
      have h2 : n / 32 < xs.length := by omega
      generalize xs[n / 32]?.getD 0 = d at *
      clear hcx h1 h0 h
      subst hA
      go_enter Try.func34, Try.ntmps34
      go_wp2
      go_ret
      refine ⟨ret_b ?_, rfl⟩
      simp only [HF.out]
      exact bit_fin d (n % 32) hlt
set_option maxHeartbeats 400000 in
theorem rfrom_any (n : Nat) (w : World) (hn : n < 18446744073709551616) :
    Calls Try.prog 28 #[.int .u64 n] w fun e w' => ∃ A' c', e = .returned (.slice A' (digs n).length c') ∧ Dg w' A' c' (digs n) ∧ Below w.heap.size w w' := by
  have hv : val [n % 4294967296, n / 4294967296] = n := by simp only [val]; omega
  have hd := dg_two w ((n : Int) % 4294967296) ((n : Int) / 4294967296) (n % 4294967296) (n / 4294967296) (by omega) (by omega) 40 (by omega) (by omega)
  have hs := rtrim_any _ _ _ _ hd (by simp)
  rw [hv] at hs
  have HS := Lib.hid hs
  clear hs hv hd
  go_enter Try.func28, Try.ntmps28
  go_wp2_with fail
  refine Calls.mono (show Calls Try.prog 26 #[.slice _ 2 2] _ _ from HS.out) ?_
  rintro e w' ⟨A1, c1, rfl, h1, hb⟩
  have H1 := Lib.hid h1
  clear h1
  go_wp2
  go_ret
  exact ⟨A1, c1, rfl, H1.out, ((Below.refl _ _).alloc (Nat.le_refl _) _).trans (hb.mono (by simp))⟩
end Go.Proofs.Ytjnbdbgggcfbjaa
