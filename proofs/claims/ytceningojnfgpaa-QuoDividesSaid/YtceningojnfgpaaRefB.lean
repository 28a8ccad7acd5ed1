/-
  The reference's own text (astrolaberef01): Small, Bits, Bit, From, Cmp.
-/
import Derived.Test.YtceningojnfgpaaRefA
import Derived.Test.YtceningojnfgpaaLen
namespace Go.Proofs.Ytceningojnfgpaa
open Go.RowKit
theorem or_join' (a b : Nat) (ha : a < 4294967296) (hb : b < 4294967296) : bits BinOp.or IntKind.u64 (a : Int) ((b : Int) * 4294967296) = ((a + 4294967296 * b : Nat) : Int) := by
  have e : (b : Int) * 4294967296 = ((b * 4294967296 : Nat) : Int) := by omega
  rw [e, u64_or_nat _ _ (by omega) (by omega), Nat.or_comm, nat_join 32 _ _ (by omega) (by omega)]
  congr 1
  omega
set_option maxHeartbeats 1000000 in
theorem rbits_any (A : Option Addr) (c : Nat) (xs : List Nat) (w : World) (h : Dg w A c xs) (hl : xs.length ≤ 16777216) :
    Calls Try.prog 31 #[.slice A xs.length c] w fun e w' => e = .returned (.int .i64 (blen (val xs))) ∧ Below w.heap.size w w' := by
  have l1 := digs_len_le h.2.1
  have H := Lib.hid h
  clear h
  go_enter Try.func31, Try.ntmps31
  go_wp2_with fail
  refine (rtrim_any A c xs _ H.out hl).mono ?_
  rintro e w1 ⟨A1, c1, rfl, h1, hb⟩
  have H1 := Lib.hid h1
  have HB := Lib.hid hb
  clear h1 hb
  by_cases h0 : val xs = 0
  · have e0 : digs (val xs) = [] := by rw [h0, digs_zero]
    have HF := Lib.hid (show (0 : Int) = (blen (val xs) : Int) from by rw [h0, blen_zero]; rfl)
    rw [e0]
    clear h0 e0
    go_wp2
    go_ret
    exact ⟨ret_i HF.out, HB.out⟩
  · have hb := blen_digs (val xs) h0
    have hn : (digs (val xs)).length ≠ 0 := fun h => h0 (digs_nil.1 h)
    have ok := ok_digs (val xs)
    generalize digs (val xs) = X at *
    obtain ⟨b, off, hA, hbk, hcx⟩ := H1.out.2.2 (by omega)
    have hx := hcx (X.length - 1) (by omega)
    have hlt := getD_lt ok (X.length - 1)
    generalize X[X.length - 1]?.getD 0 = d at *
    have hbl : blen d ≤ 64 := by rw [blen_eq _ (by omega)]; exact Lib.bitLen_le d 64 (by omega) (by omega)
    have HBL := Lib.hid hb
    have t0 : 0 < X.length := by omega
    have t1 : ((X.length : Int) == 0) = false := beq_eq_false_iff_ne.2 (by omega)
    clear hcx hb h0 hn ok
    subst hA
    go_wp2
    go_loop [4, 5] (fun bi kk => ∃ i k : Nat, bi = .int .i64 (32 * ((X.length : Int) - 1) + i) ∧ kk = .int .u32 k ∧ k < 4294967296 ∧ Hid (i + blen k = blen d)) (fun _ kk => (intOf kk).toNat)
    case atStart => exact ⟨0, d, by go_num, rfl, hlt, by simp [Hid]⟩
    case round =>
      obtain ⟨i, k, rfl, rfl, hk, HE⟩ := hrel
      have hi : i ≤ 64 := by have := HE.out; omega
      by_cases h0 : k = 0
      · subst h0
        have HI := Lib.hid (show (32 * ((X.length : Int) - 1) + i) = (blen (val xs) : Int) from by have := HE.out; rw [blen_zero] at this; rw [HBL.out]; omega)
        clear HE
        go_wp2
        go_ret
        exact ⟨ret_i HI.out, HB.out⟩
      · have hkp : 0 < k := by omega
        have HK := Lib.hid (blen_pos h0)
        go_wp2
        go_round
        case rel => exact ⟨i + 1, k / 2, by go_num, by go_num, by omega, by have := HE.out; rw [HK.out] at this; show i + 1 + blen (k / 2) = blen d; omega⟩
        case measure => simp [intOf]; omega
set_option maxHeartbeats 400000 in
theorem rfrom_any (n : Nat) (w : World) (hn : n < 18446744073709551616) :
    Calls Try.prog 36 #[.int .u64 n] w fun e w' => ∃ A' c', e = .returned (.slice A' (digs n).length c') ∧ Dg w' A' c' (digs n) ∧ Below w.heap.size w w' := by
  have hv : val [n % 4294967296, n / 4294967296] = n := by simp only [val]; omega
  have hd := dg_two w ((n : Int) % 4294967296) ((n : Int) / 4294967296) (n % 4294967296) (n / 4294967296) (by omega) (by omega) 37 (by omega) (by omega)
  have hs := rtrim_any _ _ _ _ hd (by simp)
  rw [hv] at hs
  have HS := Lib.hid hs
  clear hs hv hd
  go_enter Try.func36, Try.ntmps36
  go_wp2_with fail
  refine Calls.mono (show Calls Try.prog 29 #[.slice _ 2 2] _ _ from HS.out) ?_
  rintro e w' ⟨A1, c1, rfl, h1, hb⟩
  have H1 := Lib.hid h1
  clear h1
  go_wp2
  go_ret
  exact ⟨A1, c1, rfl, H1.out, ((Below.refl _ _).alloc (Nat.le_refl _) _).trans (hb.mono (by simp))⟩
end Go.Proofs.Ytceningojnfgpaa
