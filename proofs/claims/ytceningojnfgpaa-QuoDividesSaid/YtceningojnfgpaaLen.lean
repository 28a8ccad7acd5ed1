/-
  nat.Bits, Bit.
-/
import Derived.Test.YtceningojnfgpaaCmp
namespace Go.Proofs.Ytceningojnfgpaa
open Go.RowKit
set_option maxHeartbeats 1000000 in
theorem bits_any (A : Option Addr) (c : Nat) (xs : List Nat) (w : World) (h : Dg w A c xs) (hl : xs.length ≤ 16777216) :
    Calls Try.prog 19 #[.slice A xs.length c] w fun e w' => e = .returned (.int .i64 (blen (val xs))) ∧ w = w' := by
  have l1 := digs_len_le h.2.1
  have H := Lib.hid h
  clear h
  go_enter Try.func19, Try.ntmps19
  go_wp2_with fail
  refine (short_any A c xs _ H.out hl).mono ?_
  rintro e w' ⟨A1, c1, rfl, h1, rfl⟩
  have H1 := Lib.hid h1
  clear h1
  by_cases h0 : val xs = 0
  · have e0 : digs (val xs) = [] := by rw [h0, digs_zero]
    have HF : Hid ((0 : Int) = (blen (val xs) : Int)) := by rw [h0, blen_zero]; rfl
    rw [e0]
    clear h0 e0
    go_wp2
    go_ret
    exact ⟨ret_i HF.out, rfl⟩
  · have hb := blen_digs (val xs) h0
    have hn : (digs (val xs)).length ≠ 0 := fun h => h0 (digs_nil.1 h)
    have ok := ok_digs (val xs)
    generalize digs (val xs) = X at *
    obtain ⟨b, off, hA, hbk, hcx⟩ := H1.out.2.2 (by omega)
    have hx := hcx (X.length - 1) (by omega)
    have hlt := getD_lt ok (X.length - 1)
    generalize X[X.length - 1]?.getD 0 = d at *
    have hbl : blen d ≤ 64 := by rw [blen_eq _ (by omega)]; exact Lib.bitLen_le d 64 (by omega) (by omega)
    have HB := Lib.hid hb
    have t0 : 0 < X.length := by omega
    have t1 : ((X.length : Int) == 0) = false := beq_eq_false_iff_ne.2 (by omega)
    clear hcx hb h0 hn ok
    subst hA
    go_wp2_with fail
    refine (len32_any d _ hlt).mono ?_
    rintro e w' ⟨rfl, rfl⟩
    go_wp2
    go_ret
    exact ⟨ret_i (by rw [HB.out]; omega), rfl⟩
/-- A bit, by a place of whatever sign. -/
def bitAt (v : Nat) (i : Int) : Bool := decide (0 ≤ i) && v.testBit i.toNat
theorem ret_b {p q : Bool} (h : p = q) : Ending.returned (.bool p) = .returned (.bool q) := by rw [h]
theorem bit_fin (d r : Nat) (hd : d < 4294967296) : (bits BinOp.and IntKind.u32 ((d : Int) / 2 ^ r) 1 == 1) = d.testBit r := by
  have e : (d : Int) / 2 ^ r = ((d / 2 ^ r : Nat) : Int) := by rw [Int.natCast_ediv, Int.natCast_pow]; rfl
  have hlt : d / 2 ^ r < 4294967296 := Nat.lt_of_le_of_lt (Nat.div_le_self _ _) hd
  rw [e, show (1 : Int) = ((1 : Nat) : Int) from rfl, u32_and_nat _ _ hlt (by omega), Nat.and_one_is_mod, Nat.testBit_eq_decide_div_mod_eq]
  rw [Bool.eq_iff_iff]
  simp
  omega
end Go.Proofs.Ytceningojnfgpaa
