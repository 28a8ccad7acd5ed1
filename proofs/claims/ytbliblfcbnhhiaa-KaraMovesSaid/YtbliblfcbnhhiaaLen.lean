/-
  nat.Bits, Bit.
-/
import Derived.Test.YtbliblfcbnhhiaaCmp
namespace Go.Proofs.Ytbliblfcbnhhiaa
open Go.RowKit
/-- A bit, by a place of whatever sign. -/
def bitAt (v : Nat) (i : Int) : Bool := decide (0 ≤ i) && v.testBit i.toNat
theorem ret_b {p q : Bool} (h : p = q) : Ending.returned (.bool p) = .returned (.bool q) := by rw [h]
theorem bit_fin (d r : Nat) (hd : d < 4294967296) : (bits BinOp.and IntKind.u32 ((d : Int) / 2 ^ r) 1 == 1) = d.testBit r := by
  have e : (d : Int) / 2 ^ r = ((d / 2 ^ r : Nat) : Int) := by rw [Int.natCast_ediv, Int.natCast_pow]; rfl
  have hlt : d / 2 ^ r < 4294967296 := Nat.lt_of_le_of_lt (Nat.div_le_self _ _) hd
  rw [e, show (1 : Int) = ((1 : Nat) : Int) from rfl, u32_and_nat _ _ hlt (by omega), Nat.and_one_is_mod, Nat.testBit_eq_decide_div_mod_eq]
  rw [Bool.eq_iff_iff]
  simp
  omega
end Go.Proofs.Ytbliblfcbnhhiaa
