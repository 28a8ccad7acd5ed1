/-
  The reference's own text (astrolaberef01): Small, Bits, Bit, From, Cmp.
-/
import Derived.Test.YtbliblfcbnhhiaaRefA
import Derived.Test.YtbliblfcbnhhiaaLen
namespace Go.Proofs.Ytbliblfcbnhhiaa
open Go.RowKit
theorem or_join' (a b : Nat) (ha : a < 4294967296) (hb : b < 4294967296) : bits BinOp.or IntKind.u64 (a : Int) ((b : Int) * 4294967296) = ((a + 4294967296 * b : Nat) : Int) := by
  have e : (b : Int) * 4294967296 = ((b * 4294967296 : Nat) : Int) := by omega
  rw [e, u64_or_nat _ _ (by omega) (by omega), Nat.or_comm, nat_join 32 _ _ (by omega) (by omega)]
  congr 1
  omega
end Go.Proofs.Ytbliblfcbnhhiaa
