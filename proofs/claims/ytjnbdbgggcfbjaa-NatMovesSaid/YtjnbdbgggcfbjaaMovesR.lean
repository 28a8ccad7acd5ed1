/-
  NatMoves' walk, for whole numbers as they come in.
-/
import Derived.Test.YtjnbdbgggcfbjaaMoves
namespace Go.Proofs.Ytjnbdbgggcfbjaa
open Go.RowKit
theorem moves_row (A : Option Addr) (ca : Nat) (xs : List Nat) (n i s : Int) (w : World) (hX : Dg w A ca xs) (gn : (Lit.int .i64 n).wf = true) (gi : (Lit.int .i64 i).wf = true) (gs : (Lit.int .u64 s).wf = true) :
    Calls Try.prog 4 #[.slice A xs.length ca, .int .i64 n, .int .i64 i, .int .u64 s] w fun e w' => e = .returned (.bool true) ∧ Below w.heap.size w w' := by
  have hn : -9223372036854775808 ≤ n ∧ n ≤ 9223372036854775807 := by simpa [Lit.wf, IntKind.min, IntKind.max, IntKind.signed, IntKind.bits] using gn
  have hi : -9223372036854775808 ≤ i ∧ i ≤ 9223372036854775807 := by simpa [Lit.wf, IntKind.min, IntKind.max, IntKind.signed, IntKind.bits] using gi
  have hs : 0 ≤ s ∧ s ≤ 18446744073709551615 := by simpa [Lit.wf, IntKind.min, IntKind.max, IntKind.signed, IntKind.bits] using gs
  obtain ⟨s, rfl⟩ := Int.eq_ofNat_of_zero_le hs.1
  exact moves_any A ca xs n i s w hX hn.1 hn.2 hi.1 hi.2 (by omega)
end Go.Proofs.Ytjnbdbgggcfbjaa
