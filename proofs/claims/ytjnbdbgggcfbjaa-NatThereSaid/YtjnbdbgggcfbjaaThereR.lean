/-
  NatThere' walk, for whole numbers as they come in.
-/
import Derived.Test.YtjnbdbgggcfbjaaThere
namespace Go.Proofs.Ytjnbdbgggcfbjaa
open Go.RowKit
theorem there_row (A : Option Addr) (ca : Nat) (xs : List Nat) (n i : Int) (w : World) (hX : Dg w A ca xs) (gn : (Lit.int .i64 n).wf = true) (gi : (Lit.int .i64 i).wf = true) :
    Calls Try.prog 7 #[.slice A xs.length ca, .int .i64 n, .int .i64 i] w fun e w' => e = .returned (.bool true) ∧ Below w.heap.size w w' := by
  have hn : -9223372036854775808 ≤ n ∧ n ≤ 9223372036854775807 := by simpa [Lit.wf, IntKind.min, IntKind.max, IntKind.signed, IntKind.bits] using gn
  have hi : -9223372036854775808 ≤ i ∧ i ≤ 9223372036854775807 := by simpa [Lit.wf, IntKind.min, IntKind.max, IntKind.signed, IntKind.bits] using gi
  exact there_any A ca xs n i w hX hn.1 hn.2 hi.1 hi.2
end Go.Proofs.Ytjnbdbgggcfbjaa
