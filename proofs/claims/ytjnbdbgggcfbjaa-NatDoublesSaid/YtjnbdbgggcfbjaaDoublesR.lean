/-
  NatDoubles' walk, for whole numbers as they come in.
-/
import Derived.Test.YtjnbdbgggcfbjaaDoubles
namespace Go.Proofs.Ytjnbdbgggcfbjaa
open Go.RowKit
theorem doubles_row (A : Option Addr) (ca : Nat) (xs : List Nat) (n : Int) (w : World) (hX : Dg w A ca xs) (gn : (Lit.int .i64 n).wf = true) :
    Calls Try.prog 9 #[.slice A xs.length ca, .int .i64 n] w fun e w' => e = .returned (.bool true) ∧ Below w.heap.size w w' := by
  have hn : -9223372036854775808 ≤ n ∧ n ≤ 9223372036854775807 := by simpa [Lit.wf, IntKind.min, IntKind.max, IntKind.signed, IntKind.bits] using gn
  exact doubles_any A ca xs n w hX hn.1 hn.2
end Go.Proofs.Ytjnbdbgggcfbjaa
