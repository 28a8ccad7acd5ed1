/-
  KaraFewer's walk, for a whole number as it comes in.
-/
import Derived.Test.YtbliblfcbnhhiaaKFewer
namespace Go.Proofs.Ytbliblfcbnhhiaa
open Go.RowKit
theorem kfewer_row (n : Int) (w : World) (gn : (Lit.int .i64 n).wf = true) :
    Calls Try.prog 6 #[.int .i64 n] w fun e w' => e = .returned (.bool true) ∧ Below w.heap.size w w' := by
  have hn : -9223372036854775808 ≤ n ∧ n ≤ 9223372036854775807 := by simpa [Lit.wf, IntKind.min, IntKind.max, IntKind.signed, IntKind.bits] using gn
  exact kfewer_any n w hn.1 hn.2
end Go.Proofs.Ytbliblfcbnhhiaa
