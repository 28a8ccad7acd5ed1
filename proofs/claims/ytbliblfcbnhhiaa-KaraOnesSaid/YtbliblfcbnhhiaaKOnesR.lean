/-
  KaraOnes' walk, for whole numbers as they come in.
-/
import Derived.Test.YtbliblfcbnhhiaaKOnes
namespace Go.Proofs.Ytbliblfcbnhhiaa
open Go.RowKit
theorem kones_row (n m : Int) (w : World) (gn : (Lit.int .i64 n).wf = true) (gm : (Lit.int .i64 m).wf = true) :
    Calls Try.prog 5 #[.int .i64 n, .int .i64 m] w fun e w' => e = .returned (.bool true) ∧ Below w.heap.size w w' := by
  have hn : -9223372036854775808 ≤ n ∧ n ≤ 9223372036854775807 := by simpa [Lit.wf, IntKind.min, IntKind.max, IntKind.signed, IntKind.bits] using gn
  have hm : -9223372036854775808 ≤ m ∧ m ≤ 9223372036854775807 := by simpa [Lit.wf, IntKind.min, IntKind.max, IntKind.signed, IntKind.bits] using gm
  exact kones_any n m w hn.1 hn.2 hm.1 hm.2
end Go.Proofs.Ytbliblfcbnhhiaa
