/-
  KaraMoves' walk, for whole numbers as they come in.
-/
import Derived.Test.YtbliblfcbnhhiaaKMoves
namespace Go.Proofs.Ytbliblfcbnhhiaa
open Go.RowKit
theorem kmoves_row (A B : Option Addr) (ca cb : Nat) (xs ys : List Nat) (n m : Int) (w : World) (hX : Dg w A ca xs) (hY : Dg w B cb ys) (gn : (Lit.int .i64 n).wf = true) (gm : (Lit.int .i64 m).wf = true) :
    Calls Try.prog 7 #[.slice A xs.length ca, .slice B ys.length cb, .int .i64 n, .int .i64 m] w fun e w' => e = .returned (.bool true) ∧ Below w.heap.size w w' := by
  have hn : -9223372036854775808 ≤ n ∧ n ≤ 9223372036854775807 := by simpa [Lit.wf, IntKind.min, IntKind.max, IntKind.signed, IntKind.bits] using gn
  have hm : -9223372036854775808 ≤ m ∧ m ≤ 9223372036854775807 := by simpa [Lit.wf, IntKind.min, IntKind.max, IntKind.signed, IntKind.bits] using gm
  exact kmoves_any A ca xs B cb ys n m w hX hY hn.1 hn.2 hm.1 hm.2
end Go.Proofs.Ytbliblfcbnhhiaa
