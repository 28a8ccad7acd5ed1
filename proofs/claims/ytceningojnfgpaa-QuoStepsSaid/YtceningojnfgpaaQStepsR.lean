/-
  QuoSteps' walk, for whole numbers as they come in.
-/
import Derived.Test.YtceningojnfgpaaQSteps
namespace Go.Proofs.Ytceningojnfgpaa
open Go.RowKit
theorem qsteps_row (A : Option Addr) (ca : Nat) (xs : List Nat) (B : Option Addr) (cb : Nat) (ys : List Nat) (C : Option Addr) (cc : Nat) (zs : List Nat) (n : Int) (w : World) (hX : Dg w A ca xs) (hY : Dg w B cb ys) (hZ : Dg w C cc zs) (gn : (Lit.int .i64 n).wf = true) :
    Calls Try.prog 8 #[.slice A xs.length ca, .slice B ys.length cb, .slice C zs.length cc, .int .i64 n] w fun e w' => e = .returned (.bool true) ∧ Below w.heap.size w w' := by
  have hn : -9223372036854775808 ≤ n ∧ n ≤ 9223372036854775807 := by simpa [Lit.wf, IntKind.min, IntKind.max, IntKind.signed, IntKind.bits] using gn
  exact qsteps_any A ca xs B cb ys C cc zs n w hX hY hZ hn.1 hn.2
end Go.Proofs.Ytceningojnfgpaa
