/-
  The words for regions that draw their order, among calls that make memory.
-/
import Derived.Test.YtceningojnfgpaaMem
import Derived.Deep.RegionHeld3
namespace Go.Proofs.Ytceningojnfgpaa
open Go.RowKit
theorem below_drew {B : Nat} {a w : World} (h : Below B a w) : Below B a w.drew := ⟨h.os, h.tape, h.output, h.size, h.block⟩
end Go.Proofs.Ytceningojnfgpaa
