/-
  Whole numbers that came in.
-/
import Derived.Test.YtamfgpagjffbhaaNo
namespace Go.Proofs.Ytamfgpagjffbhaa
open Go.RowKit Go.WideShapes Go.ChangeShapes Go.ChangeAt Go.Deep
set_option maxRecDepth 100000
theorem cellsInt : Try.prog.cellsOf 3 = 1 := by kernel_rfl
end Go.Proofs.Ytamfgpagjffbhaa
