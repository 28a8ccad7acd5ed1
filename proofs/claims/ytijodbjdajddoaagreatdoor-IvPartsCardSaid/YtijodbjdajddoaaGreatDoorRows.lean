/-
  NARROWER THAN 'FOR EVERY INPUT', by the rows' own cells (each row's printed sentence says how): IvHolds: laid · IvDivides: laid · IvParts: laid · IvStays: laid · IvMiddle: laid · IvScales: laid.
  DERIVED. THE GIVEN ROWS OF THIS SEAT. 6 by the template 'for every input the law returns true; each argument reads behind the call as it read before'; 0 by the template 'total and deterministic' (their statements: YtijodbjdajddoaaGreatDoorTotals.lean).
  GIVEN WITH THE SEED: the statements are not yours to turn. If you find one false, say at which input.
  Laid BY PROGRAM, IN A SANDBOX (cutbox-rows.mjs): the forced cells as the released guide's own fill.sh prints them over the translation cd568dd6bc2bf1f2… (all of the seat's roots in one cut). By AI agents, Wed Nov 11 2026. No macro, syntax, notation, axiom, sorry.
-/
import Derived.Test.YtijodbjdajddoaaGreatDoorChecked
import GoSem.Claim
import GoSem.ClaimJoined
import GoSem.ClaimMapViews
import Derived.JoinedTies
import Derived.KernelRfl
namespace Go.Proofs.YtijodbjdajddoaaGreatDoor
/- THE CELL 'sum', in the pinned program and in every row, IS THE sha256 OF THE DUMP (.gsa) THAT YtijodbjdajddoaaGreatDoorProg.lean LOADS. Nothing in Lean hashes anything: it is a label: what it is worth is what the hold of that sum in a sandbox is worth. -/
noncomputable def Tryz.pinned : Pinned := { name := "ytijodbjdajddoaagreatdoor", sum := "cd568dd6bc2bf1f246f3a1cbade51bead767fa74724420ef359b75134103d840", checked := Tryz.checked }
namespace Rows
def none {H : Type} : Left H := { results := [], args := [] }

/- WHAT THE LISTED PACKAGE-LEVEL VARIABLES READ AS WHEN THE CALL BEGINS. Each datum BY PROGRAM (the guide's laid-datum.mjs) off the statement by which the dump's own 'gosem.cut.vars' lays the variable. In a bare row this is a premise. The card (YtijodbjdajddoaaGreatDoorCards.lean) ties it to the program's text. -/
def laid_math_bits_deBruijn32tab {H : Type} : DataW H := .agg [.lit (.int .u8 0), .lit (.int .u8 1), .lit (.int .u8 28), .lit (.int .u8 2), .lit (.int .u8 29), .lit (.int .u8 14), .lit (.int .u8 24), .lit (.int .u8 3), .lit (.int .u8 30), .lit (.int .u8 22), .lit (.int .u8 20), .lit (.int .u8 15), .lit (.int .u8 25), .lit (.int .u8 17), .lit (.int .u8 4), .lit (.int .u8 8), .lit (.int .u8 31), .lit (.int .u8 27), .lit (.int .u8 13), .lit (.int .u8 23), .lit (.int .u8 21), .lit (.int .u8 19), .lit (.int .u8 16), .lit (.int .u8 7), .lit (.int .u8 26), .lit (.int .u8 12), .lit (.int .u8 18), .lit (.int .u8 6), .lit (.int .u8 11), .lit (.int .u8 5), .lit (.int .u8 10), .lit (.int .u8 9)]

/-- 'astrolabelaw06.IvHolds': WHATEVER THE INPUT: true; the input reads as it did. -/
def ivHoldsSpec : ChangeSpec := { name := "ivHolds", fn := fun _ => fun
  | [d1, d2, d3, d4, d5, d6, d7] => { results := [.lit (.bool true)], args := [d1, d2, d3, d4, d5, d6, d7] }
  | _ => none }
def ivHoldsRow : OpenClaim := { program := "ytijodbjdajddoaagreatdoor", sum := "cd568dd6bc2bf1f246f3a1cbade51bead767fa74724420ef359b75134103d840", func := "astrolabe/astrolabelaw06.IvHolds", spec := "ivHolds", named := ["math/bits.deBruijn32tab", "math/bits.overflowError"], apart := false, laid := [("math/bits.deBruijn32tab", laid_math_bits_deBruijn32tab)] }
def IvHoldsSaid : Prop := ivHoldsRow.holds Tryz.pinned (OpenSpec.ofChange ivHoldsSpec)

/-- ITS FALSE NEIGHBOUR: 'it returns false'. Refute it at one input. -/
def ivHoldsWrong : ChangeSpec := { name := "ivHolds", fn := fun _ => fun
  | [d1, d2, d3, d4, d5, d6, d7] => { results := [.lit (.bool false)], args := [d1, d2, d3, d4, d5, d6, d7] }
  | _ => none }
def IvHoldsWrongFalsely : Prop := ivHoldsRow.holds Tryz.pinned (OpenSpec.ofChange ivHoldsWrong)

/-- 'astrolabelaw06.IvDivides': WHATEVER THE INPUT: true; the input reads as it did. -/
def ivDividesSpec : ChangeSpec := { name := "ivDivides", fn := fun _ => fun
  | [d1, d2, d3, d4, d5, d6, d7] => { results := [.lit (.bool true)], args := [d1, d2, d3, d4, d5, d6, d7] }
  | _ => none }
def ivDividesRow : OpenClaim := { program := "ytijodbjdajddoaagreatdoor", sum := "cd568dd6bc2bf1f246f3a1cbade51bead767fa74724420ef359b75134103d840", func := "astrolabe/astrolabelaw06.IvDivides", spec := "ivDivides", recurses := true, named := ["math/bits.deBruijn32tab", "math/bits.overflowError"], apart := false, laid := [("math/bits.deBruijn32tab", laid_math_bits_deBruijn32tab)] }
def IvDividesSaid : Prop := ivDividesRow.holds Tryz.pinned (OpenSpec.ofChange ivDividesSpec)

/-- ITS FALSE NEIGHBOUR: 'it returns false'. Refute it at one input. -/
def ivDividesWrong : ChangeSpec := { name := "ivDivides", fn := fun _ => fun
  | [d1, d2, d3, d4, d5, d6, d7] => { results := [.lit (.bool false)], args := [d1, d2, d3, d4, d5, d6, d7] }
  | _ => none }
def IvDividesWrongFalsely : Prop := ivDividesRow.holds Tryz.pinned (OpenSpec.ofChange ivDividesWrong)

/-- 'astrolabelaw06.IvParts': WHATEVER THE INPUT: true; the input reads as it did. -/
def ivPartsSpec : ChangeSpec := { name := "ivParts", fn := fun _ => fun
  | [d1, d2, d3, d4, d5] => { results := [.lit (.bool true)], args := [d1, d2, d3, d4, d5] }
  | _ => none }
def ivPartsRow : OpenClaim := { program := "ytijodbjdajddoaagreatdoor", sum := "cd568dd6bc2bf1f246f3a1cbade51bead767fa74724420ef359b75134103d840", func := "astrolabe/astrolabelaw06.IvParts", spec := "ivParts", named := ["math/bits.deBruijn32tab", "math/bits.overflowError"], apart := false, laid := [("math/bits.deBruijn32tab", laid_math_bits_deBruijn32tab)] }
def IvPartsSaid : Prop := ivPartsRow.holds Tryz.pinned (OpenSpec.ofChange ivPartsSpec)

/-- ITS FALSE NEIGHBOUR: 'it returns false'. Refute it at one input. -/
def ivPartsWrong : ChangeSpec := { name := "ivParts", fn := fun _ => fun
  | [d1, d2, d3, d4, d5] => { results := [.lit (.bool false)], args := [d1, d2, d3, d4, d5] }
  | _ => none }
def IvPartsWrongFalsely : Prop := ivPartsRow.holds Tryz.pinned (OpenSpec.ofChange ivPartsWrong)

/-- 'astrolabelaw06.IvStays': WHATEVER THE INPUT: true; the input reads as it did. -/
def ivStaysSpec : ChangeSpec := { name := "ivStays", fn := fun _ => fun
  | [d1, d2, d3] => { results := [.lit (.bool true)], args := [d1, d2, d3] }
  | _ => none }
def ivStaysRow : OpenClaim := { program := "ytijodbjdajddoaagreatdoor", sum := "cd568dd6bc2bf1f246f3a1cbade51bead767fa74724420ef359b75134103d840", func := "astrolabe/astrolabelaw06.IvStays", spec := "ivStays", recurses := true, named := ["math/bits.deBruijn32tab", "math/bits.overflowError"], apart := false, laid := [("math/bits.deBruijn32tab", laid_math_bits_deBruijn32tab)] }
def IvStaysSaid : Prop := ivStaysRow.holds Tryz.pinned (OpenSpec.ofChange ivStaysSpec)

/-- ITS FALSE NEIGHBOUR: 'it returns false'. Refute it at one input. -/
def ivStaysWrong : ChangeSpec := { name := "ivStays", fn := fun _ => fun
  | [d1, d2, d3] => { results := [.lit (.bool false)], args := [d1, d2, d3] }
  | _ => none }
def IvStaysWrongFalsely : Prop := ivStaysRow.holds Tryz.pinned (OpenSpec.ofChange ivStaysWrong)

/-- 'astrolabelaw06.IvMiddle': WHATEVER THE INPUT: true; the input reads as it did. -/
def ivMiddleSpec : ChangeSpec := { name := "ivMiddle", fn := fun _ => fun
  | [d1, d2, d3] => { results := [.lit (.bool true)], args := [d1, d2, d3] }
  | _ => none }
def ivMiddleRow : OpenClaim := { program := "ytijodbjdajddoaagreatdoor", sum := "cd568dd6bc2bf1f246f3a1cbade51bead767fa74724420ef359b75134103d840", func := "astrolabe/astrolabelaw06.IvMiddle", spec := "ivMiddle", named := ["math/bits.deBruijn32tab", "math/bits.overflowError"], apart := false, laid := [("math/bits.deBruijn32tab", laid_math_bits_deBruijn32tab)] }
def IvMiddleSaid : Prop := ivMiddleRow.holds Tryz.pinned (OpenSpec.ofChange ivMiddleSpec)

/-- ITS FALSE NEIGHBOUR: 'it returns false'. Refute it at one input. -/
def ivMiddleWrong : ChangeSpec := { name := "ivMiddle", fn := fun _ => fun
  | [d1, d2, d3] => { results := [.lit (.bool false)], args := [d1, d2, d3] }
  | _ => none }
def IvMiddleWrongFalsely : Prop := ivMiddleRow.holds Tryz.pinned (OpenSpec.ofChange ivMiddleWrong)

/-- 'astrolabelaw06.IvScales': WHATEVER THE INPUT: true; the input reads as it did. -/
def ivScalesSpec : ChangeSpec := { name := "ivScales", fn := fun _ => fun
  | [d1, d2, d3, d4] => { results := [.lit (.bool true)], args := [d1, d2, d3, d4] }
  | _ => none }
def ivScalesRow : OpenClaim := { program := "ytijodbjdajddoaagreatdoor", sum := "cd568dd6bc2bf1f246f3a1cbade51bead767fa74724420ef359b75134103d840", func := "astrolabe/astrolabelaw06.IvScales", spec := "ivScales", named := ["math/bits.deBruijn32tab", "math/bits.overflowError"], apart := false, laid := [("math/bits.deBruijn32tab", laid_math_bits_deBruijn32tab)] }
def IvScalesSaid : Prop := ivScalesRow.holds Tryz.pinned (OpenSpec.ofChange ivScalesSpec)

/-- ITS FALSE NEIGHBOUR: 'it returns false'. Refute it at one input. -/
def ivScalesWrong : ChangeSpec := { name := "ivScales", fn := fun _ => fun
  | [d1, d2, d3, d4] => { results := [.lit (.bool false)], args := [d1, d2, d3, d4] }
  | _ => none }
def IvScalesWrongFalsely : Prop := ivScalesRow.holds Tryz.pinned (OpenSpec.ofChange ivScalesWrong)

/- THE SECOND FORM. 'bulk': how many values and letters a reading holds, each counted each time it is reached (what is shared counts as often as it is met; a slice's spare places count too). A statement '..UptoSaid' is the law's where the arguments, and the package variables that the reading takes, are together of bulk at most 1048576: NARROWER than '..Said'. Prove '..Said' where nothing that the law and all that it calls make is longer than what came in: it says more and counts as full. Else prove '..UptoSaid'. A law counts once. -/
mutual
def uptoBulk {H : Type} : DataW H → Nat
  | .lit (.string bytes) => bytes.length + 1
  | .lit _ => 1
  | .nil => 1
  | .ptr d => uptoBulk d + 1
  | .slice elems spare => uptoBulkAll elems + uptoBulkAll spare + 1
  | .agg parts => uptoBulkAll parts + 1
  | .iface _ d => uptoBulk d + 1
  | .map entries => uptoBulkEntries entries + 1
  | .held _ => 1
def uptoBulkAll {H : Type} : List (DataW H) → Nat
  | [] => 0
  | d :: r => uptoBulk d + uptoBulkAll r
def uptoBulkEntries {H : Type} : List (Lit × DataW H) → Nat
  | [] => 0
  | x :: r => uptoBulkEntry x + uptoBulkEntries r
def uptoBulkEntry {H : Type} : Lit × DataW H → Nat
  | (.string bytes, d) => bytes.length + uptoBulk d + 1
  | (_, d) => uptoBulk d + 1
 end
def uptoSmall : (H : Type) → List (DataW H) → Bool := fun _ ds => decide (uptoBulkAll ds ≤ 1048576)
def OpenSpec.upto (s : _root_.Go.ChangeSpec) : _root_.Go.OpenSpec := { _root_.Go.OpenSpec.ofChange s with cond := some uptoSmall }

/-- 'astrolabelaw06.IvHolds', WHERE WHAT IT READS IS OF BULK AT MOST 1048576: true; the input reads as it did. -/
def ivHoldsUptoRow : OpenClaim := { program := "ytijodbjdajddoaagreatdoor", sum := "cd568dd6bc2bf1f246f3a1cbade51bead767fa74724420ef359b75134103d840", func := "astrolabe/astrolabelaw06.IvHolds", spec := "ivHolds", named := ["math/bits.deBruijn32tab", "math/bits.overflowError"], apart := false, laid := [("math/bits.deBruijn32tab", laid_math_bits_deBruijn32tab)], narrowed := true }
def IvHoldsUptoSaid : Prop := ivHoldsUptoRow.holds Tryz.pinned (OpenSpec.upto ivHoldsSpec)

/-- 'astrolabelaw06.IvDivides', WHERE WHAT IT READS IS OF BULK AT MOST 1048576: true; the input reads as it did. -/
def ivDividesUptoRow : OpenClaim := { program := "ytijodbjdajddoaagreatdoor", sum := "cd568dd6bc2bf1f246f3a1cbade51bead767fa74724420ef359b75134103d840", func := "astrolabe/astrolabelaw06.IvDivides", spec := "ivDivides", recurses := true, named := ["math/bits.deBruijn32tab", "math/bits.overflowError"], apart := false, laid := [("math/bits.deBruijn32tab", laid_math_bits_deBruijn32tab)], narrowed := true }
def IvDividesUptoSaid : Prop := ivDividesUptoRow.holds Tryz.pinned (OpenSpec.upto ivDividesSpec)

/-- 'astrolabelaw06.IvParts', WHERE WHAT IT READS IS OF BULK AT MOST 1048576: true; the input reads as it did. -/
def ivPartsUptoRow : OpenClaim := { program := "ytijodbjdajddoaagreatdoor", sum := "cd568dd6bc2bf1f246f3a1cbade51bead767fa74724420ef359b75134103d840", func := "astrolabe/astrolabelaw06.IvParts", spec := "ivParts", named := ["math/bits.deBruijn32tab", "math/bits.overflowError"], apart := false, laid := [("math/bits.deBruijn32tab", laid_math_bits_deBruijn32tab)], narrowed := true }
def IvPartsUptoSaid : Prop := ivPartsUptoRow.holds Tryz.pinned (OpenSpec.upto ivPartsSpec)

/-- 'astrolabelaw06.IvStays', WHERE WHAT IT READS IS OF BULK AT MOST 1048576: true; the input reads as it did. -/
def ivStaysUptoRow : OpenClaim := { program := "ytijodbjdajddoaagreatdoor", sum := "cd568dd6bc2bf1f246f3a1cbade51bead767fa74724420ef359b75134103d840", func := "astrolabe/astrolabelaw06.IvStays", spec := "ivStays", recurses := true, named := ["math/bits.deBruijn32tab", "math/bits.overflowError"], apart := false, laid := [("math/bits.deBruijn32tab", laid_math_bits_deBruijn32tab)], narrowed := true }
def IvStaysUptoSaid : Prop := ivStaysUptoRow.holds Tryz.pinned (OpenSpec.upto ivStaysSpec)

/-- 'astrolabelaw06.IvMiddle', WHERE WHAT IT READS IS OF BULK AT MOST 1048576: true; the input reads as it did. -/
def ivMiddleUptoRow : OpenClaim := { program := "ytijodbjdajddoaagreatdoor", sum := "cd568dd6bc2bf1f246f3a1cbade51bead767fa74724420ef359b75134103d840", func := "astrolabe/astrolabelaw06.IvMiddle", spec := "ivMiddle", named := ["math/bits.deBruijn32tab", "math/bits.overflowError"], apart := false, laid := [("math/bits.deBruijn32tab", laid_math_bits_deBruijn32tab)], narrowed := true }
def IvMiddleUptoSaid : Prop := ivMiddleUptoRow.holds Tryz.pinned (OpenSpec.upto ivMiddleSpec)

/-- 'astrolabelaw06.IvScales', WHERE WHAT IT READS IS OF BULK AT MOST 1048576: true; the input reads as it did. -/
def ivScalesUptoRow : OpenClaim := { program := "ytijodbjdajddoaagreatdoor", sum := "cd568dd6bc2bf1f246f3a1cbade51bead767fa74724420ef359b75134103d840", func := "astrolabe/astrolabelaw06.IvScales", spec := "ivScales", named := ["math/bits.deBruijn32tab", "math/bits.overflowError"], apart := false, laid := [("math/bits.deBruijn32tab", laid_math_bits_deBruijn32tab)], narrowed := true }
def IvScalesUptoSaid : Prop := ivScalesUptoRow.holds Tryz.pinned (OpenSpec.upto ivScalesSpec)

end Rows
end Go.Proofs.YtijodbjdajddoaaGreatDoor
