/-
  NARROWER THAN 'FOR EVERY INPUT', by the rows' own cells (each row's printed sentence says how): TabcWrites: laid · TabcReads: laid.
  DERIVED. THE GIVEN ROWS OF THIS SEAT. 2 by the template 'for every input the law returns true; each argument reads behind the call as it read before'; 0 by the template 'total and deterministic' (their statements: YtdmfapgclppmhaaGreatDoorTotals.lean).
  GIVEN WITH THE SEED: the statements are not yours to turn. If you find one false, say at which input.
  Laid BY PROGRAM, IN A SANDBOX (cutbox-rows.mjs): the forced cells as the released guide's own fill.sh prints them over the translation cf31a077516fc3f1… (all of the seat's roots in one cut). By AI agents, Wed Nov 11 2026. No macro, syntax, notation, axiom, sorry.
-/
import Derived.Test.YtdmfapgclppmhaaGreatDoorChecked
import GoSem.Claim
import GoSem.ClaimJoined
import GoSem.ClaimMapViews
import Derived.JoinedTies
import Derived.KernelRfl
namespace Go.Proofs.YtdmfapgclppmhaaGreatDoor
/- THE CELL 'sum', in the pinned program and in every row, IS THE sha256 OF THE DUMP (.gsa) THAT YtdmfapgclppmhaaGreatDoorProg.lean LOADS. Nothing in Lean hashes anything: it is a label: what it is worth is what the hold of that sum in a sandbox is worth. -/
noncomputable def Tryz.pinned : Pinned := { name := "ytdmfapgclppmhaagreatdoor", sum := "cf31a077516fc3f18e415fb9d51098fa1a9145dd59538f1fe49eca0002ee9c59", checked := Tryz.checked }
namespace Rows
def none {H : Type} : Left H := { results := [], args := [] }

/- WHAT THE LISTED PACKAGE-LEVEL VARIABLES READ AS WHEN THE CALL BEGINS. Each datum BY PROGRAM (the guide's laid-datum.mjs) off the statement by which the dump's own 'gosem.cut.vars' lays the variable. In a bare row this is a premise. The card (YtdmfapgclppmhaaGreatDoorCards.lean) ties it to the program's text. -/
def laid_math_bits_deBruijn32tab {H : Type} : DataW H := .agg [.lit (.int .u8 0), .lit (.int .u8 1), .lit (.int .u8 28), .lit (.int .u8 2), .lit (.int .u8 29), .lit (.int .u8 14), .lit (.int .u8 24), .lit (.int .u8 3), .lit (.int .u8 30), .lit (.int .u8 22), .lit (.int .u8 20), .lit (.int .u8 15), .lit (.int .u8 25), .lit (.int .u8 17), .lit (.int .u8 4), .lit (.int .u8 8), .lit (.int .u8 31), .lit (.int .u8 27), .lit (.int .u8 13), .lit (.int .u8 23), .lit (.int .u8 21), .lit (.int .u8 19), .lit (.int .u8 16), .lit (.int .u8 7), .lit (.int .u8 26), .lit (.int .u8 12), .lit (.int .u8 18), .lit (.int .u8 6), .lit (.int .u8 11), .lit (.int .u8 5), .lit (.int .u8 10), .lit (.int .u8 9)]

/-- 'astrolabelaw16.TabcWrites': WHATEVER THE INPUT: true; the input reads as it did. -/
def tabcWritesSpec : ChangeSpec := { name := "tabcWrites", fn := fun _ => fun
  | [d] => { results := [.lit (.bool true)], args := [d] }
  | _ => none }
def tabcWritesRow : OpenClaim := { program := "ytdmfapgclppmhaagreatdoor", sum := "cf31a077516fc3f18e415fb9d51098fa1a9145dd59538f1fe49eca0002ee9c59", func := "astrolabe/astrolabelaw16.TabcWrites", spec := "tabcWrites", named := ["math/bits.deBruijn32tab"], apart := false, laid := [("math/bits.deBruijn32tab", laid_math_bits_deBruijn32tab)] }
def TabcWritesSaid : Prop := tabcWritesRow.holds Tryz.pinned (OpenSpec.ofChange tabcWritesSpec)

/-- ITS FALSE NEIGHBOUR: 'it returns false'. Refute it at one input. -/
def tabcWritesWrong : ChangeSpec := { name := "tabcWrites", fn := fun _ => fun
  | [d] => { results := [.lit (.bool false)], args := [d] }
  | _ => none }
def TabcWritesWrongFalsely : Prop := tabcWritesRow.holds Tryz.pinned (OpenSpec.ofChange tabcWritesWrong)

/-- 'astrolabelaw16.TabcReads': WHATEVER THE INPUT: true; the input reads as it did. -/
def tabcReadsSpec : ChangeSpec := { name := "tabcReads", fn := fun _ => fun
  | [d] => { results := [.lit (.bool true)], args := [d] }
  | _ => none }
def tabcReadsRow : OpenClaim := { program := "ytdmfapgclppmhaagreatdoor", sum := "cf31a077516fc3f18e415fb9d51098fa1a9145dd59538f1fe49eca0002ee9c59", func := "astrolabe/astrolabelaw16.TabcReads", spec := "tabcReads", named := ["math/bits.deBruijn32tab"], apart := false, laid := [("math/bits.deBruijn32tab", laid_math_bits_deBruijn32tab)] }
def TabcReadsSaid : Prop := tabcReadsRow.holds Tryz.pinned (OpenSpec.ofChange tabcReadsSpec)

/-- ITS FALSE NEIGHBOUR: 'it returns false'. Refute it at one input. -/
def tabcReadsWrong : ChangeSpec := { name := "tabcReads", fn := fun _ => fun
  | [d] => { results := [.lit (.bool false)], args := [d] }
  | _ => none }
def TabcReadsWrongFalsely : Prop := tabcReadsRow.holds Tryz.pinned (OpenSpec.ofChange tabcReadsWrong)

/- THE SECOND FORM. 'bulk': how many values and letters a reading holds, each counted each time it is reached (what is shared counts as often as it is met; a slice's spare places count too). A statement '..UptoSaid' is the law's where the arguments, and the package variables that the reading takes, are together of bulk at most 1048576: NARROWER than '..Said'. Prove '..Said' where nothing that the law and all that it calls make is longer than what came in: it says more and counts as full. Else prove '..UptoSaid'. A law counts once. -/
mutual
def uptoBulk {H : Type} : DataW H → Nat
  | .lit (.string bytes) => bytes.length + 1
  | .lit _ => 1
  | .nil => 1
  | .ptr d => uptoBulk d + 1
  | .slice elems spare => uptoBulkAll elems + uptoBulkAll spare + 1
  | .agg parts => uptoBulkAll parts + 1
  | .iface _ d => uptoBulk d + 1
  | .map entries => uptoBulkEntries entries + 1
  | .held _ => 1
def uptoBulkAll {H : Type} : List (DataW H) → Nat
  | [] => 0
  | d :: r => uptoBulk d + uptoBulkAll r
def uptoBulkEntries {H : Type} : List (Lit × DataW H) → Nat
  | [] => 0
  | x :: r => uptoBulkEntry x + uptoBulkEntries r
def uptoBulkEntry {H : Type} : Lit × DataW H → Nat
  | (.string bytes, d) => bytes.length + uptoBulk d + 1
  | (_, d) => uptoBulk d + 1
 end
def uptoSmall : (H : Type) → List (DataW H) → Bool := fun _ ds => decide (uptoBulkAll ds ≤ 1048576)
def OpenSpec.upto (s : _root_.Go.ChangeSpec) : _root_.Go.OpenSpec := { _root_.Go.OpenSpec.ofChange s with cond := some uptoSmall }

/-- 'astrolabelaw16.TabcWrites', WHERE WHAT IT READS IS OF BULK AT MOST 1048576: true; the input reads as it did. -/
def tabcWritesUptoRow : OpenClaim := { program := "ytdmfapgclppmhaagreatdoor", sum := "cf31a077516fc3f18e415fb9d51098fa1a9145dd59538f1fe49eca0002ee9c59", func := "astrolabe/astrolabelaw16.TabcWrites", spec := "tabcWrites", named := ["math/bits.deBruijn32tab"], apart := false, laid := [("math/bits.deBruijn32tab", laid_math_bits_deBruijn32tab)], narrowed := true }
def TabcWritesUptoSaid : Prop := tabcWritesUptoRow.holds Tryz.pinned (OpenSpec.upto tabcWritesSpec)

/-- 'astrolabelaw16.TabcReads', WHERE WHAT IT READS IS OF BULK AT MOST 1048576: true; the input reads as it did. -/
def tabcReadsUptoRow : OpenClaim := { program := "ytdmfapgclppmhaagreatdoor", sum := "cf31a077516fc3f18e415fb9d51098fa1a9145dd59538f1fe49eca0002ee9c59", func := "astrolabe/astrolabelaw16.TabcReads", spec := "tabcReads", named := ["math/bits.deBruijn32tab"], apart := false, laid := [("math/bits.deBruijn32tab", laid_math_bits_deBruijn32tab)], narrowed := true }
def TabcReadsUptoSaid : Prop := tabcReadsUptoRow.holds Tryz.pinned (OpenSpec.upto tabcReadsSpec)

end Rows
end Go.Proofs.YtdmfapgclppmhaaGreatDoor
