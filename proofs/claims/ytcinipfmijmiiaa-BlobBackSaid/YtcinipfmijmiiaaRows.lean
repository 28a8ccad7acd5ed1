/-
  No cell of these rows narrows 'for every input' (looked for: loops, veiled, ifaces, maps, wideKeys, modest, calm, conditions, laid).
  DERIVED. THE GIVEN ROWS OF THIS SEAT. 3 by the template 'for every input the law returns true; each argument reads behind the call as it read before'; 0 by the template 'total and deterministic' (their statements: YtcinipfmijmiiaaTotals.lean).
  GIVEN WITH THE SEED: the statements are not yours to turn. If you find one false, say at which input.
  Laid BY PROGRAM, IN A SANDBOX (cutbox-rows.mjs): the forced cells as the released guide's own fill.sh prints them over the translation 7c33afa37e67693f… (all of the seat's roots in one cut). By AI agents, Wed Nov 11 2026. No macro, syntax, notation, axiom, sorry.
-/
import Derived.Test.YtcinipfmijmiiaaChecked
import GoSem.Claim
import GoSem.ClaimJoined
import GoSem.ClaimMapViews
import Derived.JoinedTies
import Derived.KernelRfl
namespace Go.Proofs.Ytcinipfmijmiiaa
/- THE CELL 'sum', in the pinned program and in every row, IS THE sha256 OF THE DUMP (.gsa) THAT YtcinipfmijmiiaaProg.lean LOADS. Nothing in Lean hashes anything: it is a label: what it is worth is what the hold of that sum in a sandbox is worth. -/
noncomputable def Try.pinned : Pinned := { name := "ytcinipfmijmiiaa", sum := "7c33afa37e67693ffc865cfffbe57dd52f509c2be0993a9da53f3b43286ad430", checked := Try.checked }
namespace Rows
def none {H : Type} : Left H := { results := [], args := [] }

/-- 'astrolabelaw20.BlobBack': WHATEVER THE INPUT: true; the input reads as it did. -/
def blobBackSpec : ChangeSpec := { name := "blobBack", fn := fun _ => fun
  | [d] => { results := [.lit (.bool true)], args := [d] }
  | _ => none }
def blobBackRow : OpenClaim := { program := "ytcinipfmijmiiaa", sum := "7c33afa37e67693ffc865cfffbe57dd52f509c2be0993a9da53f3b43286ad430", func := "astrolabe/astrolabelaw20.BlobBack", spec := "blobBack", inPlace := ["internal/abi.NoEscape", "internal/bytealg.MakeNoZero"], unfollowed := true, recurses := true, apart := false }
def BlobBackSaid : Prop := blobBackRow.holds Try.pinned (OpenSpec.ofChange blobBackSpec)

/-- ITS FALSE NEIGHBOUR: 'it returns false'. Refute it at one input. -/
def blobBackWrong : ChangeSpec := { name := "blobBack", fn := fun _ => fun
  | [d] => { results := [.lit (.bool false)], args := [d] }
  | _ => none }
def BlobBackWrongFalsely : Prop := blobBackRow.holds Try.pinned (OpenSpec.ofChange blobBackWrong)

/-- 'astrolabelaw20.BlobNeeds': WHATEVER THE INPUT: true; the input reads as it did. -/
def blobNeedsSpec : ChangeSpec := { name := "blobNeeds", fn := fun _ => fun
  | [d] => { results := [.lit (.bool true)], args := [d] }
  | _ => none }
def blobNeedsRow : OpenClaim := { program := "ytcinipfmijmiiaa", sum := "7c33afa37e67693ffc865cfffbe57dd52f509c2be0993a9da53f3b43286ad430", func := "astrolabe/astrolabelaw20.BlobNeeds", spec := "blobNeeds", inPlace := ["internal/abi.NoEscape", "internal/bytealg.MakeNoZero"], unfollowed := true, recurses := true, apart := false }
def BlobNeedsSaid : Prop := blobNeedsRow.holds Try.pinned (OpenSpec.ofChange blobNeedsSpec)

/-- ITS FALSE NEIGHBOUR: 'it returns false'. Refute it at one input. -/
def blobNeedsWrong : ChangeSpec := { name := "blobNeeds", fn := fun _ => fun
  | [d] => { results := [.lit (.bool false)], args := [d] }
  | _ => none }
def BlobNeedsWrongFalsely : Prop := blobNeedsRow.holds Try.pinned (OpenSpec.ofChange blobNeedsWrong)

/-- 'astrolabelaw20.BlobChains': WHATEVER THE INPUT: true; the input reads as it did. -/
def blobChainsSpec : ChangeSpec := { name := "blobChains", fn := fun _ => fun
  | [d] => { results := [.lit (.bool true)], args := [d] }
  | _ => none }
def blobChainsRow : OpenClaim := { program := "ytcinipfmijmiiaa", sum := "7c33afa37e67693ffc865cfffbe57dd52f509c2be0993a9da53f3b43286ad430", func := "astrolabe/astrolabelaw20.BlobChains", spec := "blobChains", inPlace := ["internal/abi.NoEscape", "internal/bytealg.MakeNoZero"], unfollowed := true, recurses := true, apart := false }
def BlobChainsSaid : Prop := blobChainsRow.holds Try.pinned (OpenSpec.ofChange blobChainsSpec)

/-- ITS FALSE NEIGHBOUR: 'it returns false'. Refute it at one input. -/
def blobChainsWrong : ChangeSpec := { name := "blobChains", fn := fun _ => fun
  | [d] => { results := [.lit (.bool false)], args := [d] }
  | _ => none }
def BlobChainsWrongFalsely : Prop := blobChainsRow.holds Try.pinned (OpenSpec.ofChange blobChainsWrong)

/- THE SECOND FORM. 'bulk': how many values and letters a reading holds, each counted each time it is reached (what is shared counts as often as it is met; a slice's spare places count too). A statement '..UptoSaid' is the law's where the arguments, and the package variables that the reading takes, are together of bulk at most 1048576: NARROWER than '..Said'. Prove '..Said' where nothing that the law and all that it calls make is longer than what came in: it says more and counts as full. Else prove '..UptoSaid'. A law counts once. -/
mutual
def uptoBulk {H : Type} : DataW H → Nat
  | .lit (.string bytes) => bytes.length + 1
  | .lit _ => 1
  | .nil => 1
  | .ptr d => uptoBulk d + 1
  | .slice elems spare => uptoBulkAll elems + uptoBulkAll spare + 1
  | .agg parts => uptoBulkAll parts + 1
  | .iface _ d => uptoBulk d + 1
  | .map entries => uptoBulkEntries entries + 1
  | .held _ => 1
def uptoBulkAll {H : Type} : List (DataW H) → Nat
  | [] => 0
  | d :: r => uptoBulk d + uptoBulkAll r
def uptoBulkEntries {H : Type} : List (Lit × DataW H) → Nat
  | [] => 0
  | x :: r => uptoBulkEntry x + uptoBulkEntries r
def uptoBulkEntry {H : Type} : Lit × DataW H → Nat
  | (.string bytes, d) => bytes.length + uptoBulk d + 1
  | (_, d) => uptoBulk d + 1
 end
def uptoSmall : (H : Type) → List (DataW H) → Bool := fun _ ds => decide (uptoBulkAll ds ≤ 1048576)
def OpenSpec.upto (s : _root_.Go.ChangeSpec) : _root_.Go.OpenSpec := { _root_.Go.OpenSpec.ofChange s with cond := some uptoSmall }

/-- 'astrolabelaw20.BlobBack', WHERE WHAT IT READS IS OF BULK AT MOST 1048576: true; the input reads as it did. -/
def blobBackUptoRow : OpenClaim := { program := "ytcinipfmijmiiaa", sum := "7c33afa37e67693ffc865cfffbe57dd52f509c2be0993a9da53f3b43286ad430", func := "astrolabe/astrolabelaw20.BlobBack", spec := "blobBack", inPlace := ["internal/abi.NoEscape", "internal/bytealg.MakeNoZero"], unfollowed := true, recurses := true, apart := false, narrowed := true }
def BlobBackUptoSaid : Prop := blobBackUptoRow.holds Try.pinned (OpenSpec.upto blobBackSpec)

/-- 'astrolabelaw20.BlobNeeds', WHERE WHAT IT READS IS OF BULK AT MOST 1048576: true; the input reads as it did. -/
def blobNeedsUptoRow : OpenClaim := { program := "ytcinipfmijmiiaa", sum := "7c33afa37e67693ffc865cfffbe57dd52f509c2be0993a9da53f3b43286ad430", func := "astrolabe/astrolabelaw20.BlobNeeds", spec := "blobNeeds", inPlace := ["internal/abi.NoEscape", "internal/bytealg.MakeNoZero"], unfollowed := true, recurses := true, apart := false, narrowed := true }
def BlobNeedsUptoSaid : Prop := blobNeedsUptoRow.holds Try.pinned (OpenSpec.upto blobNeedsSpec)

/-- 'astrolabelaw20.BlobChains', WHERE WHAT IT READS IS OF BULK AT MOST 1048576: true; the input reads as it did. -/
def blobChainsUptoRow : OpenClaim := { program := "ytcinipfmijmiiaa", sum := "7c33afa37e67693ffc865cfffbe57dd52f509c2be0993a9da53f3b43286ad430", func := "astrolabe/astrolabelaw20.BlobChains", spec := "blobChains", inPlace := ["internal/abi.NoEscape", "internal/bytealg.MakeNoZero"], unfollowed := true, recurses := true, apart := false, narrowed := true }
def BlobChainsUptoSaid : Prop := blobChainsUptoRow.holds Try.pinned (OpenSpec.upto blobChainsSpec)

end Rows
end Go.Proofs.Ytcinipfmijmiiaa
