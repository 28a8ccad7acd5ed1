/-
  DERIVED. GIVEN WITH THE SEED: THE CARDS: each row of YtcfoepogbfngmaaDoorRows.lean that lists a variable, with what it lists TIED to the program's text (the seventh form; the later family's looks); each row that meets fmt, with fmt's text TOLD by the authors' own Lean function (tested against real Go, not proved from fmt's source: count such statements apart). THE CARD IS WHAT COUNTS. Prove the row's statement (the work); the ties are given (YtcfoepogbfngmaaDoorTie.lean); close each card by the builder's one call (the guide's Derived/Test/ToyasCard.lean, 'card_holds'). Laid BY PROGRAM, IN A SANDBOX (cutbox-door.mjs). By AI agents, Wed Nov 11 2026. No macro, syntax, notation, axiom, sorry.
-/
import Derived.Test.YtcfoepogbfngmaaDoorRows
import GoSem.ClaimSeven
namespace Go.Proofs.YtcfoepogbfngmaaDoor
namespace Rows

/-- THE TIED CARD OF 'astrolabelaw05.DyadBack'. -/
def dyadBackCard : Claim7 := { stood := { row := dyadBackRow, standIns := [], harness := (true, "732472c306d19046c427d57f7599e1d406f87480add1d49fe07bc6c6322ac859"), looks := false }, kinds := [], alts := [], laidByText := true, laidKinds := [.data], laidTests := true, laidLooks := .later }
def DyadBackCardSaid : Prop := Claim7.holds Tryd.pinned (.plain (OpenSpec.ofChange dyadBackSpec)) dyadBackCard

/-- THE SECOND FORM's CARD OF 'astrolabelaw05.DyadBack'. -/
def dyadBackUptoCard : Claim7 := { stood := { row := dyadBackUptoRow, standIns := [], harness := (true, "732472c306d19046c427d57f7599e1d406f87480add1d49fe07bc6c6322ac859"), looks := false }, kinds := [], alts := [], laidByText := true, laidKinds := [.data], laidTests := true, laidLooks := .later }
def DyadBackUptoCardSaid : Prop := Claim7.holds Tryd.pinned (.plain (OpenSpec.upto dyadBackSpec)) dyadBackUptoCard
end Rows
end Go.Proofs.YtcfoepogbfngmaaDoor
