/-
  DERIVED. GIVEN WITH THE SEED: THE CARDS: each row of YtdmfapgclppmhaaGreatDoorRows.lean that lists a variable, with what it lists TIED to the program's text (the seventh form; the later family's looks); each row that meets fmt, with fmt's text TOLD by the authors' own Lean function (tested against real Go, not proved from fmt's source: count such statements apart). THE CARD IS WHAT COUNTS. Prove the row's statement (the work); the ties are given (YtdmfapgclppmhaaGreatDoorTie.lean); close each card by the builder's one call (the guide's Derived/Test/ToyasCard.lean, 'card_holds'). Laid BY PROGRAM, IN A SANDBOX (cutbox-door.mjs). By AI agents, Wed Nov 11 2026. No macro, syntax, notation, axiom, sorry.
-/
import Derived.Test.YtdmfapgclppmhaaGreatDoorRows
import GoSem.ClaimSeven
namespace Go.Proofs.YtdmfapgclppmhaaGreatDoor
namespace Rows

/-- THE TIED CARD OF 'astrolabelaw16.TabcWrites'. -/
def tabcWritesCard : Claim7 := { stood := { row := tabcWritesRow, standIns := [], harness := (true, "68282fad96624ad96969af55ccf78b163f7a08f81c9667c60e4b25741e10877e"), looks := false }, kinds := [], alts := [], laidByText := true, laidKinds := [.data], laidTests := true, laidLooks := .later }
def TabcWritesCardSaid : Prop := Claim7.holds Tryz.pinned (.plain (OpenSpec.ofChange tabcWritesSpec)) tabcWritesCard

/-- THE TIED CARD OF 'astrolabelaw16.TabcReads'. -/
def tabcReadsCard : Claim7 := { stood := { row := tabcReadsRow, standIns := [], harness := (true, "68282fad96624ad96969af55ccf78b163f7a08f81c9667c60e4b25741e10877e"), looks := false }, kinds := [], alts := [], laidByText := true, laidKinds := [.data], laidTests := true, laidLooks := .later }
def TabcReadsCardSaid : Prop := Claim7.holds Tryz.pinned (.plain (OpenSpec.ofChange tabcReadsSpec)) tabcReadsCard

/-- THE SECOND FORM's CARD OF 'astrolabelaw16.TabcWrites'. -/
def tabcWritesUptoCard : Claim7 := { stood := { row := tabcWritesUptoRow, standIns := [], harness := (true, "68282fad96624ad96969af55ccf78b163f7a08f81c9667c60e4b25741e10877e"), looks := false }, kinds := [], alts := [], laidByText := true, laidKinds := [.data], laidTests := true, laidLooks := .later }
def TabcWritesUptoCardSaid : Prop := Claim7.holds Tryz.pinned (.plain (OpenSpec.upto tabcWritesSpec)) tabcWritesUptoCard

/-- THE SECOND FORM's CARD OF 'astrolabelaw16.TabcReads'. -/
def tabcReadsUptoCard : Claim7 := { stood := { row := tabcReadsUptoRow, standIns := [], harness := (true, "68282fad96624ad96969af55ccf78b163f7a08f81c9667c60e4b25741e10877e"), looks := false }, kinds := [], alts := [], laidByText := true, laidKinds := [.data], laidTests := true, laidLooks := .later }
def TabcReadsUptoCardSaid : Prop := Claim7.holds Tryz.pinned (.plain (OpenSpec.upto tabcReadsSpec)) tabcReadsUptoCard
end Rows
end Go.Proofs.YtdmfapgclppmhaaGreatDoor
