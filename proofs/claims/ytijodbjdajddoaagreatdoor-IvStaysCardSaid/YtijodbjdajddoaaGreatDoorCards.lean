/-
  DERIVED. GIVEN WITH THE SEED: THE CARDS: each row of YtijodbjdajddoaaGreatDoorRows.lean that lists a variable, with what it lists TIED to the program's text (the seventh form; the later family's looks); each row that meets fmt, with fmt's text TOLD by the authors' own Lean function (tested against real Go, not proved from fmt's source: count such statements apart). THE CARD IS WHAT COUNTS. Prove the row's statement (the work); the ties are given (YtijodbjdajddoaaGreatDoorTie.lean); close each card by the builder's one call (the guide's Derived/Test/ToyasCard.lean, 'card_holds'). Laid BY PROGRAM, IN A SANDBOX (cutbox-door.mjs). By AI agents, Wed Nov 11 2026. No macro, syntax, notation, axiom, sorry.
-/
import Derived.Test.YtijodbjdajddoaaGreatDoorRows
import GoSem.ClaimSeven
namespace Go.Proofs.YtijodbjdajddoaaGreatDoor
namespace Rows

/-- THE TIED CARD OF 'astrolabelaw06.IvHolds'. -/
def ivHoldsCard : Claim7 := { stood := { row := ivHoldsRow, standIns := [], harness := (true, "ce2d7296bee61de3211586e1632cf2a6cfe767e426ec5d84453dd9d1173b67cd"), looks := false }, kinds := [], alts := [], laidByText := true, laidKinds := [.data], laidTests := true, laidLooks := .later }
def IvHoldsCardSaid : Prop := Claim7.holds Tryz.pinned (.plain (OpenSpec.ofChange ivHoldsSpec)) ivHoldsCard

/-- THE TIED CARD OF 'astrolabelaw06.IvDivides'. -/
def ivDividesCard : Claim7 := { stood := { row := ivDividesRow, standIns := [], harness := (true, "ce2d7296bee61de3211586e1632cf2a6cfe767e426ec5d84453dd9d1173b67cd"), looks := false }, kinds := [], alts := [], laidByText := true, laidKinds := [.data], laidTests := true, laidLooks := .later }
def IvDividesCardSaid : Prop := Claim7.holds Tryz.pinned (.plain (OpenSpec.ofChange ivDividesSpec)) ivDividesCard

/-- THE TIED CARD OF 'astrolabelaw06.IvParts'. -/
def ivPartsCard : Claim7 := { stood := { row := ivPartsRow, standIns := [], harness := (true, "ce2d7296bee61de3211586e1632cf2a6cfe767e426ec5d84453dd9d1173b67cd"), looks := false }, kinds := [], alts := [], laidByText := true, laidKinds := [.data], laidTests := true, laidLooks := .later }
def IvPartsCardSaid : Prop := Claim7.holds Tryz.pinned (.plain (OpenSpec.ofChange ivPartsSpec)) ivPartsCard

/-- THE TIED CARD OF 'astrolabelaw06.IvStays'. -/
def ivStaysCard : Claim7 := { stood := { row := ivStaysRow, standIns := [], harness := (true, "ce2d7296bee61de3211586e1632cf2a6cfe767e426ec5d84453dd9d1173b67cd"), looks := false }, kinds := [], alts := [], laidByText := true, laidKinds := [.data], laidTests := true, laidLooks := .later }
def IvStaysCardSaid : Prop := Claim7.holds Tryz.pinned (.plain (OpenSpec.ofChange ivStaysSpec)) ivStaysCard

/-- THE TIED CARD OF 'astrolabelaw06.IvMiddle'. -/
def ivMiddleCard : Claim7 := { stood := { row := ivMiddleRow, standIns := [], harness := (true, "ce2d7296bee61de3211586e1632cf2a6cfe767e426ec5d84453dd9d1173b67cd"), looks := false }, kinds := [], alts := [], laidByText := true, laidKinds := [.data], laidTests := true, laidLooks := .later }
def IvMiddleCardSaid : Prop := Claim7.holds Tryz.pinned (.plain (OpenSpec.ofChange ivMiddleSpec)) ivMiddleCard

/-- THE TIED CARD OF 'astrolabelaw06.IvScales'. -/
def ivScalesCard : Claim7 := { stood := { row := ivScalesRow, standIns := [], harness := (true, "ce2d7296bee61de3211586e1632cf2a6cfe767e426ec5d84453dd9d1173b67cd"), looks := false }, kinds := [], alts := [], laidByText := true, laidKinds := [.data], laidTests := true, laidLooks := .later }
def IvScalesCardSaid : Prop := Claim7.holds Tryz.pinned (.plain (OpenSpec.ofChange ivScalesSpec)) ivScalesCard

/-- THE SECOND FORM's CARD OF 'astrolabelaw06.IvHolds'. -/
def ivHoldsUptoCard : Claim7 := { stood := { row := ivHoldsUptoRow, standIns := [], harness := (true, "ce2d7296bee61de3211586e1632cf2a6cfe767e426ec5d84453dd9d1173b67cd"), looks := false }, kinds := [], alts := [], laidByText := true, laidKinds := [.data], laidTests := true, laidLooks := .later }
def IvHoldsUptoCardSaid : Prop := Claim7.holds Tryz.pinned (.plain (OpenSpec.upto ivHoldsSpec)) ivHoldsUptoCard

/-- THE SECOND FORM's CARD OF 'astrolabelaw06.IvDivides'. -/
def ivDividesUptoCard : Claim7 := { stood := { row := ivDividesUptoRow, standIns := [], harness := (true, "ce2d7296bee61de3211586e1632cf2a6cfe767e426ec5d84453dd9d1173b67cd"), looks := false }, kinds := [], alts := [], laidByText := true, laidKinds := [.data], laidTests := true, laidLooks := .later }
def IvDividesUptoCardSaid : Prop := Claim7.holds Tryz.pinned (.plain (OpenSpec.upto ivDividesSpec)) ivDividesUptoCard

/-- THE SECOND FORM's CARD OF 'astrolabelaw06.IvParts'. -/
def ivPartsUptoCard : Claim7 := { stood := { row := ivPartsUptoRow, standIns := [], harness := (true, "ce2d7296bee61de3211586e1632cf2a6cfe767e426ec5d84453dd9d1173b67cd"), looks := false }, kinds := [], alts := [], laidByText := true, laidKinds := [.data], laidTests := true, laidLooks := .later }
def IvPartsUptoCardSaid : Prop := Claim7.holds Tryz.pinned (.plain (OpenSpec.upto ivPartsSpec)) ivPartsUptoCard

/-- THE SECOND FORM's CARD OF 'astrolabelaw06.IvStays'. -/
def ivStaysUptoCard : Claim7 := { stood := { row := ivStaysUptoRow, standIns := [], harness := (true, "ce2d7296bee61de3211586e1632cf2a6cfe767e426ec5d84453dd9d1173b67cd"), looks := false }, kinds := [], alts := [], laidByText := true, laidKinds := [.data], laidTests := true, laidLooks := .later }
def IvStaysUptoCardSaid : Prop := Claim7.holds Tryz.pinned (.plain (OpenSpec.upto ivStaysSpec)) ivStaysUptoCard

/-- THE SECOND FORM's CARD OF 'astrolabelaw06.IvMiddle'. -/
def ivMiddleUptoCard : Claim7 := { stood := { row := ivMiddleUptoRow, standIns := [], harness := (true, "ce2d7296bee61de3211586e1632cf2a6cfe767e426ec5d84453dd9d1173b67cd"), looks := false }, kinds := [], alts := [], laidByText := true, laidKinds := [.data], laidTests := true, laidLooks := .later }
def IvMiddleUptoCardSaid : Prop := Claim7.holds Tryz.pinned (.plain (OpenSpec.upto ivMiddleSpec)) ivMiddleUptoCard

/-- THE SECOND FORM's CARD OF 'astrolabelaw06.IvScales'. -/
def ivScalesUptoCard : Claim7 := { stood := { row := ivScalesUptoRow, standIns := [], harness := (true, "ce2d7296bee61de3211586e1632cf2a6cfe767e426ec5d84453dd9d1173b67cd"), looks := false }, kinds := [], alts := [], laidByText := true, laidKinds := [.data], laidTests := true, laidLooks := .later }
def IvScalesUptoCardSaid : Prop := Claim7.holds Tryz.pinned (.plain (OpenSpec.upto ivScalesSpec)) ivScalesUptoCard
end Rows
end Go.Proofs.YtijodbjdajddoaaGreatDoor
