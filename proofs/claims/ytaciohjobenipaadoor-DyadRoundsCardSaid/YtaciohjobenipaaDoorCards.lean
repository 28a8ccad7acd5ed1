/-
  DERIVED. GIVEN WITH THE SEED: THE CARDS: each row of YtaciohjobenipaaDoorRows.lean that lists a variable, with what it lists TIED to the program's text (the seventh form; the later family's looks); each row that meets fmt, with fmt's text TOLD by the authors' own Lean function (tested against real Go, not proved from fmt's source: count such statements apart). THE CARD IS WHAT COUNTS. Prove the row's statement (the work); the ties are given (YtaciohjobenipaaDoorTie.lean); close each card by the builder's one call (the guide's Derived/Test/ToyasCard.lean, 'card_holds'). Laid BY PROGRAM, IN A SANDBOX (cutbox-door.mjs). By AI agents, Wed Nov 11 2026. No macro, syntax, notation, axiom, sorry.
-/
import Derived.Test.YtaciohjobenipaaDoorRows
import GoSem.ClaimSeven
namespace Go.Proofs.YtaciohjobenipaaDoor
namespace Rows

/-- THE TIED CARD OF 'astrolabelaw05.DyadMakes'. -/
def dyadMakesCard : Claim7 := { stood := { row := dyadMakesRow, standIns := [], harness := (true, "a0ee95ec608e429a44ba4d6df51e3df1264843540f127cf759ae64bd4c51b811"), looks := false }, kinds := [], alts := [], laidByText := true, laidKinds := [.data], laidTests := true, laidLooks := .later }
def DyadMakesCardSaid : Prop := Claim7.holds Tryd.pinned (.plain (OpenSpec.ofChange dyadMakesSpec)) dyadMakesCard

/-- THE TIED CARD OF 'astrolabelaw05.DyadReckons'. -/
def dyadReckonsCard : Claim7 := { stood := { row := dyadReckonsRow, standIns := [], harness := (true, "a0ee95ec608e429a44ba4d6df51e3df1264843540f127cf759ae64bd4c51b811"), looks := false }, kinds := [], alts := [], laidByText := true, laidKinds := [.data], laidTests := true, laidLooks := .later }
def DyadReckonsCardSaid : Prop := Claim7.holds Tryd.pinned (.plain (OpenSpec.ofChange dyadReckonsSpec)) dyadReckonsCard

/-- THE TIED CARD OF 'astrolabelaw05.DyadRounds'. -/
def dyadRoundsCard : Claim7 := { stood := { row := dyadRoundsRow, standIns := [], harness := (true, "a0ee95ec608e429a44ba4d6df51e3df1264843540f127cf759ae64bd4c51b811"), looks := false }, kinds := [], alts := [], laidByText := true, laidKinds := [.data], laidTests := true, laidLooks := .later }
def DyadRoundsCardSaid : Prop := Claim7.holds Tryd.pinned (.plain (OpenSpec.ofChange dyadRoundsSpec)) dyadRoundsCard

/-- THE SECOND FORM's CARD OF 'astrolabelaw05.DyadMakes'. -/
def dyadMakesUptoCard : Claim7 := { stood := { row := dyadMakesUptoRow, standIns := [], harness := (true, "a0ee95ec608e429a44ba4d6df51e3df1264843540f127cf759ae64bd4c51b811"), looks := false }, kinds := [], alts := [], laidByText := true, laidKinds := [.data], laidTests := true, laidLooks := .later }
def DyadMakesUptoCardSaid : Prop := Claim7.holds Tryd.pinned (.plain (OpenSpec.upto dyadMakesSpec)) dyadMakesUptoCard

/-- THE SECOND FORM's CARD OF 'astrolabelaw05.DyadReckons'. -/
def dyadReckonsUptoCard : Claim7 := { stood := { row := dyadReckonsUptoRow, standIns := [], harness := (true, "a0ee95ec608e429a44ba4d6df51e3df1264843540f127cf759ae64bd4c51b811"), looks := false }, kinds := [], alts := [], laidByText := true, laidKinds := [.data], laidTests := true, laidLooks := .later }
def DyadReckonsUptoCardSaid : Prop := Claim7.holds Tryd.pinned (.plain (OpenSpec.upto dyadReckonsSpec)) dyadReckonsUptoCard

/-- THE SECOND FORM's CARD OF 'astrolabelaw05.DyadRounds'. -/
def dyadRoundsUptoCard : Claim7 := { stood := { row := dyadRoundsUptoRow, standIns := [], harness := (true, "a0ee95ec608e429a44ba4d6df51e3df1264843540f127cf759ae64bd4c51b811"), looks := false }, kinds := [], alts := [], laidByText := true, laidKinds := [.data], laidTests := true, laidLooks := .later }
def DyadRoundsUptoCardSaid : Prop := Claim7.holds Tryd.pinned (.plain (OpenSpec.upto dyadRoundsSpec)) dyadRoundsUptoCard
end Rows
end Go.Proofs.YtaciohjobenipaaDoor
