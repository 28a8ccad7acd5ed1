/-
  DERIVED. GIVEN WITH THE SEED: THE CARDS: each row of YtnfafgpnnpapdaaDoorRows.lean that lists a variable, with what it lists TIED to the program's text (the seventh form; the later family's looks); each row that meets fmt, with fmt's text TOLD by the authors' own Lean function (tested against real Go, not proved from fmt's source: count such statements apart). THE CARD IS WHAT COUNTS. Prove the row's statement (the work); the ties are given (YtnfafgpnnpapdaaDoorTie.lean); close each card by the builder's one call (the guide's Derived/Test/ToyasCard.lean, 'card_holds'). Laid BY PROGRAM, IN A SANDBOX (cutbox-door.mjs). By AI agents, Wed Nov 11 2026. No macro, syntax, notation, axiom, sorry.
-/
import Derived.Test.YtnfafgpnnpapdaaDoorRows
import GoSem.ClaimSeven
namespace Go.Proofs.YtnfafgpnnpapdaaDoor
namespace Rows

/-- THE TIED CARD OF 'astrolabelaw05.DyadMakes'. -/
def dyadMakesCard : Claim7 := { stood := { row := dyadMakesRow, standIns := [], harness := (true, "7c66bf396cc85edd26b252ab6783573fce3f6eda62d94517dafae4d8f0360cd0"), looks := false }, kinds := [], alts := [], laidByText := true, laidKinds := [.data], laidTests := true, laidLooks := .later }
def DyadMakesCardSaid : Prop := Claim7.holds Tryd.pinned (.plain (OpenSpec.ofChange dyadMakesSpec)) dyadMakesCard

/-- THE TIED CARD OF 'astrolabelaw05.DyadReckons'. -/
def dyadReckonsCard : Claim7 := { stood := { row := dyadReckonsRow, standIns := [], harness := (true, "7c66bf396cc85edd26b252ab6783573fce3f6eda62d94517dafae4d8f0360cd0"), looks := false }, kinds := [], alts := [], laidByText := true, laidKinds := [.data], laidTests := true, laidLooks := .later }
def DyadReckonsCardSaid : Prop := Claim7.holds Tryd.pinned (.plain (OpenSpec.ofChange dyadReckonsSpec)) dyadReckonsCard

/-- THE TIED CARD OF 'astrolabelaw05.DyadRounds'. -/
def dyadRoundsCard : Claim7 := { stood := { row := dyadRoundsRow, standIns := [], harness := (true, "7c66bf396cc85edd26b252ab6783573fce3f6eda62d94517dafae4d8f0360cd0"), looks := false }, kinds := [], alts := [], laidByText := true, laidKinds := [.data], laidTests := true, laidLooks := .later }
def DyadRoundsCardSaid : Prop := Claim7.holds Tryd.pinned (.plain (OpenSpec.ofChange dyadRoundsSpec)) dyadRoundsCard

/-- THE TIED CARD OF 'astrolabelaw05.DyadBetween'. -/
def dyadBetweenCard : Claim7 := { stood := { row := dyadBetweenRow, standIns := [], harness := (true, "7c66bf396cc85edd26b252ab6783573fce3f6eda62d94517dafae4d8f0360cd0"), looks := false }, kinds := [], alts := [], laidByText := true, laidKinds := [.data], laidTests := true, laidLooks := .later }
def DyadBetweenCardSaid : Prop := Claim7.holds Tryd.pinned (.plain (OpenSpec.ofChange dyadBetweenSpec)) dyadBetweenCard

/-- THE TIED CARD OF 'astrolabelaw05.DyadQuotient'. -/
def dyadQuotientCard : Claim7 := { stood := { row := dyadQuotientRow, standIns := [], harness := (true, "7c66bf396cc85edd26b252ab6783573fce3f6eda62d94517dafae4d8f0360cd0"), looks := false }, kinds := [], alts := [], laidByText := true, laidKinds := [.data], laidTests := true, laidLooks := .later }
def DyadQuotientCardSaid : Prop := Claim7.holds Tryd.pinned (.plain (OpenSpec.ofChange dyadQuotientSpec)) dyadQuotientCard

/-- THE TIED CARD OF 'astrolabelaw05.DyadRoot'. -/
def dyadRootCard : Claim7 := { stood := { row := dyadRootRow, standIns := [], harness := (true, "7c66bf396cc85edd26b252ab6783573fce3f6eda62d94517dafae4d8f0360cd0"), looks := false }, kinds := [], alts := [], laidByText := true, laidKinds := [.data], laidTests := true, laidLooks := .later }
def DyadRootCardSaid : Prop := Claim7.holds Tryd.pinned (.plain (OpenSpec.ofChange dyadRootSpec)) dyadRootCard

/-- THE TIED CARD OF 'astrolabelaw05.DyadLaws'. -/
def dyadLawsCard : Claim7 := { stood := { row := dyadLawsRow, standIns := [], harness := (true, "7c66bf396cc85edd26b252ab6783573fce3f6eda62d94517dafae4d8f0360cd0"), looks := false }, kinds := [], alts := [], laidByText := true, laidKinds := [.data], laidTests := true, laidLooks := .later }
def DyadLawsCardSaid : Prop := Claim7.holds Tryd.pinned (.plain (OpenSpec.ofChange dyadLawsSpec)) dyadLawsCard

/-- THE TIED CARD OF 'astrolabelaw05.DyadFloors'. -/
def dyadFloorsCard : Claim7 := { stood := { row := dyadFloorsRow, standIns := [], harness := (true, "7c66bf396cc85edd26b252ab6783573fce3f6eda62d94517dafae4d8f0360cd0"), looks := false }, kinds := [], alts := [], laidByText := true, laidKinds := [.data], laidTests := true, laidLooks := .later }
def DyadFloorsCardSaid : Prop := Claim7.holds Tryd.pinned (.plain (OpenSpec.ofChange dyadFloorsSpec)) dyadFloorsCard

/-- THE TIED CARD OF 'astrolabelaw05.DyadBack'. -/
def dyadBackCard : Claim7 := { stood := { row := dyadBackRow, standIns := [], harness := (true, "7c66bf396cc85edd26b252ab6783573fce3f6eda62d94517dafae4d8f0360cd0"), looks := false }, kinds := [], alts := [], laidByText := true, laidKinds := [.data], laidTests := true, laidLooks := .later }
def DyadBackCardSaid : Prop := Claim7.holds Tryd.pinned (.plain (OpenSpec.ofChange dyadBackSpec)) dyadBackCard

/-- THE TIED CARD OF 'astrolabelaw05.DyadSizes'. -/
def dyadSizesCard : Claim7 := { stood := { row := dyadSizesRow, standIns := [], harness := (true, "7c66bf396cc85edd26b252ab6783573fce3f6eda62d94517dafae4d8f0360cd0"), looks := false }, kinds := [], alts := [], laidByText := true, laidKinds := [.data], laidTests := true, laidLooks := .later }
def DyadSizesCardSaid : Prop := Claim7.holds Tryd.pinned (.plain (OpenSpec.ofChange dyadSizesSpec)) dyadSizesCard

/-- THE TIED CARD OF 'astrolabelaw05.DyadOrder'. -/
def dyadOrderCard : Claim7 := { stood := { row := dyadOrderRow, standIns := [], harness := (true, "7c66bf396cc85edd26b252ab6783573fce3f6eda62d94517dafae4d8f0360cd0"), looks := false }, kinds := [], alts := [], laidByText := true, laidKinds := [.data], laidTests := true, laidLooks := .later }
def DyadOrderCardSaid : Prop := Claim7.holds Tryd.pinned (.plain (OpenSpec.ofChange dyadOrderSpec)) dyadOrderCard

/-- THE TIED CARD OF 'astrolabelaw05.DyadSteps'. -/
def dyadStepsCard : Claim7 := { stood := { row := dyadStepsRow, standIns := [], harness := (true, "7c66bf396cc85edd26b252ab6783573fce3f6eda62d94517dafae4d8f0360cd0"), looks := false }, kinds := [], alts := [], laidByText := true, laidKinds := [.data], laidTests := true, laidLooks := .later }
def DyadStepsCardSaid : Prop := Claim7.holds Tryd.pinned (.plain (OpenSpec.ofChange dyadStepsSpec)) dyadStepsCard

/-- THE SECOND FORM's CARD OF 'astrolabelaw05.DyadMakes'. -/
def dyadMakesUptoCard : Claim7 := { stood := { row := dyadMakesUptoRow, standIns := [], harness := (true, "7c66bf396cc85edd26b252ab6783573fce3f6eda62d94517dafae4d8f0360cd0"), looks := false }, kinds := [], alts := [], laidByText := true, laidKinds := [.data], laidTests := true, laidLooks := .later }
def DyadMakesUptoCardSaid : Prop := Claim7.holds Tryd.pinned (.plain (OpenSpec.upto dyadMakesSpec)) dyadMakesUptoCard

/-- THE SECOND FORM's CARD OF 'astrolabelaw05.DyadReckons'. -/
def dyadReckonsUptoCard : Claim7 := { stood := { row := dyadReckonsUptoRow, standIns := [], harness := (true, "7c66bf396cc85edd26b252ab6783573fce3f6eda62d94517dafae4d8f0360cd0"), looks := false }, kinds := [], alts := [], laidByText := true, laidKinds := [.data], laidTests := true, laidLooks := .later }
def DyadReckonsUptoCardSaid : Prop := Claim7.holds Tryd.pinned (.plain (OpenSpec.upto dyadReckonsSpec)) dyadReckonsUptoCard

/-- THE SECOND FORM's CARD OF 'astrolabelaw05.DyadRounds'. -/
def dyadRoundsUptoCard : Claim7 := { stood := { row := dyadRoundsUptoRow, standIns := [], harness := (true, "7c66bf396cc85edd26b252ab6783573fce3f6eda62d94517dafae4d8f0360cd0"), looks := false }, kinds := [], alts := [], laidByText := true, laidKinds := [.data], laidTests := true, laidLooks := .later }
def DyadRoundsUptoCardSaid : Prop := Claim7.holds Tryd.pinned (.plain (OpenSpec.upto dyadRoundsSpec)) dyadRoundsUptoCard

/-- THE SECOND FORM's CARD OF 'astrolabelaw05.DyadBetween'. -/
def dyadBetweenUptoCard : Claim7 := { stood := { row := dyadBetweenUptoRow, standIns := [], harness := (true, "7c66bf396cc85edd26b252ab6783573fce3f6eda62d94517dafae4d8f0360cd0"), looks := false }, kinds := [], alts := [], laidByText := true, laidKinds := [.data], laidTests := true, laidLooks := .later }
def DyadBetweenUptoCardSaid : Prop := Claim7.holds Tryd.pinned (.plain (OpenSpec.upto dyadBetweenSpec)) dyadBetweenUptoCard

/-- THE SECOND FORM's CARD OF 'astrolabelaw05.DyadQuotient'. -/
def dyadQuotientUptoCard : Claim7 := { stood := { row := dyadQuotientUptoRow, standIns := [], harness := (true, "7c66bf396cc85edd26b252ab6783573fce3f6eda62d94517dafae4d8f0360cd0"), looks := false }, kinds := [], alts := [], laidByText := true, laidKinds := [.data], laidTests := true, laidLooks := .later }
def DyadQuotientUptoCardSaid : Prop := Claim7.holds Tryd.pinned (.plain (OpenSpec.upto dyadQuotientSpec)) dyadQuotientUptoCard

/-- THE SECOND FORM's CARD OF 'astrolabelaw05.DyadRoot'. -/
def dyadRootUptoCard : Claim7 := { stood := { row := dyadRootUptoRow, standIns := [], harness := (true, "7c66bf396cc85edd26b252ab6783573fce3f6eda62d94517dafae4d8f0360cd0"), looks := false }, kinds := [], alts := [], laidByText := true, laidKinds := [.data], laidTests := true, laidLooks := .later }
def DyadRootUptoCardSaid : Prop := Claim7.holds Tryd.pinned (.plain (OpenSpec.upto dyadRootSpec)) dyadRootUptoCard

/-- THE SECOND FORM's CARD OF 'astrolabelaw05.DyadLaws'. -/
def dyadLawsUptoCard : Claim7 := { stood := { row := dyadLawsUptoRow, standIns := [], harness := (true, "7c66bf396cc85edd26b252ab6783573fce3f6eda62d94517dafae4d8f0360cd0"), looks := false }, kinds := [], alts := [], laidByText := true, laidKinds := [.data], laidTests := true, laidLooks := .later }
def DyadLawsUptoCardSaid : Prop := Claim7.holds Tryd.pinned (.plain (OpenSpec.upto dyadLawsSpec)) dyadLawsUptoCard

/-- THE SECOND FORM's CARD OF 'astrolabelaw05.DyadFloors'. -/
def dyadFloorsUptoCard : Claim7 := { stood := { row := dyadFloorsUptoRow, standIns := [], harness := (true, "7c66bf396cc85edd26b252ab6783573fce3f6eda62d94517dafae4d8f0360cd0"), looks := false }, kinds := [], alts := [], laidByText := true, laidKinds := [.data], laidTests := true, laidLooks := .later }
def DyadFloorsUptoCardSaid : Prop := Claim7.holds Tryd.pinned (.plain (OpenSpec.upto dyadFloorsSpec)) dyadFloorsUptoCard

/-- THE SECOND FORM's CARD OF 'astrolabelaw05.DyadBack'. -/
def dyadBackUptoCard : Claim7 := { stood := { row := dyadBackUptoRow, standIns := [], harness := (true, "7c66bf396cc85edd26b252ab6783573fce3f6eda62d94517dafae4d8f0360cd0"), looks := false }, kinds := [], alts := [], laidByText := true, laidKinds := [.data], laidTests := true, laidLooks := .later }
def DyadBackUptoCardSaid : Prop := Claim7.holds Tryd.pinned (.plain (OpenSpec.upto dyadBackSpec)) dyadBackUptoCard

/-- THE SECOND FORM's CARD OF 'astrolabelaw05.DyadSizes'. -/
def dyadSizesUptoCard : Claim7 := { stood := { row := dyadSizesUptoRow, standIns := [], harness := (true, "7c66bf396cc85edd26b252ab6783573fce3f6eda62d94517dafae4d8f0360cd0"), looks := false }, kinds := [], alts := [], laidByText := true, laidKinds := [.data], laidTests := true, laidLooks := .later }
def DyadSizesUptoCardSaid : Prop := Claim7.holds Tryd.pinned (.plain (OpenSpec.upto dyadSizesSpec)) dyadSizesUptoCard

/-- THE SECOND FORM's CARD OF 'astrolabelaw05.DyadOrder'. -/
def dyadOrderUptoCard : Claim7 := { stood := { row := dyadOrderUptoRow, standIns := [], harness := (true, "7c66bf396cc85edd26b252ab6783573fce3f6eda62d94517dafae4d8f0360cd0"), looks := false }, kinds := [], alts := [], laidByText := true, laidKinds := [.data], laidTests := true, laidLooks := .later }
def DyadOrderUptoCardSaid : Prop := Claim7.holds Tryd.pinned (.plain (OpenSpec.upto dyadOrderSpec)) dyadOrderUptoCard

/-- THE SECOND FORM's CARD OF 'astrolabelaw05.DyadSteps'. -/
def dyadStepsUptoCard : Claim7 := { stood := { row := dyadStepsUptoRow, standIns := [], harness := (true, "7c66bf396cc85edd26b252ab6783573fce3f6eda62d94517dafae4d8f0360cd0"), looks := false }, kinds := [], alts := [], laidByText := true, laidKinds := [.data], laidTests := true, laidLooks := .later }
def DyadStepsUptoCardSaid : Prop := Claim7.holds Tryd.pinned (.plain (OpenSpec.upto dyadStepsSpec)) dyadStepsUptoCard
end Rows
end Go.Proofs.YtnfafgpnnpapdaaDoor
