/-
  DERIVED. GIVEN WITH THE SEED: THE CARDS: each row of YtfhdhldgflbpjaaDoorRows.lean that lists a variable, with what it lists TIED to the program's text (the seventh form; the later family's looks); each row that meets fmt, with fmt's text TOLD by the authors' own Lean function (tested against real Go, not proved from fmt's source: count such statements apart). THE CARD IS WHAT COUNTS. Prove the row's statement (the work); the ties are given (YtfhdhldgflbpjaaDoorTie.lean); close each card by the builder's one call (the guide's Derived/Test/ToyasCard.lean, 'card_holds'). Laid BY PROGRAM, IN A SANDBOX (cutbox-door.mjs). By AI agents, Wed Nov 11 2026. No macro, syntax, notation, axiom, sorry.
-/
import Derived.Test.YtfhdhldgflbpjaaDoorRows
import GoSem.ClaimSeven
namespace Go.Proofs.YtfhdhldgflbpjaaDoor
namespace Rows

/-- THE TIED CARD OF 'astrolabelaw16.TabcBack'. -/
def tabcBackCard : Claim7 := { stood := { row := tabcBackRow, standIns := [], harness := (true, "9a7879e5c480726bccb6e5b1b99a1e513fb5047d72098107f89e42cc2d5490b1"), looks := false }, kinds := [], alts := [], laidByText := true, laidKinds := [.data], laidTests := true, laidLooks := .later }
def TabcBackCardSaid : Prop := Claim7.holds Tryd.pinned (.plain (OpenSpec.ofChange tabcBackSpec)) tabcBackCard

/-- THE TIED CARD OF 'astrolabelaw16.TabcSizes'. -/
def tabcSizesCard : Claim7 := { stood := { row := tabcSizesRow, standIns := [], harness := (true, "9a7879e5c480726bccb6e5b1b99a1e513fb5047d72098107f89e42cc2d5490b1"), looks := false }, kinds := [], alts := [], laidByText := true, laidKinds := [.data], laidTests := true, laidLooks := .later }
def TabcSizesCardSaid : Prop := Claim7.holds Tryd.pinned (.plain (OpenSpec.ofChange tabcSizesSpec)) tabcSizesCard

/-- THE SECOND FORM's CARD OF 'astrolabelaw16.TabcBack'. -/
def tabcBackUptoCard : Claim7 := { stood := { row := tabcBackUptoRow, standIns := [], harness := (true, "9a7879e5c480726bccb6e5b1b99a1e513fb5047d72098107f89e42cc2d5490b1"), looks := false }, kinds := [], alts := [], laidByText := true, laidKinds := [.data], laidTests := true, laidLooks := .later }
def TabcBackUptoCardSaid : Prop := Claim7.holds Tryd.pinned (.plain (OpenSpec.upto tabcBackSpec)) tabcBackUptoCard

/-- THE SECOND FORM's CARD OF 'astrolabelaw16.TabcSizes'. -/
def tabcSizesUptoCard : Claim7 := { stood := { row := tabcSizesUptoRow, standIns := [], harness := (true, "9a7879e5c480726bccb6e5b1b99a1e513fb5047d72098107f89e42cc2d5490b1"), looks := false }, kinds := [], alts := [], laidByText := true, laidKinds := [.data], laidTests := true, laidLooks := .later }
def TabcSizesUptoCardSaid : Prop := Claim7.holds Tryd.pinned (.plain (OpenSpec.upto tabcSizesSpec)) tabcSizesUptoCard
end Rows
end Go.Proofs.YtfhdhldgflbpjaaDoor
