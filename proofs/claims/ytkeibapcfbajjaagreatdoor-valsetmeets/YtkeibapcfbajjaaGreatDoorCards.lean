/-
  DERIVED. GIVEN WITH THE SEED: THE CARDS: each row of YtkeibapcfbajjaaGreatDoorRows.lean that lists a variable, with what it lists TIED to the program's text (the seventh form; the later family's looks); each row that meets fmt, with fmt's text TOLD by the authors' own Lean function (tested against real Go, not proved from fmt's source: count such statements apart). THE CARD IS WHAT COUNTS. Prove the row's statement (the work); the ties are given (YtkeibapcfbajjaaGreatDoorTie.lean); close each card by the builder's one call (the guide's Derived/Test/ToyasCard.lean, 'card_holds'). Laid BY PROGRAM, IN A SANDBOX (cutbox-door.mjs). By AI agents, Wed Nov 11 2026. No macro, syntax, notation, axiom, sorry.
-/
import Derived.Test.YtkeibapcfbajjaaGreatDoorRows
import GoSem.ClaimSeven
namespace Go.Proofs.YtkeibapcfbajjaaGreatDoor
namespace Rows

/-- THE TIED CARD OF 'sutlerlaw03.ValsetOf'. -/
def valsetOfCard : Claim7 := { stood := { row := valsetOfRow, standIns := [], harness := (true, "cf5e6f56a7795c81efd963fe7426bd6db46ce4c19af666aaeb939bed5102934d"), looks := true }, kinds := [], alts := [], laidByText := true, laidKinds := [.data, .data, .data, .sentinel, .sentinel], laidTests := true, laidLooks := .later }
def ValsetOfCardSaid : Prop := Claim7.holds Tryz.pinned (.plain (OpenSpec.ofChange valsetOfSpec)) valsetOfCard

/-- THE TIED CARD OF 'sutlerlaw03.ValsetChecks'. -/
def valsetChecksCard : Claim7 := { stood := { row := valsetChecksRow, standIns := [], harness := (true, "cf5e6f56a7795c81efd963fe7426bd6db46ce4c19af666aaeb939bed5102934d"), looks := true }, kinds := [], alts := [], laidByText := true, laidKinds := [.data, .data, .data, .sentinel, .sentinel], laidTests := true, laidLooks := .later }
def ValsetChecksCardSaid : Prop := Claim7.holds Tryz.pinned (.plain (OpenSpec.ofChange valsetChecksSpec)) valsetChecksCard

/-- THE TIED CARD OF 'sutlerlaw03.ValsetAsks'. -/
def valsetAsksCard : Claim7 := { stood := { row := valsetAsksRow, standIns := [], harness := (true, "cf5e6f56a7795c81efd963fe7426bd6db46ce4c19af666aaeb939bed5102934d"), looks := true }, kinds := [], alts := [], laidByText := true, laidKinds := [.data, .data, .data, .sentinel, .sentinel], laidTests := true, laidLooks := .later }
def ValsetAsksCardSaid : Prop := Claim7.holds Tryz.pinned (.plain (OpenSpec.ofChange valsetAsksSpec)) valsetAsksCard

/-- THE TIED CARD OF 'sutlerlaw03.ValsetMeets'. -/
def valsetMeetsCard : Claim7 := { stood := { row := valsetMeetsRow, standIns := [], harness := (true, "cf5e6f56a7795c81efd963fe7426bd6db46ce4c19af666aaeb939bed5102934d"), looks := true }, kinds := [], alts := [], laidByText := true, laidKinds := [.data, .data, .data, .sentinel, .sentinel], laidTests := true, laidLooks := .later }
def ValsetMeetsCardSaid : Prop := Claim7.holds Tryz.pinned (.plain (OpenSpec.ofChange valsetMeetsSpec)) valsetMeetsCard

/-- THE SECOND FORM's CARD OF 'sutlerlaw03.ValsetOf'. -/
def valsetOfUptoCard : Claim7 := { stood := { row := valsetOfUptoRow, standIns := [], harness := (true, "cf5e6f56a7795c81efd963fe7426bd6db46ce4c19af666aaeb939bed5102934d"), looks := true }, kinds := [], alts := [], laidByText := true, laidKinds := [.data, .data, .data, .sentinel, .sentinel], laidTests := true, laidLooks := .later }
def ValsetOfUptoCardSaid : Prop := Claim7.holds Tryz.pinned (.plain (OpenSpec.upto valsetOfSpec)) valsetOfUptoCard

/-- THE SECOND FORM's CARD OF 'sutlerlaw03.ValsetChecks'. -/
def valsetChecksUptoCard : Claim7 := { stood := { row := valsetChecksUptoRow, standIns := [], harness := (true, "cf5e6f56a7795c81efd963fe7426bd6db46ce4c19af666aaeb939bed5102934d"), looks := true }, kinds := [], alts := [], laidByText := true, laidKinds := [.data, .data, .data, .sentinel, .sentinel], laidTests := true, laidLooks := .later }
def ValsetChecksUptoCardSaid : Prop := Claim7.holds Tryz.pinned (.plain (OpenSpec.upto valsetChecksSpec)) valsetChecksUptoCard

/-- THE SECOND FORM's CARD OF 'sutlerlaw03.ValsetAsks'. -/
def valsetAsksUptoCard : Claim7 := { stood := { row := valsetAsksUptoRow, standIns := [], harness := (true, "cf5e6f56a7795c81efd963fe7426bd6db46ce4c19af666aaeb939bed5102934d"), looks := true }, kinds := [], alts := [], laidByText := true, laidKinds := [.data, .data, .data, .sentinel, .sentinel], laidTests := true, laidLooks := .later }
def ValsetAsksUptoCardSaid : Prop := Claim7.holds Tryz.pinned (.plain (OpenSpec.upto valsetAsksSpec)) valsetAsksUptoCard

/-- THE SECOND FORM's CARD OF 'sutlerlaw03.ValsetMeets'. -/
def valsetMeetsUptoCard : Claim7 := { stood := { row := valsetMeetsUptoRow, standIns := [], harness := (true, "cf5e6f56a7795c81efd963fe7426bd6db46ce4c19af666aaeb939bed5102934d"), looks := true }, kinds := [], alts := [], laidByText := true, laidKinds := [.data, .data, .data, .sentinel, .sentinel], laidTests := true, laidLooks := .later }
def ValsetMeetsUptoCardSaid : Prop := Claim7.holds Tryz.pinned (.plain (OpenSpec.upto valsetMeetsSpec)) valsetMeetsUptoCard
end Rows
end Go.Proofs.YtkeibapcfbajjaaGreatDoor
