/-
  DERIVED. GIVEN WITH THE SEED: THE CARDS: each row of YtkeibapcfbajjabDoorRows.lean that lists a variable, with what it lists TIED to the program's text (the seventh form; the later family's looks); each row that meets fmt, with fmt's text TOLD by the authors' own Lean function (tested against real Go, not proved from fmt's source: count such statements apart). THE CARD IS WHAT COUNTS. Prove the row's statement (the work); the ties are given (YtkeibapcfbajjabDoorTie.lean); close each card by the builder's one call (the guide's Derived/Test/ToyasCard.lean, 'card_holds'). Laid BY PROGRAM, IN A SANDBOX (cutbox-door.mjs). By AI agents, Wed Nov 11 2026. No macro, syntax, notation, axiom, sorry.
-/
import Derived.Test.YtkeibapcfbajjabDoorRows
import GoSem.ClaimSeven
namespace Go.Proofs.YtkeibapcfbajjabDoor
namespace Rows

/-- THE TIED CARD OF 'sutlerlaw03.ValsetBoth'. -/
def valsetBothCard : Claim7 := { stood := { row := valsetBothRow, standIns := [], harness := (true, "3e9d258db9476c0d2b128a030ce7767d359cee50ea2ee33a8af9ded21793e985"), looks := true }, kinds := [], alts := [], laidByText := true, laidKinds := [.data, .data, .data, .sentinel, .sentinel], laidTests := true, laidLooks := .later }
def ValsetBothCardSaid : Prop := Claim7.holds Tryd.pinned (.plain (OpenSpec.ofChange valsetBothSpec)) valsetBothCard

/-- THE TIED CARD OF 'sutlerlaw03.ValsetAdmits'. -/
def valsetAdmitsCard : Claim7 := { stood := { row := valsetAdmitsRow, standIns := [], harness := (true, "3e9d258db9476c0d2b128a030ce7767d359cee50ea2ee33a8af9ded21793e985"), looks := true }, kinds := [], alts := [], laidByText := true, laidKinds := [.data, .data, .data, .sentinel, .sentinel], laidTests := true, laidLooks := .later }
def ValsetAdmitsCardSaid : Prop := Claim7.holds Tryd.pinned (.plain (OpenSpec.ofChange valsetAdmitsSpec)) valsetAdmitsCard

/-- THE TIED CARD OF 'sutlerlaw03.ValsetTurns'. -/
def valsetTurnsCard : Claim7 := { stood := { row := valsetTurnsRow, standIns := [], harness := (true, "3e9d258db9476c0d2b128a030ce7767d359cee50ea2ee33a8af9ded21793e985"), looks := true }, kinds := [], alts := [], laidByText := true, laidKinds := [.data, .data, .data, .sentinel, .sentinel], laidTests := true, laidLooks := .later }
def ValsetTurnsCardSaid : Prop := Claim7.holds Tryd.pinned (.plain (OpenSpec.ofChange valsetTurnsSpec)) valsetTurnsCard

/-- THE SECOND FORM's CARD OF 'sutlerlaw03.ValsetBoth'. -/
def valsetBothUptoCard : Claim7 := { stood := { row := valsetBothUptoRow, standIns := [], harness := (true, "3e9d258db9476c0d2b128a030ce7767d359cee50ea2ee33a8af9ded21793e985"), looks := true }, kinds := [], alts := [], laidByText := true, laidKinds := [.data, .data, .data, .sentinel, .sentinel], laidTests := true, laidLooks := .later }
def ValsetBothUptoCardSaid : Prop := Claim7.holds Tryd.pinned (.plain (OpenSpec.upto valsetBothSpec)) valsetBothUptoCard

/-- THE SECOND FORM's CARD OF 'sutlerlaw03.ValsetAdmits'. -/
def valsetAdmitsUptoCard : Claim7 := { stood := { row := valsetAdmitsUptoRow, standIns := [], harness := (true, "3e9d258db9476c0d2b128a030ce7767d359cee50ea2ee33a8af9ded21793e985"), looks := true }, kinds := [], alts := [], laidByText := true, laidKinds := [.data, .data, .data, .sentinel, .sentinel], laidTests := true, laidLooks := .later }
def ValsetAdmitsUptoCardSaid : Prop := Claim7.holds Tryd.pinned (.plain (OpenSpec.upto valsetAdmitsSpec)) valsetAdmitsUptoCard

/-- THE SECOND FORM's CARD OF 'sutlerlaw03.ValsetTurns'. -/
def valsetTurnsUptoCard : Claim7 := { stood := { row := valsetTurnsUptoRow, standIns := [], harness := (true, "3e9d258db9476c0d2b128a030ce7767d359cee50ea2ee33a8af9ded21793e985"), looks := true }, kinds := [], alts := [], laidByText := true, laidKinds := [.data, .data, .data, .sentinel, .sentinel], laidTests := true, laidLooks := .later }
def ValsetTurnsUptoCardSaid : Prop := Claim7.holds Tryd.pinned (.plain (OpenSpec.upto valsetTurnsSpec)) valsetTurnsUptoCard
end Rows
end Go.Proofs.YtkeibapcfbajjabDoor
