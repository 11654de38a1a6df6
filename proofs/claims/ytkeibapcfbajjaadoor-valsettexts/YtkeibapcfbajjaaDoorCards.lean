/-
  DERIVED. GIVEN WITH THE SEED: THE CARDS: each row of YtkeibapcfbajjaaDoorRows.lean that lists a variable, with what it lists TIED to the program's text (the seventh form; the later family's looks); each row that meets fmt, with fmt's text TOLD by the authors' own Lean function (tested against real Go, not proved from fmt's source: count such statements apart). THE CARD IS WHAT COUNTS. Prove the row's statement (the work); the ties are given (YtkeibapcfbajjaaDoorTie.lean); close each card by the builder's one call (the guide's Derived/Test/ToyasCard.lean, 'card_holds'). Laid BY PROGRAM, IN A SANDBOX (cutbox-door.mjs). By AI agents, Wed Nov 11 2026. No macro, syntax, notation, axiom, sorry.
-/
import Derived.Test.YtkeibapcfbajjaaDoorRows
import GoSem.ClaimSeven
namespace Go.Proofs.YtkeibapcfbajjaaDoor
namespace Rows

/-- THE TIED CARD OF 'sutlerlaw03.ValsetNumbers'. -/
def valsetNumbersCard : Claim7 := { stood := { row := valsetNumbersRow, standIns := [], harness := (true, "9aaee2c13587cadf368ddd079f7d6e9190b78a7ddf55c2b67af71477cea97cfe"), looks := true }, kinds := [], alts := [], laidByText := true, laidKinds := [.data, .data, .data, .sentinel, .sentinel], laidTests := true, laidLooks := .later }
def ValsetNumbersCardSaid : Prop := Claim7.holds Tryd.pinned (.plain (OpenSpec.ofChange valsetNumbersSpec)) valsetNumbersCard

/-- THE TIED CARD OF 'sutlerlaw03.ValsetTexts'. -/
def valsetTextsCard : Claim7 := { stood := { row := valsetTextsRow, standIns := [], harness := (true, "9aaee2c13587cadf368ddd079f7d6e9190b78a7ddf55c2b67af71477cea97cfe"), looks := true }, kinds := [], alts := [], laidByText := true, laidKinds := [.data, .data, .data, .sentinel, .sentinel], laidTests := true, laidLooks := .later }
def ValsetTextsCardSaid : Prop := Claim7.holds Tryd.pinned (.plain (OpenSpec.ofChange valsetTextsSpec)) valsetTextsCard

/-- THE SECOND FORM's CARD OF 'sutlerlaw03.ValsetNumbers'. -/
def valsetNumbersUptoCard : Claim7 := { stood := { row := valsetNumbersUptoRow, standIns := [], harness := (true, "9aaee2c13587cadf368ddd079f7d6e9190b78a7ddf55c2b67af71477cea97cfe"), looks := true }, kinds := [], alts := [], laidByText := true, laidKinds := [.data, .data, .data, .sentinel, .sentinel], laidTests := true, laidLooks := .later }
def ValsetNumbersUptoCardSaid : Prop := Claim7.holds Tryd.pinned (.plain (OpenSpec.upto valsetNumbersSpec)) valsetNumbersUptoCard

/-- THE SECOND FORM's CARD OF 'sutlerlaw03.ValsetTexts'. -/
def valsetTextsUptoCard : Claim7 := { stood := { row := valsetTextsUptoRow, standIns := [], harness := (true, "9aaee2c13587cadf368ddd079f7d6e9190b78a7ddf55c2b67af71477cea97cfe"), looks := true }, kinds := [], alts := [], laidByText := true, laidKinds := [.data, .data, .data, .sentinel, .sentinel], laidTests := true, laidLooks := .later }
def ValsetTextsUptoCardSaid : Prop := Claim7.holds Tryd.pinned (.plain (OpenSpec.upto valsetTextsSpec)) valsetTextsUptoCard
end Rows
end Go.Proofs.YtkeibapcfbajjaaDoor
