/-
  DERIVED. GIVEN WITH THE SEED: THE CARDS: each row of YthaldbjnnbllbaaGreatDoorRows.lean that lists a variable, with what it lists TIED to the program's text (the seventh form; the later family's looks); each row that meets fmt, with fmt's text TOLD by the authors' own Lean function (tested against real Go, not proved from fmt's source: count such statements apart). THE CARD IS WHAT COUNTS. Prove the row's statement (the work); the ties are given (YthaldbjnnbllbaaGreatDoorTie.lean); close each card by the builder's one call (the guide's Derived/Test/ToyasCard.lean, 'card_holds'). Laid BY PROGRAM, IN A SANDBOX (cutbox-door.mjs). By AI agents, Wed Nov 11 2026. No macro, syntax, notation, axiom, sorry.
-/
import Derived.Test.YthaldbjnnbllbaaGreatDoorRows
import GoSem.ClaimSeven
namespace Go.Proofs.YthaldbjnnbllbaaGreatDoor
namespace Rows

/-- THE TIED CARD OF 'sutlerlaw08.ObjectChecks'. -/
def objectChecksCard : Claim7 := { stood := { row := objectChecksRow, standIns := [], harness := (true, "1a054f25ca2ba329f85306a13d401a6fc1b17770658d01760a56a3a7745a9d83"), looks := true }, kinds := [], alts := [], laidByText := true, laidKinds := [.data, .data, .data, .sentinel, .sentinel], laidTests := true, laidLooks := .later }
def ObjectChecksCardSaid : Prop := Claim7.holds Tryz.pinned (.plain (OpenSpec.ofChange objectChecksSpec)) objectChecksCard

/-- THE TIED CARD OF 'sutlerlaw08.ObjectLess'. -/
def objectLessCard : Claim7 := { stood := { row := objectLessRow, standIns := [], harness := (true, "1a054f25ca2ba329f85306a13d401a6fc1b17770658d01760a56a3a7745a9d83"), looks := true }, kinds := [], alts := [], laidByText := true, laidKinds := [.data, .data, .data, .sentinel, .sentinel], laidTests := true, laidLooks := .later }
def ObjectLessCardSaid : Prop := Claim7.holds Tryz.pinned (.plain (OpenSpec.ofChange objectLessSpec)) objectLessCard

/-- THE TIED CARD OF 'sutlerlaw08.ObjectNodes'. -/
def objectNodesCard : Claim7 := { stood := { row := objectNodesRow, standIns := [], harness := (true, "1a054f25ca2ba329f85306a13d401a6fc1b17770658d01760a56a3a7745a9d83"), looks := true }, kinds := [], alts := [], laidByText := true, laidKinds := [.data, .data, .data, .sentinel, .sentinel], laidTests := true, laidLooks := .later }
def ObjectNodesCardSaid : Prop := Claim7.holds Tryz.pinned (.plain (OpenSpec.ofChange objectNodesSpec)) objectNodesCard

/-- THE SECOND FORM's CARD OF 'sutlerlaw08.ObjectChecks'. -/
def objectChecksUptoCard : Claim7 := { stood := { row := objectChecksUptoRow, standIns := [], harness := (true, "1a054f25ca2ba329f85306a13d401a6fc1b17770658d01760a56a3a7745a9d83"), looks := true }, kinds := [], alts := [], laidByText := true, laidKinds := [.data, .data, .data, .sentinel, .sentinel], laidTests := true, laidLooks := .later }
def ObjectChecksUptoCardSaid : Prop := Claim7.holds Tryz.pinned (.plain (OpenSpec.upto objectChecksSpec)) objectChecksUptoCard

/-- THE SECOND FORM's CARD OF 'sutlerlaw08.ObjectLess'. -/
def objectLessUptoCard : Claim7 := { stood := { row := objectLessUptoRow, standIns := [], harness := (true, "1a054f25ca2ba329f85306a13d401a6fc1b17770658d01760a56a3a7745a9d83"), looks := true }, kinds := [], alts := [], laidByText := true, laidKinds := [.data, .data, .data, .sentinel, .sentinel], laidTests := true, laidLooks := .later }
def ObjectLessUptoCardSaid : Prop := Claim7.holds Tryz.pinned (.plain (OpenSpec.upto objectLessSpec)) objectLessUptoCard

/-- THE SECOND FORM's CARD OF 'sutlerlaw08.ObjectNodes'. -/
def objectNodesUptoCard : Claim7 := { stood := { row := objectNodesUptoRow, standIns := [], harness := (true, "1a054f25ca2ba329f85306a13d401a6fc1b17770658d01760a56a3a7745a9d83"), looks := true }, kinds := [], alts := [], laidByText := true, laidKinds := [.data, .data, .data, .sentinel, .sentinel], laidTests := true, laidLooks := .later }
def ObjectNodesUptoCardSaid : Prop := Claim7.holds Tryz.pinned (.plain (OpenSpec.upto objectNodesSpec)) objectNodesUptoCard
end Rows
end Go.Proofs.YthaldbjnnbllbaaGreatDoor
