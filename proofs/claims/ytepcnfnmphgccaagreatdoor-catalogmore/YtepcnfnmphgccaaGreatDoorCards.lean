/-
  DERIVED. GIVEN WITH THE SEED: THE CARDS: each row of YtepcnfnmphgccaaGreatDoorRows.lean that lists a variable, with what it lists TIED to the program's text (the seventh form; the later family's looks); each row that meets fmt, with fmt's text TOLD by the authors' own Lean function (tested against real Go, not proved from fmt's source: count such statements apart). THE CARD IS WHAT COUNTS. Prove the row's statement (the work); the ties are given (YtepcnfnmphgccaaGreatDoorTie.lean); close each card by the builder's one call (the guide's Derived/Test/ToyasCard.lean, 'card_holds'). Laid BY PROGRAM, IN A SANDBOX (cutbox-door.mjs). By AI agents, Wed Nov 11 2026. No macro, syntax, notation, axiom, sorry.
-/
import Derived.Test.YtepcnfnmphgccaaGreatDoorRows
import GoSem.ClaimSeven
namespace Go.Proofs.YtepcnfnmphgccaaGreatDoor
namespace Rows

/-- THE TIED CARD OF 'sutlerlaw06.CatalogAsks'. -/
def catalogAsksCard : Claim7 := { stood := { row := catalogAsksRow, standIns := [], harness := (true, "dc0726cf03616b5322f30b5b025847a9a015bba6d736fcdec4da5f01d45da111"), looks := true }, kinds := [], alts := [], laidByText := true, laidKinds := [.data, .data, .data, .sentinel, .sentinel], laidTests := true, laidLooks := .later }
def CatalogAsksCardSaid : Prop := Claim7.holds Tryz.pinned (.plain (OpenSpec.ofChange catalogAsksSpec)) catalogAsksCard

/-- THE TIED CARD OF 'sutlerlaw06.CatalogOrders'. -/
def catalogOrdersCard : Claim7 := { stood := { row := catalogOrdersRow, standIns := [], harness := (true, "dc0726cf03616b5322f30b5b025847a9a015bba6d736fcdec4da5f01d45da111"), looks := true }, kinds := [], alts := [], laidByText := true, laidKinds := [.data, .data, .data, .sentinel, .sentinel], laidTests := true, laidLooks := .later }
def CatalogOrdersCardSaid : Prop := Claim7.holds Tryz.pinned (.plain (OpenSpec.ofChange catalogOrdersSpec)) catalogOrdersCard

/-- THE TIED CARD OF 'sutlerlaw06.CatalogMatches'. -/
def catalogMatchesCard : Claim7 := { stood := { row := catalogMatchesRow, standIns := [], harness := (true, "dc0726cf03616b5322f30b5b025847a9a015bba6d736fcdec4da5f01d45da111"), looks := true }, kinds := [], alts := [], laidByText := true, laidKinds := [.data, .data, .data, .sentinel, .sentinel], laidTests := true, laidLooks := .later }
def CatalogMatchesCardSaid : Prop := Claim7.holds Tryz.pinned (.plain (OpenSpec.ofChange catalogMatchesSpec)) catalogMatchesCard

/-- THE TIED CARD OF 'sutlerlaw06.CatalogBoth'. -/
def catalogBothCard : Claim7 := { stood := { row := catalogBothRow, standIns := [], harness := (true, "dc0726cf03616b5322f30b5b025847a9a015bba6d736fcdec4da5f01d45da111"), looks := true }, kinds := [], alts := [], laidByText := true, laidKinds := [.data, .data, .data, .sentinel, .sentinel], laidTests := true, laidLooks := .later }
def CatalogBothCardSaid : Prop := Claim7.holds Tryz.pinned (.plain (OpenSpec.ofChange catalogBothSpec)) catalogBothCard

/-- THE TIED CARD OF 'sutlerlaw06.CatalogMore'. -/
def catalogMoreCard : Claim7 := { stood := { row := catalogMoreRow, standIns := [], harness := (true, "dc0726cf03616b5322f30b5b025847a9a015bba6d736fcdec4da5f01d45da111"), looks := true }, kinds := [], alts := [], laidByText := true, laidKinds := [.data, .data, .data, .sentinel, .sentinel], laidTests := true, laidLooks := .later }
def CatalogMoreCardSaid : Prop := Claim7.holds Tryz.pinned (.plain (OpenSpec.ofChange catalogMoreSpec)) catalogMoreCard

/-- THE SECOND FORM's CARD OF 'sutlerlaw06.CatalogAsks'. -/
def catalogAsksUptoCard : Claim7 := { stood := { row := catalogAsksUptoRow, standIns := [], harness := (true, "dc0726cf03616b5322f30b5b025847a9a015bba6d736fcdec4da5f01d45da111"), looks := true }, kinds := [], alts := [], laidByText := true, laidKinds := [.data, .data, .data, .sentinel, .sentinel], laidTests := true, laidLooks := .later }
def CatalogAsksUptoCardSaid : Prop := Claim7.holds Tryz.pinned (.plain (OpenSpec.upto catalogAsksSpec)) catalogAsksUptoCard

/-- THE SECOND FORM's CARD OF 'sutlerlaw06.CatalogOrders'. -/
def catalogOrdersUptoCard : Claim7 := { stood := { row := catalogOrdersUptoRow, standIns := [], harness := (true, "dc0726cf03616b5322f30b5b025847a9a015bba6d736fcdec4da5f01d45da111"), looks := true }, kinds := [], alts := [], laidByText := true, laidKinds := [.data, .data, .data, .sentinel, .sentinel], laidTests := true, laidLooks := .later }
def CatalogOrdersUptoCardSaid : Prop := Claim7.holds Tryz.pinned (.plain (OpenSpec.upto catalogOrdersSpec)) catalogOrdersUptoCard

/-- THE SECOND FORM's CARD OF 'sutlerlaw06.CatalogMatches'. -/
def catalogMatchesUptoCard : Claim7 := { stood := { row := catalogMatchesUptoRow, standIns := [], harness := (true, "dc0726cf03616b5322f30b5b025847a9a015bba6d736fcdec4da5f01d45da111"), looks := true }, kinds := [], alts := [], laidByText := true, laidKinds := [.data, .data, .data, .sentinel, .sentinel], laidTests := true, laidLooks := .later }
def CatalogMatchesUptoCardSaid : Prop := Claim7.holds Tryz.pinned (.plain (OpenSpec.upto catalogMatchesSpec)) catalogMatchesUptoCard

/-- THE SECOND FORM's CARD OF 'sutlerlaw06.CatalogBoth'. -/
def catalogBothUptoCard : Claim7 := { stood := { row := catalogBothUptoRow, standIns := [], harness := (true, "dc0726cf03616b5322f30b5b025847a9a015bba6d736fcdec4da5f01d45da111"), looks := true }, kinds := [], alts := [], laidByText := true, laidKinds := [.data, .data, .data, .sentinel, .sentinel], laidTests := true, laidLooks := .later }
def CatalogBothUptoCardSaid : Prop := Claim7.holds Tryz.pinned (.plain (OpenSpec.upto catalogBothSpec)) catalogBothUptoCard

/-- THE SECOND FORM's CARD OF 'sutlerlaw06.CatalogMore'. -/
def catalogMoreUptoCard : Claim7 := { stood := { row := catalogMoreUptoRow, standIns := [], harness := (true, "dc0726cf03616b5322f30b5b025847a9a015bba6d736fcdec4da5f01d45da111"), looks := true }, kinds := [], alts := [], laidByText := true, laidKinds := [.data, .data, .data, .sentinel, .sentinel], laidTests := true, laidLooks := .later }
def CatalogMoreUptoCardSaid : Prop := Claim7.holds Tryz.pinned (.plain (OpenSpec.upto catalogMoreSpec)) catalogMoreUptoCard
end Rows
end Go.Proofs.YtepcnfnmphgccaaGreatDoor
