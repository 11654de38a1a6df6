/-
  DERIVED. GIVEN WITH THE SEED: THE CARDS: each row of YthjcmcnhidgcjaaGreatDoorRows.lean that lists a variable, with what it lists TIED to the program's text (the seventh form; the later family's looks); each row that meets fmt, with fmt's text TOLD by the authors' own Lean function (tested against real Go, not proved from fmt's source: count such statements apart). THE CARD IS WHAT COUNTS. Prove the row's statement (the work); the ties are given (YthjcmcnhidgcjaaGreatDoorTie.lean); close each card by the builder's one call (the guide's Derived/Test/ToyasCard.lean, 'card_holds'). Laid BY PROGRAM, IN A SANDBOX (cutbox-door.mjs). By AI agents, Wed Nov 11 2026. No macro, syntax, notation, axiom, sorry.
-/
import Derived.Test.YthjcmcnhidgcjaaGreatDoorRows
import GoSem.ClaimSeven
namespace Go.Proofs.YthjcmcnhidgcjaaGreatDoor
namespace Rows

/-- THE TIED CARD OF 'sutlerlaw06.CatalogNumbers'. -/
def catalogNumbersCard : Claim7 := { stood := { row := catalogNumbersRow, standIns := [], harness := (true, "bda28bf8ac54d4fc93174cf7c154c0655483c5c0ab11704f2673ac83d1e3f066"), looks := true }, kinds := [], alts := [], laidByText := true, laidKinds := [.data, .data, .data, .sentinel, .sentinel], laidTests := true, laidLooks := .later }
def CatalogNumbersCardSaid : Prop := Claim7.holds Tryz.pinned (.plain (OpenSpec.ofChange catalogNumbersSpec)) catalogNumbersCard

/-- THE TIED CARD OF 'sutlerlaw06.CatalogChecks'. -/
def catalogChecksCard : Claim7 := { stood := { row := catalogChecksRow, standIns := [], harness := (true, "bda28bf8ac54d4fc93174cf7c154c0655483c5c0ab11704f2673ac83d1e3f066"), looks := true }, kinds := [], alts := [], laidByText := true, laidKinds := [.data, .data, .data, .sentinel, .sentinel], laidTests := true, laidLooks := .later }
def CatalogChecksCardSaid : Prop := Claim7.holds Tryz.pinned (.plain (OpenSpec.ofChange catalogChecksSpec)) catalogChecksCard

/-- THE TIED CARD OF 'sutlerlaw06.CatalogAsks'. -/
def catalogAsksCard : Claim7 := { stood := { row := catalogAsksRow, standIns := [], harness := (true, "bda28bf8ac54d4fc93174cf7c154c0655483c5c0ab11704f2673ac83d1e3f066"), looks := true }, kinds := [], alts := [], laidByText := true, laidKinds := [.data, .data, .data, .sentinel, .sentinel], laidTests := true, laidLooks := .later }
def CatalogAsksCardSaid : Prop := Claim7.holds Tryz.pinned (.plain (OpenSpec.ofChange catalogAsksSpec)) catalogAsksCard

/-- THE TIED CARD OF 'sutlerlaw06.CatalogOrders'. -/
def catalogOrdersCard : Claim7 := { stood := { row := catalogOrdersRow, standIns := [], harness := (true, "bda28bf8ac54d4fc93174cf7c154c0655483c5c0ab11704f2673ac83d1e3f066"), looks := true }, kinds := [], alts := [], laidByText := true, laidKinds := [.data, .data, .data, .sentinel, .sentinel], laidTests := true, laidLooks := .later }
def CatalogOrdersCardSaid : Prop := Claim7.holds Tryz.pinned (.plain (OpenSpec.ofChange catalogOrdersSpec)) catalogOrdersCard

/-- THE TIED CARD OF 'sutlerlaw06.CatalogMatches'. -/
def catalogMatchesCard : Claim7 := { stood := { row := catalogMatchesRow, standIns := [], harness := (true, "bda28bf8ac54d4fc93174cf7c154c0655483c5c0ab11704f2673ac83d1e3f066"), looks := true }, kinds := [], alts := [], laidByText := true, laidKinds := [.data, .data, .data, .sentinel, .sentinel], laidTests := true, laidLooks := .later }
def CatalogMatchesCardSaid : Prop := Claim7.holds Tryz.pinned (.plain (OpenSpec.ofChange catalogMatchesSpec)) catalogMatchesCard

/-- THE TIED CARD OF 'sutlerlaw06.CatalogRises'. -/
def catalogRisesCard : Claim7 := { stood := { row := catalogRisesRow, standIns := [], harness := (true, "bda28bf8ac54d4fc93174cf7c154c0655483c5c0ab11704f2673ac83d1e3f066"), looks := true }, kinds := [], alts := [], laidByText := true, laidKinds := [.data, .data, .data, .sentinel, .sentinel], laidTests := true, laidLooks := .later }
def CatalogRisesCardSaid : Prop := Claim7.holds Tryz.pinned (.plain (OpenSpec.ofChange catalogRisesSpec)) catalogRisesCard

/-- THE SECOND FORM's CARD OF 'sutlerlaw06.CatalogNumbers'. -/
def catalogNumbersUptoCard : Claim7 := { stood := { row := catalogNumbersUptoRow, standIns := [], harness := (true, "bda28bf8ac54d4fc93174cf7c154c0655483c5c0ab11704f2673ac83d1e3f066"), looks := true }, kinds := [], alts := [], laidByText := true, laidKinds := [.data, .data, .data, .sentinel, .sentinel], laidTests := true, laidLooks := .later }
def CatalogNumbersUptoCardSaid : Prop := Claim7.holds Tryz.pinned (.plain (OpenSpec.upto catalogNumbersSpec)) catalogNumbersUptoCard

/-- THE SECOND FORM's CARD OF 'sutlerlaw06.CatalogChecks'. -/
def catalogChecksUptoCard : Claim7 := { stood := { row := catalogChecksUptoRow, standIns := [], harness := (true, "bda28bf8ac54d4fc93174cf7c154c0655483c5c0ab11704f2673ac83d1e3f066"), looks := true }, kinds := [], alts := [], laidByText := true, laidKinds := [.data, .data, .data, .sentinel, .sentinel], laidTests := true, laidLooks := .later }
def CatalogChecksUptoCardSaid : Prop := Claim7.holds Tryz.pinned (.plain (OpenSpec.upto catalogChecksSpec)) catalogChecksUptoCard

/-- THE SECOND FORM's CARD OF 'sutlerlaw06.CatalogAsks'. -/
def catalogAsksUptoCard : Claim7 := { stood := { row := catalogAsksUptoRow, standIns := [], harness := (true, "bda28bf8ac54d4fc93174cf7c154c0655483c5c0ab11704f2673ac83d1e3f066"), looks := true }, kinds := [], alts := [], laidByText := true, laidKinds := [.data, .data, .data, .sentinel, .sentinel], laidTests := true, laidLooks := .later }
def CatalogAsksUptoCardSaid : Prop := Claim7.holds Tryz.pinned (.plain (OpenSpec.upto catalogAsksSpec)) catalogAsksUptoCard

/-- THE SECOND FORM's CARD OF 'sutlerlaw06.CatalogOrders'. -/
def catalogOrdersUptoCard : Claim7 := { stood := { row := catalogOrdersUptoRow, standIns := [], harness := (true, "bda28bf8ac54d4fc93174cf7c154c0655483c5c0ab11704f2673ac83d1e3f066"), looks := true }, kinds := [], alts := [], laidByText := true, laidKinds := [.data, .data, .data, .sentinel, .sentinel], laidTests := true, laidLooks := .later }
def CatalogOrdersUptoCardSaid : Prop := Claim7.holds Tryz.pinned (.plain (OpenSpec.upto catalogOrdersSpec)) catalogOrdersUptoCard

/-- THE SECOND FORM's CARD OF 'sutlerlaw06.CatalogMatches'. -/
def catalogMatchesUptoCard : Claim7 := { stood := { row := catalogMatchesUptoRow, standIns := [], harness := (true, "bda28bf8ac54d4fc93174cf7c154c0655483c5c0ab11704f2673ac83d1e3f066"), looks := true }, kinds := [], alts := [], laidByText := true, laidKinds := [.data, .data, .data, .sentinel, .sentinel], laidTests := true, laidLooks := .later }
def CatalogMatchesUptoCardSaid : Prop := Claim7.holds Tryz.pinned (.plain (OpenSpec.upto catalogMatchesSpec)) catalogMatchesUptoCard

/-- THE SECOND FORM's CARD OF 'sutlerlaw06.CatalogRises'. -/
def catalogRisesUptoCard : Claim7 := { stood := { row := catalogRisesUptoRow, standIns := [], harness := (true, "bda28bf8ac54d4fc93174cf7c154c0655483c5c0ab11704f2673ac83d1e3f066"), looks := true }, kinds := [], alts := [], laidByText := true, laidKinds := [.data, .data, .data, .sentinel, .sentinel], laidTests := true, laidLooks := .later }
def CatalogRisesUptoCardSaid : Prop := Claim7.holds Tryz.pinned (.plain (OpenSpec.upto catalogRisesSpec)) catalogRisesUptoCard
end Rows
end Go.Proofs.YthjcmcnhidgcjaaGreatDoor
