/- How an element of a map reads: as itself. -/
import Derived.Test.YtfpfdnapamdhjaaGreatDoorKitAZ
import Derived.Lib.LaidTab
namespace Go.Proofs.YtfpfdnapamdhjaaGreatDoor
open Go.RowKit
/-- How an element of a map reads: as itself. -/
def selfElem (v : Value) : Option (DataW Value × List MemPlace) := some (.held v,[])
end Go.Proofs.YtfpfdnapamdhjaaGreatDoor
