/- Layer 6,plain mathematics alone: lists in a strict order; offers in theirs; one laid among others. No program is named. -/
import Derived.Test.YtfpfdnapamdhjaaGreatDoorRqAGZ
namespace Go.Proofs.YtfpfdnapamdhjaaGreatDoor.Val
open Suf

section
variable {α : Type} {r : α -> α -> Bool}
variable [DecidableEq α]
end

/-! Offers in their order. -/
abbrev VOff := Txt × Txt × Txt
def lessO (a b : VOff) : Bool := if a.1 = b.1 then (if a.2.1 = b.2.1 then lt a.2.2 b.2.2 else lt a.2.1 b.2.1) else lt a.1 b.1
end Go.Proofs.YtfpfdnapamdhjaaGreatDoor.Val
