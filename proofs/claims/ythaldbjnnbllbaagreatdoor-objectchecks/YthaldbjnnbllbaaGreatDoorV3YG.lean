/- Layer 3: contracts of the document's Check, Has, Empty. -/
import Derived.Test.YthaldbjnnbllbaaGreatDoorV3XG
import Derived.Test.YthaldbjnnbllbaaGreatDoorV3EG
namespace Go.Proofs.YthaldbjnnbllbaaGreatDoor
open Go.RowKit Suf Val

theorem within_num (lo hi : Int) (t : Txt) : within lo hi t = ((numR t).2 && (decide (lo < (numR t).1) && decide ((numR t).1 < hi))) := by
  unfold within numR
  cases numO t with
  | none => rfl
  | some n => simp
theorem check_q {miss no num : Bool} {l : List Txt} {lo hi : Int} (h : orderedB l = false) : checkB ⟨miss, no, num, l, lo, hi⟩ = false := by unfold checkB; rw [h]; rfl
theorem check_plain {miss no : Bool} {l : List Txt} {lo hi : Int} (h : orderedB l = true) : checkB ⟨miss, no, false, l, lo, hi⟩ = decide (lo = 0 ∧ hi = 0) := by unfold checkB; simp [h]
theorem check_nn {miss : Bool} {l : List Txt} {lo hi : Int} : checkB ⟨miss, false, true, l, lo, hi⟩ = false := by unfold checkB; simp
theorem check_num {miss : Bool} {l : List Txt} {lo hi : Int} (h : orderedB l = true) : checkB ⟨miss, true, true, l, lo, hi⟩ = (decide (-2147483648 ≤ lo ∧ hi ≤ 2147483648 ∧ lo ≤ hi ∧ 64 < hi - lo + 1 - (l.length : Int)) && l.all (within lo hi)) := by unfold checkB; simp [h]

theorem in_num {no num : Bool} {miss : Bool} {l : List Txt} {lo hi : Int} {x : Txt} : inB ⟨miss, no, num, l, lo, hi⟩ x = if no = true then (!l.contains x && (!num || ((numR x).2 && (decide (lo ≤ (numR x).1) && decide ((numR x).1 ≤ hi))))) else l.contains x := by
  unfold inB numR
  cases no <;> cases numO x <;> simp

end Go.Proofs.YthaldbjnnbllbaaGreatDoor
