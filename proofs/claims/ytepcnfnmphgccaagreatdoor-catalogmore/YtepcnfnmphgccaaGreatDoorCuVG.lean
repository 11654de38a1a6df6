/- Layer 6: an argument that is a type opened. -/
import Derived.Test.YtepcnfnmphgccaaGreatDoorCuUG
import Derived.Test.YtepcnfnmphgccaaGreatDoorCtAG
namespace Go.Proofs.YtepcnfnmphgccaaGreatDoor
open Go.ChangeShapes Go.WideShapes Go.ChangeAt Go.RowKit Suf Val

section
variable {H : Type} {enc : TypeId × Value → H} {W : World} {base : Nat} {spare : Nat → Bool} {held : Bool}
set_option maxRecDepth 100000 in
theorem open_typ {v : Value} {d : DataW H} {p : List MemPlace} {r : Reach} {b0 : Nat} (hv : Value.okWide Tryz.prog W r b0 57 v) (h : DataW.Trod enc Tryz.prog W base spare held 57 v d p) (hz : ∀ k ∈ d.weights Tryz.prog 57, k ≤ reachBytes) :
    ∃ (t : VType) (u1 u2 : Value), v = typA t u1 u2 ∧ short t.name ∧ Lst labK W u1 t.labs ∧ Lst ofgK W u2 t.offs := by
  obtain ⟨cs, rfl, hsz⟩ := okWide_struct Tryz.underlying57 hv
  obtain ⟨fuel, hf⟩ := h
  obtain ⟨t, ht⟩ := opens_typ _ _ _ hf hz
  obtain ⟨_, _, e0, ⟨rfl, s0⟩, _, _, rfl, ⟨_, _, rfl, rfl, rfl⟩, _, _, rfl, ⟨_, _, rfl, rfl, rfl⟩, _, _, rfl, ⟨v1, rfl, l1⟩, v2, rfl, l2⟩ := ht
  refine ⟨t, v1, v2, ?_, s0, l1, l2⟩
  have hc : cs.toList = [.string (bytesT t.name), .int .i64 t.cap.1, .int .i64 t.cap.2, .int .i64 t.ovr.1, .int .i64 t.ovr.2, v1, v2] := e0
  have : cs = #[.string (bytesT t.name), .int .i64 t.cap.1, .int .i64 t.cap.2, .int .i64 t.ovr.1, .int .i64 t.ovr.2, v1, v2] := by
    apply Array.toList_inj.1
    exact hc
  rw [this]; rfl
end
end Go.Proofs.YtepcnfnmphgccaaGreatDoor
