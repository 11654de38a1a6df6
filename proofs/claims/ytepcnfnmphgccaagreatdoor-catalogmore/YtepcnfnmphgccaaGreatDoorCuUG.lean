/- Layer 6: arguments that are catalogues opened. -/
import Derived.Test.YtepcnfnmphgccaaGreatDoorRepAG
import Derived.Test.YtepcnfnmphgccaaGreatDoorCuTG
namespace Go.Proofs.YtepcnfnmphgccaaGreatDoor
open Go.ChangeShapes Go.WideShapes Go.ChangeAt Go.RowKit Suf Val

section
variable {H : Type} {enc : TypeId × Value → H} {W : World} {base : Nat} {spare : Nat → Bool} {held : Bool}
set_option maxRecDepth 100000 in
theorem open_types {v : Value} {d : DataW H} {p : List MemPlace} {r : Reach} {b0 : Nat} (hv : Value.okWide Tryz.prog W r b0 22 v) (h : DataW.Trod enc Tryz.prog W base spare held 22 v d p) (hz : ∀ k ∈ d.weights Tryz.prog 22, k ≤ reachBytes) :
    ∃ l, Lst typK W v l := by
  obtain ⟨a0, len, cap, rfl⟩ := okWide_slice Tryz.underlying22 hv
  obtain ⟨fuel, hf⟩ := h
  obtain ⟨l, hl, _⟩ := open_lst (K := typK) Tryz.underlying22 typ_cells typ_bytes (by decide) (by decide) opens_typ hf hz
  exact ⟨l, hl⟩
end
end Go.Proofs.YtepcnfnmphgccaaGreatDoor
