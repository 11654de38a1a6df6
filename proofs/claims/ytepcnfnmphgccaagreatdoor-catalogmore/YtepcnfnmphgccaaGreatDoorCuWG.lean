/- Layer 6: arguments opened: a catalogue with its size; an offer. -/
import Derived.Test.YtepcnfnmphgccaaGreatDoorCuVG
import Derived.Test.YtepcnfnmphgccaaGreatDoorMpOffG
namespace Go.Proofs.YtepcnfnmphgccaaGreatDoor
open Go.ChangeShapes Go.WideShapes Go.ChangeAt Go.RowKit Suf Val

section
variable {H : Type} {enc : TypeId × Value → H} {W : World} {base : Nat} {spare : Nat → Bool} {held : Bool}
set_option maxRecDepth 100000 in
theorem open_types2 {v : Value} {d : DataW H} {p : List MemPlace} {r : Reach} {b0 : Nat} (hv : Value.okWide Tryz.prog W r b0 22 v) (h : DataW.Trod enc Tryz.prog W base spare held 22 v d p) (hz : ∀ k ∈ d.weights Tryz.prog 22, k ≤ reachBytes) :
    ∃ l, Lst typK W v l ∧ l.length * 96 ≤ reachBytes := by
  obtain ⟨a0, len, cap, rfl⟩ := okWide_slice Tryz.underlying22 hv
  obtain ⟨fuel, hf⟩ := h
  obtain ⟨l, hl, _, hb⟩ := open_lst (K := typK) Tryz.underlying22 typ_cells typ_bytes (by decide) (by decide) opens_typ hf hz
  exact ⟨l, hl, hb⟩
set_option maxRecDepth 100000 in
theorem open_off1 {v : Value} {d : DataW H} {p : List MemPlace} {r : Reach} {b0 : Nat} (hv : Value.okWide Tryz.prog W r b0 24 v) (h : DataW.Trod enc Tryz.prog W base spare held 24 v d p) (hz : ∀ k ∈ d.weights Tryz.prog 24, k ≤ reachBytes) :
    ∃ x : VOff, v = offA x ∧ okO x := by
  obtain ⟨cs, rfl, hsz⟩ := okWide_struct Tryz.underlying24 hv
  obtain ⟨fuel, hf⟩ := h
  obtain ⟨x, hx⟩ := opens_off _ _ _ hf hz
  obtain ⟨d1, d2, e0, ⟨rfl, h1⟩, e1, e2, rfl, ⟨rfl, h2⟩, ⟨rfl, h3⟩⟩ := hx
  refine ⟨x, ?_, h1, h2, h3⟩
  have hc : cs.toList = [.string (bytesT x.1), .string (bytesT x.2.1), .string (bytesT x.2.2)] := e0
  have : cs = #[.string (bytesT x.1), .string (bytesT x.2.1), .string (bytesT x.2.2)] := by
    apply Array.toList_inj.1
    exact hc
  rw [this]; rfl
end
end Go.Proofs.YtepcnfnmphgccaaGreatDoor
