/- Layer 3: contract of the document's listed. -/
import Derived.Test.YthaldbjnnbllbaaGreatDoorV3NUG
import Derived.Test.YthaldbjnnbllbaaGreatDoorV3APG
import Derived.Deep.RegionLaw
namespace Go.Proofs.YthaldbjnnbllbaaGreatDoor
open Go.RowKit Suf Val Go.Maps

/-- A set's variable, free to be written. -/
def Box6 (W : World) (B : Nat) (a b c d e f : Value) : Prop := Six W B a b c d e f ∧ (∀ o, W.frozen? ⟨B, o, none⟩ = false) ∧ B < W.heap.size
theorem Box6.below {w w' : World} {B : Nat} {a b c d e f : Value} (h : Box6 w B a b c d e f) (hb : Below w.heap.size w w') : Box6 w' B a b c d e f := ⟨h.1.below hb, fun o => by rw [hb.frozen (p := ⟨B, o, none⟩) h.2.2]; exact h.2.1 o, Nat.lt_of_lt_of_le h.2.2 hb.size⟩
theorem frozen_other {w w' : World} {r : Option Nat} (hg : w.grownBy w' r) {p : Addr} (hlt : p.block < w.heap.size) (hne : ∀ k, r = some k → p.block ≠ k) : w'.frozen? p = w.frozen? p := by
  have := hg.block p.block hlt (fun e => hne p.block e.symm rfl)
  unfold World.frozen?
  rw [this]
theorem Box6.other {w w' : World} {r : Option Nat} {B : Nat} {a b c d e f : Value} (h : Box6 w B a b c d e f) (hg : w.grownBy w' r) (hne : ∀ k, r = some k → B ≠ k) : Box6 w' B a b c d e f :=
  ⟨h.1.other hg hne, fun o => by rw [frozen_other hg (p := ⟨B, o, none⟩) h.2.2 hne]; exact h.2.1 o, Nat.lt_of_lt_of_le h.2.2 hg.size⟩
theorem Slot.other {w w' : World} {r : Option Nat} {B : Nat} (h : Slot w B) (hg : w.grownBy w' r) (hne : ∀ k, r = some k → B ≠ k) : Slot w' B :=
  ⟨h.1.other hg hne, fun o => by rw [frozen_other hg (p := ⟨B, o, none⟩) h.2.2 hne]; exact h.2.1 o, Nat.lt_of_lt_of_le h.2.2 hg.size⟩
theorem box6_new (w : World) (a b c d e f : Value) (t : TypeId) : Box6 (w.alloc (.cells #[a, b, c, d, e, f] t)) w.heap.size a b c d e f :=
  ⟨six_new _ _ _ _ _ _ _ _, fun o => by simp [go_sem], by simp⟩
theorem Box6.set3 {w : World} {B : Nat} {a b c d e f : Value} (h : Box6 w B a b c d e f) (x : Value) : Box6 (w.setCell ⟨B, 3, none⟩ x) B a b c x e f := by
  obtain ⟨⟨h0, h1, h2, h3, h4, h5⟩, hf, hl⟩ := h
  refine ⟨⟨?_, ?_, ?_, World.cell?_setCell_same _ _ _ h3, ?_, ?_⟩, fun o => by rw [World.frozen?_setCell]; exact hf o, by simpa using hl⟩
  all_goals
    rw [World.cell?_setCell_other _ _ _ _ (by simp)]; assumption
theorem Box6.set0 {w : World} {B : Nat} {a b c d e f : Value} (h : Box6 w B a b c d e f) (x : Value) : Box6 (w.setCell ⟨B, 0, none⟩ x) B x b c d e f := by
  obtain ⟨⟨h0, h1, h2, h3, h4, h5⟩, hf, hl⟩ := h
  refine ⟨⟨World.cell?_setCell_same _ _ _ h0, ?_, ?_, ?_, ?_, ?_⟩, fun o => by rw [World.frozen?_setCell]; exact hf o, by simpa using hl⟩
  all_goals
    rw [World.cell?_setCell_other _ _ _ _ (by simp)]; assumption

theorem c7_next {V W W' : World} {p0 p1 p2 p3 p4 p5 p6 : Addr} {v0 v1 v2 v3 v4 v5 v6 : Value} (h : Hid (Below V.heap.size V W) ∧ W.cell? p0 = some v0 ∧ W.cell? p1 = some v1 ∧ W.cell? p2 = some v2 ∧ W.cell? p3 = some v3 ∧ W.cell? p4 = some v4 ∧ W.cell? p5 = some v5 ∧ W.cell? p6 = some v6) (hb : Below W.heap.size W W') : Hid (Below V.heap.size V W') ∧ W'.cell? p0 = some v0 ∧ W'.cell? p1 = some v1 ∧ W'.cell? p2 = some v2 ∧ W'.cell? p3 = some v3 ∧ W'.cell? p4 = some v4 ∧ W'.cell? p5 = some v5 ∧ W'.cell? p6 = some v6 :=
  ⟨chain (unhide h.1) hb, cell_kept hb (h.2.1), cell_kept hb (h.2.2.1), cell_kept hb (h.2.2.2.1), cell_kept hb (h.2.2.2.2.1), cell_kept hb (h.2.2.2.2.2.1), cell_kept hb (h.2.2.2.2.2.2.1), cell_kept hb (h.2.2.2.2.2.2.2)⟩
theorem c7_drew {V W : World} {p0 p1 p2 p3 p4 p5 p6 : Addr} {v0 v1 v2 v3 v4 v5 v6 : Value} (h : Hid (Below V.heap.size V W) ∧ W.cell? p0 = some v0 ∧ W.cell? p1 = some v1 ∧ W.cell? p2 = some v2 ∧ W.cell? p3 = some v3 ∧ W.cell? p4 = some v4 ∧ W.cell? p5 = some v5 ∧ W.cell? p6 = some v6) : Hid (Below V.heap.size V W.drew) ∧ W.drew.cell? p0 = some v0 ∧ W.drew.cell? p1 = some v1 ∧ W.drew.cell? p2 = some v2 ∧ W.drew.cell? p3 = some v3 ∧ W.drew.cell? p4 = some v4 ∧ W.drew.cell? p5 = some v5 ∧ W.drew.cell? p6 = some v6 :=
  ⟨(unhide h.1).drew, h.2.1, h.2.2.1, h.2.2.2.1, h.2.2.2.2.1, h.2.2.2.2.2.1, h.2.2.2.2.2.2.1, h.2.2.2.2.2.2.2⟩

end Go.Proofs.YthaldbjnnbllbaaGreatDoor
