/- Layer 7: rows of the call's own that are written over. -/
import Derived.Test.YtcpgodkgdceocaaCoV
namespace Go.Proofs.Ytcpgodkgdceocaa
open Go.RowKit Suf Val

/-- A row of the call's own, whatever it holds. -/
def RowX (W : World) (base : Nat) (T : TypeId) (sz : Nat) (v : Value) (n : Nat) : Prop := ∃ xs, W.ownsRow base T sz v n xs
theorem RowX.below {W W' : World} {base : Nat} {T : TypeId} {sz : Nat} {v : Value} {n : Nat} (h : RowX W base T sz v n) (hb : Below W.heap.size W W') : RowX W' base T sz v n := by
  obtain ⟨xs, h⟩ := h; exact ⟨xs, grow_below h hb⟩
theorem RowX.cell {W : World} {base : Nat} {T : TypeId} {sz n g c : Nat} (h : RowX W base T sz (.slice (some ⟨g, 0, none⟩) n c) n) {j : Nat} (hj : j < n * sz) : ∃ v, W.cell? ⟨g, j, none⟩ = some v := by
  obtain ⟨xs, h⟩ := h
  have hl := h.1
  exact ⟨_, by rw [h.cellAt j (by omega), List.getElem?_eq_getElem (by omega)]⟩
theorem RowX.frozen {W : World} {base : Nat} {T : TypeId} {sz n g c : Nat} (h : RowX W base T sz (.slice (some ⟨g, 0, none⟩) n c) n) (j : Nat) : W.frozen? ⟨g, j, none⟩ = false := by
  obtain ⟨xs, h⟩ := h; exact h.frozenAt j
theorem RowX.stored {W : World} {base : Nat} {T : TypeId} {sz n g c : Nat} (h : RowX W base T sz (.slice (some ⟨g, 0, none⟩) n c) n) (j : Nat) (v : Value) : RowX (W.setCell ⟨g, j, none⟩ v) base T sz (.slice (some ⟨g, 0, none⟩) n c) n := by
  obtain ⟨xs, h⟩ := h; exact ⟨_, (h.stored j v).1⟩
theorem RowX.ge {W : World} {base : Nat} {T : TypeId} {sz n g c : Nat} (h : RowX W base T sz (.slice (some ⟨g, 0, none⟩) n c) n) : base ≤ g := by
  obtain ⟨xs, h⟩ := h; exact (h.lt g rfl).1
theorem RowX.val {W : World} {base : Nat} {T : TypeId} {sz n : Nat} {v : Value} (h : RowX W base T sz v n) : (v = .slice none 0 0 ∧ n = 0) ∨ ∃ g c, v = .slice (some ⟨g, 0, none⟩) n c := by
  obtain ⟨xs, h⟩ := h
  rcases h.2 with h | ⟨g, cap, cur, e, _⟩
  · exact Or.inl h
  · exact Or.inr ⟨g, cap, e⟩
/-- Four cells written. -/
def put4 (W : World) (g j : Nat) (a b c d : Value) : World := (((W.setCell ⟨g, j, none⟩ a).setCell ⟨g, j + 1, none⟩ b).setCell ⟨g, j + 2, none⟩ c).setCell ⟨g, j + 3, none⟩ d
theorem RowX.put4 {W : World} {base : Nat} {T : TypeId} {sz n g cp : Nat} (h : RowX W base T sz (.slice (some ⟨g, 0, none⟩) n cp) n) (j : Nat) (a b c d : Value) : RowX (put4 W g j a b c d) base T sz (.slice (some ⟨g, 0, none⟩) n cp) n :=
  (((h.stored j a).stored (j + 1) b).stored (j + 2) c).stored (j + 3) d
theorem put4_below {w W : World} {base g : Nat} (h : Below base w W) (hg : base ≤ g) (j : Nat) (a b c d : Value) : Below base w (put4 W g j a b c d) :=
  (((h.setCell (p := ⟨g, j, none⟩) hg a).setCell (p := ⟨g, j + 1, none⟩) hg b).setCell (p := ⟨g, j + 2, none⟩) hg c).setCell (p := ⟨g, j + 3, none⟩) hg d
def put3 (W : World) (g j : Nat) (a b c : Value) : World := ((W.setCell ⟨g, j, none⟩ a).setCell ⟨g, j + 1, none⟩ b).setCell ⟨g, j + 2, none⟩ c
theorem RowX.put3 {W : World} {base : Nat} {T : TypeId} {sz n g cp : Nat} (h : RowX W base T sz (.slice (some ⟨g, 0, none⟩) n cp) n) (j : Nat) (a b c : Value) : RowX (put3 W g j a b c) base T sz (.slice (some ⟨g, 0, none⟩) n cp) n :=
  ((h.stored j a).stored (j + 1) b).stored (j + 2) c
theorem put3_below {w W : World} {base g : Nat} (h : Below base w W) (hg : base ≤ g) (j : Nat) (a b c : Value) : Below base w (put3 W g j a b c) :=
  ((h.setCell (p := ⟨g, j, none⟩) hg a).setCell (p := ⟨g, j + 1, none⟩) hg b).setCell (p := ⟨g, j + 2, none⟩) hg c
end Go.Proofs.Ytcpgodkgdceocaa
