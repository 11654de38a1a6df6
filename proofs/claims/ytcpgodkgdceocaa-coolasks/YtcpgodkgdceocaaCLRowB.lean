/- Layer 7: a row of offers of the call's own that is written over, one after another; others stay. -/
import Derived.Test.YtcpgodkgdceocaaCLRow
namespace Go.Proofs.Ytcpgodkgdceocaa
open Go.RowKit Suf Val

theorem flatO_cons (x : VOff) (l : List VOff) : flatO (x :: l) = [.string (bytesT x.1), .string (bytesT x.2.1), .string (bytesT x.2.2)] ++ flatO l := rfl
/-- Those from the k-th on are still there. -/
def LeftO (W : World) (base : Nat) (v : Value) (R : List VOff) (n k : Nat) : Prop := ∃ xs, W.ownsRow base 23 3 v n xs ∧ xs.drop (k * 3) = flatO (R.drop k)
theorem LeftO.start {W : World} {base n : Nat} {v : Value} {R : List VOff} (h : OwnO W base v R) (hn : n = R.length) : LeftO W base v R n 0 := ⟨_, by rw [hn]; exact h.1, rfl⟩
theorem LeftO.below {W W' : World} {base n k : Nat} {v : Value} {R : List VOff} (h : LeftO W base v R n k) (hb : Below W.heap.size W W') : LeftO W' base v R n k := by
  obtain ⟨xs, h, e⟩ := h; exact ⟨xs, grow_below h hb, e⟩
theorem LeftO.rowX {W : World} {base n k : Nat} {v : Value} {R : List VOff} (h : LeftO W base v R n k) : RowX W base 23 3 v n := by
  obtain ⟨xs, h, _⟩ := h; exact ⟨xs, h⟩
theorem LeftO.cells {W : World} {base g c n k : Nat} {R : List VOff} (h : LeftO W base (.slice (some ⟨g, 0, none⟩) n c) R n k) (hn : n = R.length) (hk : k < R.length) :
    W.cell? ⟨g, k * 3, none⟩ = some (.string (bytesT R[k].1)) ∧ W.cell? ⟨g, k * 3 + 1, none⟩ = some (.string (bytesT R[k].2.1)) ∧ W.cell? ⟨g, k * 3 + 2, none⟩ = some (.string (bytesT R[k].2.2)) := by
  obtain ⟨xs, h, e⟩ := h
  rw [List.drop_eq_getElem_cons hk, flatO_cons] at e
  have hx : ∀ i, i < 3 → xs[k * 3 + i]? = ([Value.string (bytesT R[k].1), .string (bytesT R[k].2.1), .string (bytesT R[k].2.2)])[i]? := fun i hi => by
    rw [← List.getElem?_drop, e, List.getElem?_append_left (by simpa using hi)]
  refine ⟨?_, ?_, ?_⟩
  · rw [h.cellAt (k * 3) (by omega)]; have := hx 0 (by omega); rw [Nat.add_zero] at this; rw [this]; rfl
  · rw [h.cellAt (k * 3 + 1) (by omega), hx 1 (by omega)]; rfl
  · rw [h.cellAt (k * 3 + 2) (by omega), hx 2 (by omega)]; rfl
theorem LeftO.put3 {W : World} {base g cp n k : Nat} {R : List VOff} (h : LeftO W base (.slice (some ⟨g, 0, none⟩) n cp) R n k) (hk : k < R.length) (a b c : Value) : LeftO (put3 W g (k * 3) a b c) base (.slice (some ⟨g, 0, none⟩) n cp) R n (k + 1) := by
  obtain ⟨xs, h, e⟩ := h
  refine ⟨_, (((h.stored (k * 3) a).1.stored (k * 3 + 1) b).1.stored (k * 3 + 2) c).1, ?_⟩
  rw [List.drop_set_of_lt (by omega), List.drop_set_of_lt (by omega), List.drop_set_of_lt (by omega), show (k + 1) * 3 = k * 3 + 3 by omega, ← List.drop_drop, e, List.drop_eq_getElem_cons hk, flatO_cons]
  rfl
theorem put3_grown {W : World} {base g cp n : Nat} {T : TypeId} {sz : Nat} (h : RowX W base T sz (.slice (some ⟨g, 0, none⟩) n cp) n) (j : Nat) (a b c : Value) : W.grownBy (put3 W g j a b c) (some g) := by
  obtain ⟨xs, h⟩ := h
  have h1 := h.stored j a
  have h2 := h1.1.stored (j + 1) b
  have h3 := h2.1.stored (j + 2) c
  exact (h1.2.trans h2.2).trans h3.2
theorem OwnO.other {W W' : World} {base g : Nat} {v : Value} {l : List VOff} (h : OwnO W base v l) (hg : W.grownBy W' (some g)) (hlt : g < base) : OwnO W' base v l :=
  ⟨grow_other h.1 hg (fun k hk e => by have := (h.1.lt k e).1; injection hk with hk; omega), h.2⟩
theorem RowX.other {W W' : World} {base g n : Nat} {T : TypeId} {sz : Nat} {v : Value} (h : RowX W base T sz v n) (hg : W.grownBy W' (some g)) (hlt : g < base) : RowX W' base T sz v n := by
  obtain ⟨xs, h⟩ := h
  exact ⟨xs, grow_other h hg (fun k hk e => by have := (h.lt k e).1; injection hk with hk; omega)⟩
theorem RowX.lt {W : World} {base n g c : Nat} {T : TypeId} {sz : Nat} (h : RowX W base T sz (.slice (some ⟨g, 0, none⟩) n c) n) : g < W.heap.size := by
  obtain ⟨xs, h⟩ := h; exact (h.lt g rfl).2
theorem RowX.max {W : World} {base n : Nat} {T : TypeId} {sz : Nat} {v : Value} (h : RowX W base T sz v n) : n ≤ 9223372036854775807 := by
  obtain ⟨xs, h⟩ := h
  rcases h.2 with ⟨_, h0⟩ | ⟨g, cap, cur, e, _, _, h1, h2, _⟩
  · omega
  · unfold maxLen at h2; omega
theorem RowX.shape {W : World} {base n : Nat} {T : TypeId} {sz : Nat} {v : Value} (h : RowX W base T sz v n) : ∃ (sa : Option Addr) (sc : Nat), v = .slice sa n sc ∧ (0 < n → ∃ g, sa = some ⟨g, 0, none⟩) := by
  rcases h.val with ⟨rfl, h0⟩ | ⟨g, cp, rfl⟩
  · exact ⟨none, 0, by rw [h0], fun h => by omega⟩
  · exact ⟨_, cp, rfl, fun _ => ⟨g, rfl⟩⟩
end Go.Proofs.Ytcpgodkgdceocaa
