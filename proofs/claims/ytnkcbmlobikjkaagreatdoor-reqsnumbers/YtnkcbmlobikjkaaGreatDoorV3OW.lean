/- Layer 3: texts of the call's own, written over. -/
import Derived.Test.YtnkcbmlobikjkaaGreatDoorV3AP
namespace Go.Proofs.YtnkcbmlobikjkaaGreatDoor
open Go.RowKit Suf Val Go.Maps

theorem Own.val {w : World} {base : Nat} {v : Value} {l : List Txt} (h : Own w base v l) : (v = .slice none 0 0 ∧ l = []) ∨ ∃ g c, v = .slice (some ⟨g, 0, none⟩) l.length c ∧ base ≤ g ∧ g < w.heap.size := by
  have hb := own_block h
  rcases h.1.2 with ⟨rfl, hn⟩ | ⟨g, cap, cur, rfl, hg, _⟩
  · exact Or.inl ⟨rfl, List.eq_nil_of_length_eq_zero hn⟩
  · exact Or.inr ⟨g, cap, rfl, hg, (hb g rfl).2⟩
theorem Own.cellAt {w : World} {base g c : Nat} {l : List Txt} (h : Own w base (.slice (some ⟨g, 0, none⟩) l.length c) l) {j : Nat} (hj : j < l.length) : w.cell? ⟨g, j, none⟩ = some (.string (bytesT l[j])) := by
  rw [h.1.cellAt j (by omega), List.getElem?_map, List.getElem?_eq_getElem hj]; rfl
theorem Own.frozenAt {w : World} {base g c : Nat} {l : List Txt} (h : Own w base (.slice (some ⟨g, 0, none⟩) l.length c) l) (j : Nat) : w.frozen? ⟨g, j, none⟩ = false := h.1.frozenAt j
theorem Own.stored {w : World} {base g c n : Nat} {l : List Txt} (h : Own w base (.slice (some ⟨g, 0, none⟩) n c) l) (j : Nat) {t : Txt} (ht : short t) :
    Own (w.setCell ⟨g, j, none⟩ (.string (bytesT t))) base (.slice (some ⟨g, 0, none⟩) n c) (l.set j t) := by
  have hn : n = l.length := by
    rcases h.1.2 with ⟨e, _⟩ | ⟨g', cap, cur, e, _⟩
    · cases e
    · injection e
  subst hn
  refine ⟨?_, fun x hx => ?_, by rw [List.length_set]; exact h.2.2⟩
  · have := (h.1.stored j (.string (bytesT t))).1
    rw [List.length_set, List.map_set]; exact this
  · rcases List.mem_or_eq_of_mem_set hx with hx | rfl
    · exact h.2.1 x hx
    · exact ht
end Go.Proofs.YtnkcbmlobikjkaaGreatDoor
