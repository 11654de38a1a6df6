/- Layer 4: keyed sets sorted by their keys: slices.SortFunc at this row. -/
import Derived.Test.YtnkcbmlobikjkaaGreatDoorRqG
import Derived.Test.YtnkcbmlobikjkaaGreatDoorShelf
import Derived.Sort.OwnSorted
namespace Go.Proofs.YtnkcbmlobikjkaaGreatDoor
open Go.RowKit Suf Val Go.Maps

/-- A keyed set whose list is written out. -/
abbrev SK := (Option Addr × Nat × Nat) × Txt × Bool × Bool × Bool × List Txt × Int × Int
def toV (p : SK) : VKS := (.slice p.1.1 p.1.2.1 p.1.2.2, (p.2.1, ⟨p.2.2.1, p.2.2.2.1, p.2.2.2.2.1, p.2.2.2.2.2.1, p.2.2.2.2.2.2.1, p.2.2.2.2.2.2.2⟩))
def encS (p : SK) : List Value := encK (toV p)
theorem encS_len (p : SK) : (encS p).length = 7 := rfl
theorem encS_one (p : SK) : ∀ v ∈ encS p, v.oneCell' = true := encK_one (x := toV p) rfl
theorem flat_bridge (d : Array SK) : (Go.Sort.flatK encS 7 d).toList = flatK (d.toList.map toV) := by
  apply List.ext_getElem?
  intro t
  by_cases ht : t < d.size * 7
  · have h1 : t / 7 < (d.toList.map toV).length := by simp; omega
    have h2 := flatK_at (d.toList.map toV) (t / 7) h1 (t % 7) (Nat.mod_lt _ (by decide))
    rw [show t / 7 * 7 + t % 7 = t by omega] at h2
    rw [h2]
    have h3 : t / 7 < d.size := by omega
    have h4 : t % 7 < 7 := Nat.mod_lt _ (by decide)
    have h5 : (encS (d[t / 7]'h3)).length = 7 := rfl
    rw [Array.getElem?_toList]
    unfold Go.Sort.flatK
    rw [Array.getElem?_map, Array.getElem?_range, if_pos ht]
    simp only [Option.map_some]
    rw [getElem!_pos d (t / 7) h3, getElem!_pos (encS (d[t / 7]'h3)) (t % 7) (by rw [h5]; exact h4)]
    rw [List.getElem_map, Array.getElem_toList]
    exact (List.getElem?_eq_getElem (by show t % 7 < 7; exact h4)).symm
  · rw [List.getElem?_eq_none (by simp; omega), List.getElem?_eq_none (by rw [flatK_len]; simp; omega)]
theorem holds_row {w : World} {base g cap : Nat} {T : TypeId} {d : Array SK} (h : w.ownsRow base T 7 (.slice (some ⟨g, 0, none⟩) d.size cap) d.size (flatK (d.toList.map toV))) : Go.Sort.HoldsK encS 7 w g 0 d := by
  intro j hj
  have hj' : j < d.size * 7 := by simpa using hj
  refine ⟨?_, by rw [Nat.zero_add]; exact h.frozenAt j⟩
  rw [Nat.zero_add, h.cellAt j hj', ← flat_bridge, Array.getElem?_toList]
  rw [getElem!_pos _ j hj]
  exact Array.getElem?_eq_getElem hj
theorem grown_sortK {w : World} {g n : Nat} {os : Array Obj} (d : Array SK) : w.grownBy (Go.Proofs.sortWorldK encS 7 w g 0 n d os) (some g) := by
  unfold Go.Proofs.sortWorldK Go.Sort.putRowK
  refine ⟨rfl, rfl, rfl, by simp, fun k hk hne => ?_⟩
  rw [Go.Sort.heap_grow_old _ _ (by simpa using hk)]
  have : g ≠ k := fun e => hne (by rw [e])
  simp [Go.Sort.putRow, Go.Sort.mapBlock, Go.Sort.ahead, Array.getElem?_modify, this]
theorem row_sortK {w : World} {base g cap n : Nat} {T : TypeId} {os : Array Obj} {d d' : Array SK} (hs : d'.size = d.size) (h : w.ownsRow base T 7 (.slice (some ⟨g, 0, none⟩) d.size cap) d.size (flatK (d.toList.map toV))) :
    (Go.Proofs.sortWorldK encS 7 w g 0 n d' os).ownsRow base T 7 (.slice (some ⟨g, 0, none⟩) d.size cap) d.size (flatK (d'.toList.map toV)) := by
  rcases h.2 with ⟨e, _⟩ | ⟨g', cap', cur, e, hb, hg, hn, hc, hz, _⟩
  · cases e
  · injection e with e1 _ e3
    injection e1 with e1
    injection e1 with e1 _ _
    subst e1 e3
    have hlt : g < w.heap.size := (Array.getElem?_eq_some_iff.1 hg).1
    refine ⟨by rw [flatK_len]; simp [hs], .inr ⟨g, cap, Go.Sort.putCells id 0 (Go.Sort.flatK encS 7 d') cur, rfl, hb, ?_, hn, hc, by simp [Go.Sort.putCells, hz], ?_⟩⟩
    · unfold Go.Proofs.sortWorldK Go.Sort.putRowK
      rw [Go.Sort.heap_grow_old _ _ (by simpa using hlt)]
      simp [Go.Sort.putRow, Go.Sort.mapBlock, Go.Sort.ahead, Array.getElem?_modify, hg, Go.Sort.onCells]
    · rw [← flat_bridge]
      apply List.ext_getElem?
      intro j
      by_cases hj : j < d.size * 7
      · have hj2 : j < (Go.Sort.flatK encS 7 d').size := by simp; omega
        have hj3 : j < cur.size := by rw [hz]; exact Nat.lt_of_lt_of_le hj (Nat.mul_le_mul_right 7 hn)
        rw [List.getElem?_take_of_lt hj, Array.getElem?_toList, Array.getElem?_toList]
        have hj4 : j < d'.size * 7 := by rw [hs]; exact hj
        simp [Go.Sort.putCells, hj3, hj4]
      · rw [List.getElem?_take_eq_none (by omega), List.getElem?_eq_none (by simp; omega)]

def cfK (x y : SK) : Int := Lib.compareBytes x.2.1 y.2.1
theorem cmp_lt : ∀ a b : Txt, decide (Lib.compareBytes a b < 0) = lt a b
  | [], [] => rfl
  | [], _ :: _ => rfl
  | _ :: _, [] => rfl
  | x :: a, y :: b => by
    rw [lt_cons, ← cmp_lt a b]
    show decide ((if x < y then (-1 : Int) else if y < x then 1 else Lib.compareBytes a b) < 0) = _
    by_cases h1 : x < y
    · rw [if_pos h1]; simp [h1]
    · rw [if_neg h1]
      by_cases h2 : y < x
      · rw [if_pos h2]
        have h3 : ¬ x = y := fun e => by rw [e] at h2; exact absurd h2 (UInt8.lt_irrefl y)
        simp [h1, h3]
      · rw [if_neg h2]
        have h3 : x = y := UInt8.le_antisymm (UInt8.not_lt.1 h2) (UInt8.not_lt.1 h1)
        simp [h3]
theorem lt_cfK (x y : SK) : ltOf cfK x y = lt x.2.1 y.2.1 := cmp_lt _ _
theorem swoK : Go.Sort.SWO (ltOf cfK) where
  irrefl x := by rw [lt_cfK]; exact lt_irrefl _
  trans x y z h1 h2 := by rw [lt_cfK] at *; exact lt_trans h1 h2
  ntrans x y z h1 h2 := by
    rw [lt_cfK] at *
    cases h : lt x.2.1 z.2.1 with
    | false => rfl
    | true =>
      rcases lt_total y.2.1 z.2.1 with hl | hl | hl
      · rw [h2] at hl; cases hl
      · rw [hl] at h1; rw [h1] at h; cases h
      · have := lt_trans h hl; rw [h1] at this; cases this
end Go.Proofs.YtnkcbmlobikjkaaGreatDoor
