/- Layer 8: rows that are kept while a box of the call's own is written over; the number that is left out -/
import Derived.Test.YthaldbjnnbllbaaGreatDoorO8TG
import Derived.Test.YthaldbjnnbllbaaGreatDoorGenEG
import Derived.Deep.DeepCutAuto
import Derived.Deep.CutRange
import Derived.Deep.Onto
namespace Go.Proofs.YthaldbjnnbllbaaGreatDoor
open Go.RowKit Suf Val

/-- A list that came in, or a row of the call's own behind the block at hand. -/
def Keeps {α : Type} (wc : World) (K : Rep α) (T : TypeId) (W : World) (x : Value) (l : List α) : Prop :=
  Lst K wc x l ∨ ∃ xs, W.ownsRow (wc.heap.size + 1) T K.size x l.length xs ∧ RowsOf K wc xs l ∧ l.length ≤ 17592186044416
theorem Keeps.lst {α : Type} {wc W : World} {K : Rep α} {T : TypeId} {x : Value} {l : List α} (h : Keeps wc K T W x l) (hb : Below wc.heap.size wc W) : Lst K W x l := by
  rcases h with h | ⟨xs, ho, hr, hl⟩
  · exact h.below hb
  · exact rows_lst ho (hr.below hb) rfl hl
theorem Keeps.below {α : Type} {wc W W' : World} {K : Rep α} {T : TypeId} {x : Value} {l : List α} (h : Keeps wc K T W x l) (hb : Below W.heap.size W W') : Keeps wc K T W' x l := by
  rcases h with h | ⟨xs, ho, hr, hl⟩
  · exact Or.inl h
  · exact Or.inr ⟨xs, grow_below ho hb, hr, hl⟩
theorem Keeps.setCell {α : Type} {wc W : World} {K : Rep α} {T : TypeId} {x : Value} {l : List α} (h : Keeps wc K T W x l) (i : Nat) (u : Value) : Keeps wc K T (W.setCell ⟨wc.heap.size, i, none⟩ u) x l := by
  rcases h with h | ⟨xs, ho, hr, hl⟩
  · exact Or.inl h
  · exact Or.inr ⟨xs, ownsRow_setCell_below ho (Nat.lt_succ_self _) u, hr, hl⟩
theorem keeps_row {α : Type} {wc Wr W : World} {K : Rep α} {T : TypeId} {x : Value} {l1 l2 : List α} {n : Nat} {xs ys : List Value} (hw : wc.heap.size + 1 ≤ Wr.heap.size) (h : W.ownsRow Wr.heap.size T K.size x n (([] ++ xs) ++ ys)) (h1 : RowsOf K wc xs l1) (h2 : RowsOf K wc ys l2) (hn : n = (l1 ++ l2).length) (hl : (l1 ++ l2).length ≤ 17592186044416) : Keeps wc K T W x (l1 ++ l2) :=
  Or.inr ⟨[] ++ xs ++ ys, by rw [← hn]; exact World.ownsRow.mono h hw, by rw [List.nil_append]; exact h1.append h2, hl⟩
theorem cut_yes {α : Type} {m : Nat} {l : List α} (h : m < l.length) : l.take m ++ l.drop (m + 1) = cut m l := by unfold cut; rw [if_pos h]
theorem cut_no {α : Type} {m : Nat} {l : List α} (h : ¬ m < l.length) : l = cut m l := by unfold cut; rw [if_neg h]
theorem pod_lens {p : VPod} (h : podR p = 0) : p.reqs.length ≤ 8 ∧ p.tols.length ≤ 4 ∧ p.spread.length ≤ 3 ∧ p.near.length ≤ 3 := by
  have h1 := ore_zero.1 h
  simp only [List.mem_cons, List.not_mem_nil, or_false, forall_eq_or_imp, forall_eq] at h1
  obtain ⟨_, _, _, a4, a5, a6, _⟩ := h1
  have c6 : p.spread.length ≤ 3 ∧ p.near.length ≤ 3 ∧ p.apart.length ≤ 3 := of_decide_eq_true ((unl_zero (by decide)).1 a6)
  unfold moreR at a4
  unfold Ta.Val.tolsR at a5
  refine ⟨?_, ?_, c6.1, c6.2.1⟩
  · by_cases h8 : 8 < p.reqs.length
    · rw [if_pos h8] at a4; cases a4
    · omega
  · by_cases h8 : 4 < p.tols.length
    · rw [if_pos h8] at a5; cases a5
    · omega
theorem own_slice {w : World} {base : Nat} {T : TypeId} {sz : Nat} {v : Value} {n : Nat} {xs : List Value} (h : w.ownsRow base T sz v n xs) : ∃ a k c, v = .slice a k c := by
  rcases h.2 with ⟨rfl, _⟩ | ⟨g, cap, cur, rfl, _⟩
  · exact ⟨_, _, _, rfl⟩
  · exact ⟨_, _, _, rfl⟩
theorem frozen_kept {w w' : World} {p : Addr} {v : Value} (hb : Below w.heap.size w w') (hc : w.cell? p = some v) (hf : w.frozen? p = false) : w'.frozen? p = false := by
  rw [hb.frozen (World.block_lt_of_cell? (h := hc) ..)]; exact hf
theorem reachBytes_lt8 : 448 ≤ reachBytes := by unfold reachBytes; decide
theorem put_at {W : World} {B i : Nat} {u v : Value} (hc : W.cell? ⟨B, i, none⟩ = some u) : (W.setCell ⟨B, i, none⟩ v).cell? ⟨B, i, none⟩ = some v := World.cell?_setCell_same (h := hc) ..
theorem put_off {W : World} {B C i j : Nat} {u v : Value} (hc : W.cell? ⟨C, j, none⟩ = some u) (hn : ¬ (C = B ∧ j = i)) : (W.setCell ⟨B, i, none⟩ v).cell? ⟨C, j, none⟩ = some u := by
  have h : (⟨B, i, none⟩ : Addr) ≠ ⟨C, j, none⟩ := fun e => by injection e with e1 e2; exact hn ⟨e1.symm, e2.symm⟩
  rw [World.cell?_setCell_other (h := h)]; exact hc
end Go.Proofs.YthaldbjnnbllbaaGreatDoor
