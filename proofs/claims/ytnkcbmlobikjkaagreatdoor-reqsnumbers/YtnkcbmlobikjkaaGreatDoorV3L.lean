/- Layer 3: what numbers keeps to while it trims; plain mathematics of it. -/
import Derived.Test.YtnkcbmlobikjkaaGreatDoorV3K
namespace Go.Proofs.YtnkcbmlobikjkaaGreatDoor
open Go.RowKit Suf Val Go.Maps

theorem betw_iff (lo hi : Int) (t : Txt) : betw lo hi t = true ↔ ∃ n, numO t = some n ∧ lo ≤ n ∧ n ≤ hi := by
  unfold betw
  cases h : numO t with
  | none => simp
  | some n => simp
theorem mem_betw (l : List Txt) (lo hi : Int) (x : Txt) : x ∈ l.filter (betw lo hi) ↔ x ∈ l ∧ ∃ n, numO x = some n ∧ lo ≤ n ∧ n ≤ hi := by rw [List.mem_filter, betw_iff]
theorem has_betw (l : List Txt) (lo hi z : Int) (h0 : -2147483648 ≤ z) (h1 : z ≤ 2147483648) (h2 : lo ≤ z) (h3 : z ≤ hi) : (l.filter (betw lo hi)).contains (decZ z) = l.contains (decZ z) := by
  rw [Bool.eq_iff_iff, List.contains_iff_mem, List.contains_iff_mem, mem_betw]
  exact ⟨fun h => h.1, fun h => ⟨h, z, numO_dec z h0 h1, h2, h3⟩⟩
theorem strike_lo (l : List Txt) (lo hi : Int) (h0 : -2147483648 ≤ lo) (h1 : lo ≤ 2147483648) (x : Txt) : x ∈ (l.filter (betw lo hi)).filter (fun y => !(y == decZ lo)) ↔ x ∈ l.filter (betw (lo + 1) hi) := by
  rw [List.mem_filter, mem_betw, mem_betw]
  constructor
  · rintro ⟨⟨hx, n, e, a, b⟩, hne⟩
    refine ⟨hx, n, e, ?_, b⟩
    obtain ⟨rfl, _, _⟩ := (numO_iff x n).1 e
    have : n ≠ lo := fun c => by subst c; simp at hne
    omega
  · rintro ⟨hx, n, e, a, b⟩
    refine ⟨⟨hx, n, e, by omega, b⟩, ?_⟩
    have hne : ¬ x = decZ lo := fun c => by
      rw [c, numO_dec lo h0 h1] at e
      injection e with e; omega
    simpa using hne
theorem strike_hi (l : List Txt) (lo hi : Int) (h0 : -2147483648 ≤ hi) (h1 : hi ≤ 2147483648) (x : Txt) : x ∈ (l.filter (betw lo hi)).filter (fun y => !(y == decZ hi)) ↔ x ∈ l.filter (betw lo (hi - 1)) := by
  rw [List.mem_filter, mem_betw, mem_betw]
  constructor
  · rintro ⟨⟨hx, n, e, a, b⟩, hne⟩
    refine ⟨hx, n, e, a, ?_⟩
    obtain ⟨rfl, _, _⟩ := (numO_iff x n).1 e
    have : n ≠ hi := fun c => by subst c; simp at hne
    omega
  · rintro ⟨hx, n, e, a, b⟩
    refine ⟨⟨hx, n, e, a, by omega⟩, ?_⟩
    have hne : ¬ x = decZ hi := fun c => by
      rw [c, numO_dec hi h0 h1] at e
      injection e with e; omega
    simpa using hne
theorem strike_none (m : List Txt) (t : Txt) (h : m.contains t = false) (x : Txt) : x ∈ m.filter (fun y => !(y == t)) ↔ x ∈ m := by
  rw [List.mem_filter]
  constructor
  · exact fun h => h.1
  · intro hx
    refine ⟨hx, ?_⟩
    have : ¬ x = t := fun e => by subst e; rw [List.contains_iff_mem.2 hx] at h; cases h
    simpa using this
/-- How far the trimming has come. -/
def atLo (lo hi : Int) (l : List Txt) (z : Int) : Prop := loOf lo hi l = trimLo l (hi - z + 1).toNat z ∧ lo ≤ z ∧ (lo ≤ hi → z ≤ hi + 1) ∧ (hi < lo → z = lo)
theorem atLo_start (lo hi : Int) (l : List Txt) : atLo lo hi l lo := ⟨rfl, Int.le_refl _, fun h => by omega, fun _ => rfl⟩
theorem atLo_next {lo hi : Int} {l : List Txt} {z : Int} (h : atLo lo hi l z) (hz : z ≤ hi) (hc : l.contains (decZ z) = true) : atLo lo hi l (z + 1) := by
  obtain ⟨h1, h2, h3, h4⟩ := h
  refine ⟨?_, by omega, fun _ => by omega, fun c => by have := h4 c; omega⟩
  rw [h1]
  obtain ⟨f, hf⟩ : ∃ f, (hi - z + 1).toNat = f + 1 := ⟨(hi - z).toNat, by omega⟩
  rw [hf, show (hi - (z + 1) + 1).toNat = f by omega]
  show (if l.contains (decZ z) = true then trimLo l f (z + 1) else z) = _
  rw [if_pos hc]
theorem atLo_end {lo hi : Int} {l : List Txt} {z : Int} (h : atLo lo hi l z) (hz : hi < z ∨ l.contains (decZ z) = false) : loOf lo hi l = z := by
  rw [h.1]
  cases hf : (hi - z + 1).toNat with
  | zero => rfl
  | succ f =>
    rcases hz with hz | hz
    · omega
    · show (if l.contains (decZ z) = true then _ else z) = z
      rw [if_neg (by rw [hz]; decide)]
def atHi (lo hi : Int) (l : List Txt) (z : Int) : Prop := hiOf lo hi l = trimHi l (z - loOf lo hi l + 1).toNat z ∧ z ≤ hi ∧ (loOf lo hi l ≤ hi → loOf lo hi l - 1 ≤ z) ∧ (hi < loOf lo hi l → z = hi)
theorem atHi_start (lo hi : Int) (l : List Txt) : atHi lo hi l hi := ⟨rfl, Int.le_refl _, fun h => by omega, fun _ => rfl⟩
theorem atHi_next {lo hi : Int} {l : List Txt} {z : Int} (h : atHi lo hi l z) (hz : loOf lo hi l ≤ z) (hc : l.contains (decZ z) = true) : atHi lo hi l (z - 1) := by
  obtain ⟨h1, h2, h3, h4⟩ := h
  refine ⟨?_, by omega, fun _ => by omega, fun c => by have := h4 c; omega⟩
  rw [h1]
  obtain ⟨f, hf⟩ : ∃ f, (z - loOf lo hi l + 1).toNat = f + 1 := ⟨(z - loOf lo hi l).toNat, by omega⟩
  rw [hf, show (z - 1 - loOf lo hi l + 1).toNat = f by omega]
  show (if l.contains (decZ z) = true then trimHi l f (z - 1) else z) = _
  rw [if_pos hc]
theorem atHi_end {lo hi : Int} {l : List Txt} {z : Int} (h : atHi lo hi l z) (hz : z < loOf lo hi l ∨ l.contains (decZ z) = false) : hiOf lo hi l = z := by
  rw [h.1]
  cases hf : (z - loOf lo hi l + 1).toNat with
  | zero => rfl
  | succ f =>
    rcases hz with hz | hz
    · omega
    · show (if l.contains (decZ z) = true then _ else z) = z
      rw [if_neg (by rw [hz]; decide)]
/-- What is left of the texts once both ends are trimmed. -/
theorem vals_left (lo hi : Int) (l : List Txt) : rising (l.filter (betw (loOf lo hi l) (hiOf lo hi l))) = valsOf (loOf lo hi l) (hiOf lo hi l) l := by
  unfold valsOf
  refine rising_congr fun x => ?_
  rw [mem_betw, List.mem_filter, Val.within_iff]
  refine and_congr_right fun hx => ⟨?_, ?_⟩
  · rintro ⟨n, e, a, b⟩
    obtain ⟨rfl, _, _⟩ := (numO_iff x n).1 e
    by_cases hlh : lo ≤ hi + 1
    · obtain ⟨l1, l2, l3, l4⟩ := lo_spec lo hi l hlh
      obtain ⟨g1, g2, g3, g4⟩ := hi_spec lo hi l hlh
      refine ⟨n, e, ?_, ?_⟩
      · rcases Int.lt_or_eq_of_le a with h | h
        · exact h
        · rw [← h] at hx; exact absurd hx (l4 (by omega))
      · rcases Int.lt_or_eq_of_le b with h | h
        · exact h
        · rw [h] at hx; exact absurd hx (g4 (by omega))
    · obtain ⟨e1, e2⟩ := empty_lo lo hi l (by omega)
      omega
  · rintro ⟨n, e, a, b⟩; exact ⟨n, e, by omega, by omega⟩
theorem list_left (lo hi : Int) (l m : List Txt) (h : ∀ x, x ∈ m ↔ x ∈ valsOf lo hi l) : rising (spell lo (hi - lo + 1).toNat m) = listOf lo hi (valsOf lo hi l) := by
  unfold spell listOf
  refine rising_congr fun x => ?_
  rw [List.mem_filter, List.mem_filter, contains_congr h]
theorem vals_le (lo hi : Int) (l : List Txt) : (valsOf lo hi l).length ≤ l.length := by
  unfold valsOf
  exact Nat.le_trans (rising_le _) (List.length_filter_le _ _)

/-- The boxes of numbers: from, to, and where the set will lie. -/
def NumSt (W : World) (B : Nat) (lo hi : Int) : Prop :=
  W.cell? ⟨B, 0, none⟩ = some (.int .i64 lo) ∧ W.cell? ⟨B + 1, 0, none⟩ = some (.int .i64 hi) ∧ W.frozen? ⟨B, 0, none⟩ = false ∧ W.frozen? ⟨B + 1, 0, none⟩ = false ∧ Slot W (B + 2)
theorem NumSt.below {W W' : World} {B : Nat} {lo hi : Int} (h : NumSt W B lo hi) (hb : Below W.heap.size W W') : NumSt W' B lo hi :=
  ⟨cell_kept hb h.1, cell_kept hb h.2.1, by rw [hb.frozen (p := ⟨B, 0, none⟩) (World.block_lt_of_cell? W _ h.1)]; exact h.2.2.1, by rw [hb.frozen (p := ⟨B + 1, 0, none⟩) (World.block_lt_of_cell? W _ h.2.1)]; exact h.2.2.2.1, h.2.2.2.2.below hb⟩
theorem frozen_turn {w w' : World} {b : Nat} {l : List Txt} (hk : Keys w b l) (hg : w.grownBy w' (some b)) {p : Addr} {v : Value} (hc : w.cell? p = some v) : w'.frozen? p = w.frozen? p := by
  obtain ⟨es, c, hb⟩ := hk.isMap
  have hne : p.block ≠ b := fun e => by subst e; unfold World.cell? at hc; simp [hb] at hc
  exact World.frozen?_of_block (hg.block p.block (World.block_lt_of_cell? w p hc) (fun e => hne (by injection e)))
theorem Six.turn {w w' : World} {B b : Nat} {l : List Txt} {x0 x1 x2 x3 x4 x5 : Value} (h : Six w B x0 x1 x2 x3 x4 x5) (hk : Keys w b l) (hg : w.grownBy w' (some b)) : Six w' B x0 x1 x2 x3 x4 x5 :=
  ⟨cell_turn hk hg h.1, cell_turn hk hg h.2.1, cell_turn hk hg h.2.2.1, cell_turn hk hg h.2.2.2.1, cell_turn hk hg h.2.2.2.2.1, cell_turn hk hg h.2.2.2.2.2⟩
theorem Slot.turn {w w' : World} {B b : Nat} {l : List Txt} (h : Slot w B) (hk : Keys w b l) (hg : w.grownBy w' (some b)) : Slot w' B := by
  obtain ⟨h1, h2, h3⟩ := h
  refine ⟨h1.turn hk hg, fun o => ?_, Nat.lt_of_lt_of_le h3 hg.size⟩
  obtain ⟨es, c, hb⟩ := hk.isMap
  have hne : B ≠ b := fun e => by
    have := h1.1
    subst e; unfold World.cell? at this; simp [hb] at this
  rw [World.frozen?_of_block (a := ⟨B, o, none⟩) (hg.block B h3 (fun e => hne (by injection e)))]; exact h2 o
theorem NumSt.turn {W W' : World} {B b : Nat} {l : List Txt} {lo hi : Int} (h : NumSt W B lo hi) (hk : Keys W b l) (hg : W.grownBy W' (some b)) : NumSt W' B lo hi :=
  ⟨cell_turn hk hg h.1, cell_turn hk hg h.2.1, by rw [frozen_turn hk hg h.1]; exact h.2.2.1, by rw [frozen_turn hk hg h.2.1]; exact h.2.2.2.1, h.2.2.2.2.turn hk hg⟩
theorem set_cell_other (W : World) (B o : Nat) (v : Value) {p : Addr} (h : p.block ≠ B) : (W.setCell ⟨B, o, none⟩ v).cell? p = W.cell? p :=
  World.cell?_of_block (Below.heap_setCell _ _ _ p.block h)
theorem set_frozen (W : World) (B o : Nat) (v : Value) (p : Addr) : (W.setCell ⟨B, o, none⟩ v).frozen? p = W.frozen? p := World.frozen?_setCell _ _ _ _
theorem Slot.set {W : World} {B : Nat} (h : Slot W B) (C o : Nat) (v : Value) (hne : B ≠ C) : Slot (W.setCell ⟨C, o, none⟩ v) B := by
  obtain ⟨⟨h0, h1, h2, h3, h4, h5⟩, hf, hl⟩ := h
  refine ⟨⟨?_, ?_, ?_, ?_, ?_, ?_⟩, fun p => by rw [set_frozen]; exact hf p, by simpa using hl⟩
  all_goals rw [set_cell_other _ _ _ _ (by exact hne)]; assumption
theorem NumSt.setLo {W : World} {B : Nat} {lo hi : Int} (h : NumSt W B lo hi) (z : Int) : NumSt (W.setCell ⟨B, 0, none⟩ (.int .i64 z)) B z hi := by
  obtain ⟨h0, h1, f0, f1, hs⟩ := h
  refine ⟨by simp [go_sem, h0], ?_, by rw [set_frozen]; exact f0, by rw [set_frozen]; exact f1, hs.set _ _ _ (by omega)⟩
  rw [set_cell_other _ _ _ _ (by show B + 1 ≠ B; omega)]; exact h1
theorem NumSt.setHi {W : World} {B : Nat} {lo hi : Int} (h : NumSt W B lo hi) (z : Int) : NumSt (W.setCell ⟨B + 1, 0, none⟩ (.int .i64 z)) B lo z := by
  obtain ⟨h0, h1, f0, f1, hs⟩ := h
  refine ⟨?_, by simp [go_sem, h1], by rw [set_frozen]; exact f0, by rw [set_frozen]; exact f1, hs.set _ _ _ (by omega)⟩
  rw [set_cell_other _ _ _ _ (by show B ≠ B + 1; omega)]; exact h0
theorem Keys.set {W : World} {B b o : Nat} {l : List Txt} (h : Keys W b l) (v : Value) (hne : b ≠ B) : Keys (W.setCell ⟨B, o, none⟩ v) b l := h.kept (set_grown _ _ _ _) (fun e => hne (by injection e))
theorem grown_set {w W : World} {b B o : Nat} (h : w.grownBy W (some b)) (v : Value) (hB : w.heap.size ≤ B) : w.grownBy (W.setCell ⟨B, o, none⟩ v) (some b) := h.andThen (set_grown _ _ _ _) (fun j hj => by cases hj; exact Or.inl hB)

end Go.Proofs.YtnkcbmlobikjkaaGreatDoor
