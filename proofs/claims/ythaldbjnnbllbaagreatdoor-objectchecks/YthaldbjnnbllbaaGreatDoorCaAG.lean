/- Layer 6, plain mathematics alone: lists in a strict order; offers in theirs; one laid among others. No program is named. -/
import Derived.Test.YthaldbjnnbllbaaGreatDoorRqAG
namespace Go.Proofs.YthaldbjnnbllbaaGreatDoor.Val
open Suf

section
variable {α : Type} {r : α → α → Bool}
/-- In a strict order. -/
def Srt (r : α → α → Bool) (l : List α) : Prop := l.Pairwise fun a b => r a b = true
/-- Lists in one strict order with the same members are the same. -/
theorem srt_ext (ir : ∀ a, r a a = false) (tr : ∀ a b c, r a b = true → r b c = true → r a c = true) : ∀ {l m : List α}, Srt r l → Srt r m → (∀ x, x ∈ l ↔ x ∈ m) → l = m
  | [], [], _, _, _ => rfl
  | [], b :: m, _, _, h => absurd ((h b).2 (by simp)) (by simp)
  | a :: l, [], _, _, h => absurd ((h a).1 (by simp)) (by simp)
  | a :: l, b :: m, hl, hm, h => by
    obtain ⟨la, hl'⟩ := List.pairwise_cons.1 hl
    obtain ⟨mb, hm'⟩ := List.pairwise_cons.1 hm
    have hab : a = b := by
      rcases List.mem_cons.1 ((h a).1 (by simp)) with e | ha
      · exact e
      · rcases List.mem_cons.1 ((h b).2 (by simp)) with e | hb
        · exact e.symm
        · have := tr _ _ _ (mb a ha) (la b hb)
          rw [ir] at this; cases this
    subst hab
    have hrest : l = m := srt_ext ir tr hl' hm' fun x => by
      constructor
      · intro hx
        rcases List.mem_cons.1 ((h x).1 (by simp [hx])) with e | hx'
        · subst e; have := la x hx; rw [ir] at this; cases this
        · exact hx'
      · intro hx
        rcases List.mem_cons.1 ((h x).2 (by simp [hx])) with e | hx'
        · subst e; have := mb x hx; rw [ir] at this; cases this
        · exact hx'
    rw [hrest]
variable [DecidableEq α]
/-- One laid among others, where it isn't there yet. -/
def ins (r : α → α → Bool) (x : α) : List α → List α
  | [] => [x]
  | a :: l => if r a x = true then a :: ins r x l else if a = x then a :: l else x :: a :: l
theorem mem_ins (x y : α) : ∀ l : List α, y ∈ ins r x l ↔ y = x ∨ y ∈ l
  | [] => by simp [ins]
  | a :: l => by
    unfold ins
    split
    · rw [List.mem_cons, mem_ins x y l, List.mem_cons]
      constructor
      · rintro (h | h | h)
        · exact Or.inr (Or.inl h)
        · exact Or.inl h
        · exact Or.inr (Or.inr h)
      · rintro (h | h | h)
        · exact Or.inr (Or.inl h)
        · exact Or.inl h
        · exact Or.inr (Or.inr h)
    · split
      · rename_i e
        subst e
        constructor
        · exact Or.inr
        · rintro (h | h)
          · rw [h]; simp
          · exact h
      · rw [List.mem_cons]
theorem srt_ins (tr : ∀ a b c, r a b = true → r b c = true → r a c = true) (tot : ∀ a b, r a b = true ∨ a = b ∨ r b a = true) (x : α) : ∀ {l : List α}, Srt r l → Srt r (ins r x l)
  | [], _ => by unfold ins Srt; exact List.pairwise_singleton _ _
  | a :: l, h => by
    obtain ⟨ha, hl⟩ := List.pairwise_cons.1 h
    unfold ins
    split
    · rename_i hax
      refine List.pairwise_cons.2 ⟨fun y hy => ?_, srt_ins tr tot x hl⟩
      rcases (mem_ins x y l).1 hy with rfl | hy
      · exact hax
      · exact ha y hy
    · split
      · exact h
      · rename_i h1 h2
        have hxa : r x a = true := by
          rcases tot a x with h3 | h3 | h3
          · exact absurd h3 h1
          · exact absurd h3 h2
          · exact h3
        refine List.pairwise_cons.2 ⟨fun y hy => ?_, h⟩
        rcases List.mem_cons.1 hy with rfl | hy
        · exact hxa
        · exact tr _ _ _ hxa (ha y hy)
theorem ins_perm (x : α) : ∀ {l : List α}, x ∉ l → (ins r x l).Perm (x :: l)
  | [], _ => List.Perm.refl _
  | a :: l, h => by
    unfold ins
    split
    · exact ((ins_perm x (l := l) (fun hx => h (List.mem_cons_of_mem _ hx))).cons a).trans (List.Perm.swap x a l)
    · split
      · rename_i e
        subst e
        exact absurd (by simp) h
      · exact List.Perm.refl _
/-- Where it goes. -/
theorem ins_new {x : α} : ∀ {l : List α} {k : Nat}, k ≤ l.length → (∀ y ∈ l.take k, r y x = true) → (∀ h : k < l.length, r l[k] x = false ∧ ¬ l[k] = x) → ins r x l = l.take k ++ x :: l.drop k
  | [], k, hk, _, _ => by
    obtain rfl : k = 0 := Nat.le_zero.1 hk
    rfl
  | a :: l, 0, _, _, h2 => by
    obtain ⟨h3, h4⟩ := h2 (by simp)
    unfold ins
    rw [if_neg (by simp at h3; simp [h3]), if_neg (by simpa using h4)]
    rfl
  | a :: l, k + 1, hk, h1, h2 => by
    unfold ins
    rw [if_pos (h1 a (by simp)), ins_new (l := l) (k := k) (by simpa using hk) (fun y hy => h1 y (by simp [hy])) (fun h => h2 (Nat.succ_lt_succ h))]
    rfl
theorem ins_old {x : α} : ∀ {l : List α} {k : Nat} (h : k < l.length), (∀ y ∈ l.take k, r y x = true) → r l[k] x = false → l[k] = x → ins r x l = l
  | [], k, h, _, _, _ => absurd h (Nat.not_lt_zero _)
  | a :: l, 0, _, _, h2, h3 => by
    unfold ins
    rw [if_neg (by simp at h2; simp [h2]), if_pos (by simpa using h3)]
  | a :: l, k + 1, h, h1, h2, h3 => by
    unfold ins
    rw [if_pos (h1 a (by simp)), ins_old (l := l) (k := k) (by simpa using h) (fun y hy => h1 y (by simp [hy])) (by simpa using h2) (by simpa using h3)]
/-- All of a list, one by one. -/
def insAll (r : α → α → Bool) (l : List α) : List α := l.foldl (fun out x => ins r x out) []
theorem insAll_snoc (l : List α) (x : α) : insAll r (l ++ [x]) = ins r x (insAll r l) := by unfold insAll; rw [List.foldl_append]; rfl
theorem insAll_take {l : List α} {k : Nat} (h : k < l.length) : insAll r (l.take (k + 1)) = ins r l[k] (insAll r (l.take k)) := by
  rw [List.take_add_one, List.getElem?_eq_getElem h]; exact insAll_snoc _ _
theorem fold_mem (y : α) : ∀ (l out : List α), y ∈ l.foldl (fun out x => ins r x out) out ↔ y ∈ out ∨ y ∈ l
  | [], out => by simp
  | x :: l, out => by
    rw [List.foldl_cons, fold_mem y l, mem_ins, List.mem_cons]
    constructor
    · rintro ((h | h) | h)
      · exact Or.inr (Or.inl h)
      · exact Or.inl h
      · exact Or.inr (Or.inr h)
    · rintro (h | h | h)
      · exact Or.inl (Or.inr h)
      · exact Or.inl (Or.inl h)
      · exact Or.inr h
theorem fold_srt (tr : ∀ a b c, r a b = true → r b c = true → r a c = true) (tot : ∀ a b, r a b = true ∨ a = b ∨ r b a = true) : ∀ (l : List α) {out : List α}, Srt r out → Srt r (l.foldl (fun out x => ins r x out) out)
  | [], _, h => h
  | x :: l, _, h => fold_srt tr tot l (srt_ins tr tot x h)
theorem fold_perm : ∀ (l : List α) {out : List α}, (out ++ l).Nodup → (l.foldl (fun out x => ins r x out) out).Perm (out ++ l)
  | [], out, _ => by rw [List.append_nil]; exact List.Perm.refl _
  | x :: l, out, h => by
    have hx : x ∉ out := fun hx => by
      have := (List.nodup_append.1 h).2.2 x hx x (by simp)
      exact this rfl
    have hp : (ins r x out ++ l).Perm (out ++ x :: l) := ((ins_perm x hx).append_right l).trans (by simpa using (List.perm_middle (a := x) (l₁ := out) (l₂ := l)).symm)
    exact (fold_perm l (out := ins r x out) (hp.nodup_iff.2 h)).trans hp
theorem mem_insAll (y : α) (l : List α) : y ∈ insAll r l ↔ y ∈ l := by unfold insAll; rw [fold_mem]; simp
theorem srt_insAll (tr : ∀ a b c, r a b = true → r b c = true → r a c = true) (tot : ∀ a b, r a b = true ∨ a = b ∨ r b a = true) (l : List α) : Srt r (insAll r l) := fold_srt tr tot l List.Pairwise.nil
theorem insAll_len {l : List α} (h : l.Nodup) : (insAll r l).length = l.length := by
  have := (fold_perm (r := r) l (out := []) (by simpa using h)).length_eq
  simpa [insAll] using this
end

/-! Offers in their order. -/
abbrev VOff := Txt × Txt × Txt
def lessO (a b : VOff) : Bool := if a.1 = b.1 then (if a.2.1 = b.2.1 then lt a.2.2 b.2.2 else lt a.2.1 b.2.1) else lt a.1 b.1
theorem lessO_irrefl (a : VOff) : lessO a a = false := by unfold lessO; rw [if_pos rfl, if_pos rfl, lt_irrefl]
theorem lessO_trans {a b c : VOff} (h1 : lessO a b = true) (h2 : lessO b c = true) : lessO a c = true := by
  obtain ⟨a0, a1, a2⟩ := a
  obtain ⟨b0, b1, b2⟩ := b
  obtain ⟨c0, c1, c2⟩ := c
  unfold lessO at *
  simp only at *
  by_cases e1 : a0 = b0
  · subst e1
    rw [if_pos rfl] at h1
    by_cases e2 : a0 = c0
    · subst e2
      rw [if_pos rfl] at h2 ⊢
      by_cases e3 : a1 = b1
      · subst e3
        rw [if_pos rfl] at h1
        by_cases e4 : a1 = c1
        · subst e4
          rw [if_pos rfl] at h2 ⊢
          exact lt_trans h1 h2
        · rw [if_neg e4] at h2 ⊢; exact h2
      · rw [if_neg e3] at h1
        by_cases e4 : b1 = c1
        · subst e4
          rw [if_neg e3]; exact h1
        · rw [if_neg e4] at h2
          have h3 := lt_trans h1 h2
          rw [if_neg (lt_ne h3)]; exact h3
    · rw [if_neg e2] at h2 ⊢; exact h2
  · rw [if_neg e1] at h1
    by_cases e2 : b0 = c0
    · subst e2
      rw [if_neg e1]; exact h1
    · rw [if_neg e2] at h2
      have h3 := lt_trans h1 h2
      rw [if_neg (lt_ne h3)]; exact h3
theorem lessO_total (a b : VOff) : lessO a b = true ∨ a = b ∨ lessO b a = true := by
  obtain ⟨a0, a1, a2⟩ := a
  obtain ⟨b0, b1, b2⟩ := b
  unfold lessO
  simp only
  by_cases e1 : a0 = b0
  · subst e1
    rw [if_pos rfl, if_pos rfl]
    by_cases e2 : a1 = b1
    · subst e2
      rw [if_pos rfl, if_pos rfl]
      rcases lt_total a2 b2 with h | h | h
      · exact Or.inl h
      · exact Or.inr (Or.inl (by rw [h]))
      · exact Or.inr (Or.inr h)
    · rw [if_neg e2, if_neg (fun e => e2 e.symm)]
      rcases lt_total a1 b1 with h | h | h
      · exact Or.inl h
      · exact absurd h e2
      · exact Or.inr (Or.inr h)
  · rw [if_neg e1, if_neg (fun e => e1 e.symm)]
    rcases lt_total a0 b0 with h | h | h
    · exact Or.inl h
    · exact absurd h e1
    · exact Or.inr (Or.inr h)
/-- By prices first. -/
def aheadO (p : VOff → Int) (a b : VOff) : Bool := if p a = p b then lessO a b else decide (p a < p b)
theorem aheadO_irrefl (p : VOff → Int) (a : VOff) : aheadO p a a = false := by unfold aheadO; rw [if_pos rfl, lessO_irrefl]
theorem aheadO_trans (p : VOff → Int) (a b c : VOff) (h1 : aheadO p a b = true) (h2 : aheadO p b c = true) : aheadO p a c = true := by
  unfold aheadO at *
  by_cases e1 : p a = p b
  · rw [if_pos e1] at h1
    by_cases e2 : p b = p c
    · rw [if_pos e2] at h2
      rw [if_pos (e1.trans e2)]; exact lessO_trans h1 h2
    · rw [if_neg e2, decide_eq_true_eq] at h2
      rw [if_neg (by omega), decide_eq_true_eq]; omega
  · rw [if_neg e1, decide_eq_true_eq] at h1
    by_cases e2 : p b = p c
    · rw [if_neg (by omega), decide_eq_true_eq]; omega
    · rw [if_neg e2, decide_eq_true_eq] at h2
      rw [if_neg (by omega), decide_eq_true_eq]; omega
theorem aheadO_total (p : VOff → Int) (a b : VOff) : aheadO p a b = true ∨ a = b ∨ aheadO p b a = true := by
  unfold aheadO
  by_cases e : p a = p b
  · rw [if_pos e, if_pos e.symm]; exact lessO_total a b
  · rw [if_neg e, if_neg (fun h => e h.symm), decide_eq_true_eq, decide_eq_true_eq]
    by_cases h : p a < p b
    · exact Or.inl h
    · exact Or.inr (Or.inr (by omega))
theorem aheadO_price {p : VOff → Int} {a b : VOff} (h : aheadO p a b = true) : p a ≤ p b := by
  unfold aheadO at h
  by_cases e : p a = p b
  · omega
  · rw [if_neg e, decide_eq_true_eq] at h; omega
end Go.Proofs.YthaldbjnnbllbaaGreatDoor.Val
