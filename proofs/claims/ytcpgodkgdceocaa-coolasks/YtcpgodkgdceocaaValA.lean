/- Layer 3, plain mathematics alone: texts in their order, lists that rise, a text laid among them. No program is named. -/
import Derived.Below
namespace Go.Proofs.Ytcpgodkgdceocaa.Val

abbrev Txt := List UInt8
/-- Byte by byte. -/
def lt (a b : Txt) : Bool := Go.Op.bytesLess a b
theorem lt_nil (a : Txt) : lt a [] = false := by unfold lt; cases a <;> rfl
theorem lt_cons (a b : UInt8) (x y : Txt) : lt (a :: x) (b :: y) = (decide (a < b) || (a == b && lt x y)) := rfl
theorem lt_irrefl : ∀ a : Txt, lt a a = false
  | [] => rfl
  | c :: a => by rw [lt_cons, lt_irrefl a]; simp [UInt8.lt_irrefl]
theorem lt_trans : ∀ {a b c : Txt}, lt a b = true → lt b c = true → lt a c = true
  | _, _, [], _, h => by rw [lt_nil] at h; cases h
  | _, [], _, h, _ => by rw [lt_nil] at h; cases h
  | [], _ :: _, _ :: _, _, _ => rfl
  | a :: x, b :: y, c :: z, h1, h2 => by
    rw [lt_cons, Bool.or_eq_true, Bool.and_eq_true, decide_eq_true_eq, beq_iff_eq] at *
    rcases h1 with h1 | ⟨h1, h1'⟩ <;> rcases h2 with h2 | ⟨h2, h2'⟩
    · exact Or.inl (UInt8.lt_trans h1 h2)
    · subst h2; exact Or.inl h1
    · subst h1; exact Or.inl h2
    · subst h1 h2; exact Or.inr ⟨rfl, lt_trans h1' h2'⟩
theorem lt_total : ∀ a b : Txt, lt a b = true ∨ a = b ∨ lt b a = true
  | [], [] => Or.inr (Or.inl rfl)
  | [], _ :: _ => Or.inl rfl
  | _ :: _, [] => Or.inr (Or.inr rfl)
  | a :: x, b :: y => by
    rw [lt_cons, lt_cons]
    rcases UInt8.lt_or_lt_of_ne (a := a) (b := b) |> fun f => (Classical.em (a = b)).elim (fun e => Or.inl e) (fun n => Or.inr (f n)) with e | h | h
    · subst e
      rcases lt_total x y with h | h | h
      · left; simp [h]
      · right; left; rw [h]
      · right; right; simp [h]
    · left; simp [h]
    · right; right; simp [h]
theorem lt_asymm {a b : Txt} (h : lt a b = true) : lt b a = false := by
  cases hb : lt b a with
  | false => rfl
  | true => have := lt_trans h hb; rw [lt_irrefl] at this; cases this
theorem lt_ne {a b : Txt} (h : lt a b = true) : ¬ a = b := by
  rintro rfl; rw [lt_irrefl] at h; cases h

/-- A list that rises. -/
def Up (l : List Txt) : Prop := l.Pairwise fun a b => lt a b = true
def rises : List Txt → Bool
  | a :: b :: l => lt a b && rises (b :: l)
  | _ => true
theorem up_iff : ∀ l : List Txt, rises l = true ↔ Up l
  | [] => by simp [rises, Up]
  | [a] => by simp [rises, Up]
  | a :: b :: l => by
    have ih := up_iff (b :: l)
    unfold Up at *
    show (lt a b && rises (b :: l)) = true ↔ _
    rw [Bool.and_eq_true, ih, List.pairwise_cons (a := a)]
    constructor
    · rintro ⟨h1, h2⟩
      refine ⟨fun x hx => ?_, h2⟩
      rcases List.mem_cons.1 hx with rfl | hx
      · exact h1
      · exact lt_trans h1 ((List.pairwise_cons.1 h2).1 x hx)
    · rintro ⟨h1, h2⟩
      exact ⟨h1 b (by simp), h2⟩
theorem up_nodup {l : List Txt} (h : Up l) : l.Nodup := List.Pairwise.imp (fun h => lt_ne h) h
/-- Lists that rise and have the same members are the same. -/
theorem up_ext : ∀ {l m : List Txt}, Up l → Up m → (∀ x, x ∈ l ↔ x ∈ m) → l = m
  | [], [], _, _, _ => rfl
  | [], b :: m, _, _, h => absurd ((h b).2 (by simp)) (by simp)
  | a :: l, [], _, _, h => absurd ((h a).1 (by simp)) (by simp)
  | a :: l, b :: m, hl, hm, h => by
    obtain ⟨la, hl'⟩ := List.pairwise_cons.1 hl
    obtain ⟨mb, hm'⟩ := List.pairwise_cons.1 hm
    have hab : a = b := by
      rcases List.mem_cons.1 ((h a).1 (by simp)) with e | ha
      · exact e
      · rcases List.mem_cons.1 ((h b).2 (by simp)) with e | hb
        · exact e.symm
        · have h1 := mb a ha
          have h2 := la b hb
          have := lt_trans h1 h2
          rw [lt_irrefl] at this; cases this
    subst hab
    have hrest : l = m := up_ext hl' hm' fun x => by
      constructor
      · intro hx
        rcases List.mem_cons.1 ((h x).1 (by simp [hx])) with e | hx'
        · subst e; have := la x hx; rw [lt_irrefl] at this; cases this
        · exact hx'
      · intro hx
        rcases List.mem_cons.1 ((h x).2 (by simp [hx])) with e | hx'
        · subst e; have := mb x hx; rw [lt_irrefl] at this; cases this
        · exact hx'
    rw [hrest]

/-- A text laid among others. -/
def put : List Txt → Txt → List Txt
  | [], s => [s]
  | a :: l, s => if lt a s then a :: put l s else if a = s then a :: l else s :: a :: l
theorem mem_put (s x : Txt) : ∀ l : List Txt, x ∈ put l s ↔ x = s ∨ x ∈ l
  | [] => by simp [put]
  | a :: l => by
    unfold put
    split
    · rw [List.mem_cons, mem_put s x l, List.mem_cons]
      constructor
      · rintro (h | h | h)
        · exact Or.inr (Or.inl h)
        · exact Or.inl h
        · exact Or.inr (Or.inr h)
      · rintro (h | h | h)
        · exact Or.inr (Or.inl h)
        · exact Or.inl h
        · exact Or.inr (Or.inr h)
    · split
      · rename_i e; subst e
        constructor
        · exact Or.inr
        · rintro (h | h)
          · subst h; simp
          · exact h
      · exact List.mem_cons
theorem up_put (s : Txt) : ∀ {l : List Txt}, Up l → Up (put l s)
  | [], _ => by simp [put, Up]
  | a :: l, h => by
    obtain ⟨ha, hl⟩ := List.pairwise_cons.1 h
    unfold put
    split
    · rename_i c
      refine List.pairwise_cons.2 ⟨fun x hx => ?_, up_put s hl⟩
      rcases (mem_put s x l).1 hx with rfl | hx
      · exact c
      · exact ha x hx
    · split
      · exact h
      · rename_i c e
        have hs : lt s a = true := by
          rcases lt_total a s with h1 | h1 | h1
          · exact absurd h1 c
          · exact absurd h1 e
          · exact h1
        refine List.pairwise_cons.2 ⟨fun x hx => ?_, h⟩
        rcases List.mem_cons.1 hx with rfl | hx
        · exact hs
        · exact lt_trans hs (ha x hx)
theorem len_put (s : Txt) : ∀ l : List Txt, (put l s).length ≤ l.length + 1
  | [] => by simp [put]
  | a :: l => by
    unfold put
    have := len_put s l
    split
    · simp; exact this
    · split <;> simp
def rising (l : List Txt) : List Txt := l.foldl put []
theorem fold_put : ∀ (l acc : List Txt), Up acc → Up (l.foldl put acc) ∧ ∀ x, x ∈ l.foldl put acc ↔ x ∈ l ∨ x ∈ acc
  | [], acc, h => ⟨h, fun x => by simp⟩
  | s :: l, acc, h => by
    have ih := fold_put l (put acc s) (up_put s h)
    refine ⟨ih.1, fun x => ?_⟩
    show x ∈ l.foldl put (put acc s) ↔ _
    rw [ih.2, mem_put, List.mem_cons]
    constructor
    · rintro (h | h | h)
      · exact Or.inl (Or.inr h)
      · exact Or.inl (Or.inl h)
      · exact Or.inr h
    · rintro ((h | h) | h)
      · exact Or.inr (Or.inl h)
      · exact Or.inl h
      · exact Or.inr (Or.inr h)
theorem up_rising (l : List Txt) : Up (rising l) := (fold_put l [] List.Pairwise.nil).1
theorem mem_rising (l : List Txt) (x : Txt) : x ∈ rising l ↔ x ∈ l := by
  have := (fold_put l [] List.Pairwise.nil).2 x
  unfold rising; simpa using this
theorem rising_self {l : List Txt} (h : Up l) : rising l = l := up_ext (up_rising l) h (mem_rising l)
theorem rising_congr {l m : List Txt} (h : ∀ x, x ∈ l ↔ x ∈ m) : rising l = rising m :=
  up_ext (up_rising l) (up_rising m) fun x => by rw [mem_rising, mem_rising, h]
theorem up_filter {l : List Txt} (p : Txt → Bool) (h : Up l) : Up (l.filter p) := List.Pairwise.sublist List.filter_sublist h

/-! How many. -/
theorem nodup_len {α : Type} [DecidableEq α] : ∀ {l m : List α}, l.Nodup → (∀ x, x ∈ l → x ∈ m) → l.length ≤ m.length
  | [], m, _, _ => Nat.zero_le _
  | a :: l, m, h, hs => by
    obtain ⟨ha, hl⟩ := List.nodup_cons.1 h
    have hm : a ∈ m := hs a (by simp)
    have ih := nodup_len (l := l) (m := m.erase a) hl fun x hx => by
      have hne : x ≠ a := fun e => ha (e ▸ hx)
      exact (List.mem_erase_of_ne hne).2 (hs x (by simp [hx]))
    rw [List.length_erase_of_mem hm] at ih
    have := List.length_pos_of_mem hm
    rw [List.length_cons]; omega
theorem same_len {α : Type} [DecidableEq α] {l m : List α} (hl : l.Nodup) (hm : m.Nodup) (h : ∀ x, x ∈ l ↔ x ∈ m) : l.length = m.length :=
  Nat.le_antisymm (nodup_len hl fun x => (h x).1) (nodup_len hm fun x => (h x).2)
theorem nodup_map {α β : Type} {f : α → β} : ∀ {l : List α}, l.Nodup → (∀ x y, x ∈ l → y ∈ l → f x = f y → x = y) → (l.map f).Nodup
  | [], _, _ => List.nodup_nil
  | a :: l, h, hi => by
    obtain ⟨ha, hl⟩ := List.nodup_cons.1 h
    rw [List.map_cons, List.nodup_cons]
    refine ⟨fun hc => ?_, nodup_map hl fun x y hx hy => hi x y (by simp [hx]) (by simp [hy])⟩
    obtain ⟨b, hb, e⟩ := List.mem_map.1 hc
    have := hi b a (by simp [hb]) (by simp) e
    subst this; exact ha hb
/-- More different ones than a list has members: one of them is not there. -/
theorem outside {α : Type} [DecidableEq α] (f : Nat → α) (N : Nat) (hi : ∀ i j, i ≤ N → j ≤ N → f i = f j → i = j) (l : List α) (hl : l.length ≤ N) : ∃ k, k ≤ N ∧ f k ∉ l := by
  apply Classical.byContradiction
  intro hc
  have hall : ∀ k, k ≤ N → f k ∈ l := fun k hk => Classical.byContradiction fun hn => hc ⟨k, hk, hn⟩
  have hn : ((List.range (N + 1)).map f).Nodup := nodup_map List.nodup_range fun x y hx hy => hi x y (by rw [List.mem_range] at hx; omega) (by rw [List.mem_range] at hy; omega)
  have := nodup_len hn (m := l) fun x hx => by
    obtain ⟨k, hk, rfl⟩ := List.mem_map.1 hx
    exact hall k (by rw [List.mem_range] at hk; omega)
  rw [List.length_map, List.length_range] at this
  omega
theorem len_rising {l : List Txt} (h : l.Nodup) : (rising l).length = l.length := same_len (up_nodup (up_rising l)) h (mem_rising l)

end Go.Proofs.Ytcpgodkgdceocaa.Val
