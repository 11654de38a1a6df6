/- Layer 6, plain mathematics alone: lists in a strict order; offers in theirs; one laid among others. No program is named. -/
import Derived.Test.YtepcnfnmphgccaaGreatDoorValAG
namespace Go.Proofs.YtepcnfnmphgccaaGreatDoor.Val
open Suf

section
variable {α : Type} {r : α → α → Bool}
/-- In a strict order. -/
def Srt (r : α → α → Bool) (l : List α) : Prop := l.Pairwise fun a b => r a b = true
/-- Lists in one strict order with the same members are the same. -/
theorem srt_ext (ir : ∀ a, r a a = false) (tr : ∀ a b c, r a b = true → r b c = true → r a c = true) : ∀ {l m : List α}, Srt r l → Srt r m → (∀ x, x ∈ l ↔ x ∈ m) → l = m
  | [], [], _, _, _ => rfl
  | [], b :: m, _, _, h => absurd ((h b).2 (by simp)) (by simp)
  | a :: l, [], _, _, h => absurd ((h a).1 (by simp)) (by simp)
  | a :: l, b :: m, hl, hm, h => by
    obtain ⟨la, hl'⟩ := List.pairwise_cons.1 hl
    obtain ⟨mb, hm'⟩ := List.pairwise_cons.1 hm
    have hab : a = b := by
      rcases List.mem_cons.1 ((h a).1 (by simp)) with e | ha
      · exact e
      · rcases List.mem_cons.1 ((h b).2 (by simp)) with e | hb
        · exact e.symm
        · have := tr _ _ _ (mb a ha) (la b hb)
          rw [ir] at this; cases this
    subst hab
    have hrest : l = m := srt_ext ir tr hl' hm' fun x => by
      constructor
      · intro hx
        rcases List.mem_cons.1 ((h x).1 (by simp [hx])) with e | hx'
        · subst e; have := la x hx; rw [ir] at this; cases this
        · exact hx'
      · intro hx
        rcases List.mem_cons.1 ((h x).2 (by simp [hx])) with e | hx'
        · subst e; have := mb x hx; rw [ir] at this; cases this
        · exact hx'
    rw [hrest]
variable [DecidableEq α]
/-- One laid among others, where it isn't there yet. -/
def ins (r : α → α → Bool) (x : α) : List α → List α
  | [] => [x]
  | a :: l => if r a x = true then a :: ins r x l else if a = x then a :: l else x :: a :: l
theorem mem_ins (x y : α) : ∀ l : List α, y ∈ ins r x l ↔ y = x ∨ y ∈ l
  | [] => by simp [ins]
  | a :: l => by
    unfold ins
    split
    · rw [List.mem_cons, mem_ins x y l, List.mem_cons]
      constructor
      · rintro (h | h | h)
        · exact Or.inr (Or.inl h)
        · exact Or.inl h
        · exact Or.inr (Or.inr h)
      · rintro (h | h | h)
        · exact Or.inr (Or.inl h)
        · exact Or.inl h
        · exact Or.inr (Or.inr h)
    · split
      · rename_i e
        subst e
        constructor
        · exact Or.inr
        · rintro (h | h)
          · rw [h]; simp
          · exact h
      · rw [List.mem_cons]
theorem srt_ins (tr : ∀ a b c, r a b = true → r b c = true → r a c = true) (tot : ∀ a b, r a b = true ∨ a = b ∨ r b a = true) (x : α) : ∀ {l : List α}, Srt r l → Srt r (ins r x l)
  | [], _ => by unfold ins Srt; exact List.pairwise_singleton _ _
  | a :: l, h => by
    obtain ⟨ha, hl⟩ := List.pairwise_cons.1 h
    unfold ins
    split
    · rename_i hax
      refine List.pairwise_cons.2 ⟨fun y hy => ?_, srt_ins tr tot x hl⟩
      rcases (mem_ins x y l).1 hy with rfl | hy
      · exact hax
      · exact ha y hy
    · split
      · exact h
      · rename_i h1 h2
        have hxa : r x a = true := by
          rcases tot a x with h3 | h3 | h3
          · exact absurd h3 h1
          · exact absurd h3 h2
          · exact h3
        refine List.pairwise_cons.2 ⟨fun y hy => ?_, h⟩
        rcases List.mem_cons.1 hy with rfl | hy
        · exact hxa
        · exact tr _ _ _ hxa (ha y hy)
theorem ins_perm (x : α) : ∀ {l : List α}, x ∉ l → (ins r x l).Perm (x :: l)
  | [], _ => List.Perm.refl _
  | a :: l, h => by
    unfold ins
    split
    · exact ((ins_perm x (l := l) (fun hx => h (List.mem_cons_of_mem _ hx))).cons a).trans (List.Perm.swap x a l)
    · split
      · rename_i e
        subst e
        exact absurd (by simp) h
      · exact List.Perm.refl _
/-- Where it goes. -/
theorem ins_new {x : α} : ∀ {l : List α} {k : Nat}, k ≤ l.length → (∀ y ∈ l.take k, r y x = true) → (∀ h : k < l.length, r l[k] x = false ∧ ¬ l[k] = x) → ins r x l = l.take k ++ x :: l.drop k
  | [], k, hk, _, _ => by
    obtain rfl : k = 0 := Nat.le_zero.1 hk
    rfl
  | a :: l, 0, _, _, h2 => by
    obtain ⟨h3, h4⟩ := h2 (by simp)
    unfold ins
    rw [if_neg (by simp at h3; simp [h3]), if_neg (by simpa using h4)]
    rfl
  | a :: l, k + 1, hk, h1, h2 => by
    unfold ins
    rw [if_pos (h1 a (by simp)), ins_new (l := l) (k := k) (by simpa using hk) (fun y hy => h1 y (by simp [hy])) (fun h => h2 (Nat.succ_lt_succ h))]
    rfl
theorem ins_old {x : α} : ∀ {l : List α} {k : Nat} (h : k < l.length), (∀ y ∈ l.take k, r y x = true) → r l[k] x = false → l[k] = x → ins r x l = l
  | [], k, h, _, _, _ => absurd h (Nat.not_lt_zero _)
  | a :: l, 0, _, _, h2, h3 => by
    unfold ins
    rw [if_neg (by simp at h2; simp [h2]), if_pos (by simpa using h3)]
  | a :: l, k + 1, h, h1, h2, h3 => by
    unfold ins
    rw [if_pos (h1 a (by simp)), ins_old (l := l) (k := k) (by simpa using h) (fun y hy => h1 y (by simp [hy])) (by simpa using h2) (by simpa using h3)]
/-- All of a list, one by one. -/
def insAll (r : α → α → Bool) (l : List α) : List α := l.foldl (fun out x => ins r x out) []
theorem insAll_snoc (l : List α) (x : α) : insAll r (l ++ [x]) = ins r x (insAll r l) := by unfold insAll; rw [List.foldl_append]; rfl
theorem insAll_take {l : List α} {k : Nat} (h : k < l.length) : insAll r (l.take (k + 1)) = ins r l[k] (insAll r (l.take k)) := by
  rw [List.take_add_one, List.getElem?_eq_getElem h]; exact insAll_snoc _ _
theorem fold_mem (y : α) : ∀ (l out : List α), y ∈ l.foldl (fun out x => ins r x out) out ↔ y ∈ out ∨ y ∈ l
  | [], out => by simp
  | x :: l, out => by
    rw [List.foldl_cons, fold_mem y l, mem_ins, List.mem_cons]
    constructor
    · rintro ((h | h) | h)
      · exact Or.inr (Or.inl h)
      · exact Or.inl h
      · exact Or.inr (Or.inr h)
    · rintro (h | h | h)
      · exact Or.inl (Or.inr h)
      · exact Or.inl (Or.inl h)
      · exact Or.inr h
theorem fold_srt (tr : ∀ a b c, r a b = true → r b c = true → r a c = true) (tot : ∀ a b, r a b = true ∨ a = b ∨ r b a = true) : ∀ (l : List α) {out : List α}, Srt r out → Srt r (l.foldl (fun out x => ins r x out) out)
  | [], _, h => h
  | x :: l, _, h => fold_srt tr tot l (srt_ins tr tot x h)
theorem fold_perm : ∀ (l : List α) {out : List α}, (out ++ l).Nodup → (l.foldl (fun out x => ins r x out) out).Perm (out ++ l)
  | [], out, _ => by rw [List.append_nil]; exact List.Perm.refl _
  | x :: l, out, h => by
    have hx : x ∉ out := fun hx => by
      have := (List.nodup_append.1 h).2.2 x hx x (by simp)
      exact this rfl
    have hp : (ins r x out ++ l).Perm (out ++ x :: l) := ((ins_perm x hx).append_right l).trans (by simpa using (List.perm_middle (a := x) (l₁ := out) (l₂ := l)).symm)
    exact (fold_perm l (out := ins r x out) (hp.nodup_iff.2 h)).trans hp
theorem mem_insAll (y : α) (l : List α) : y ∈ insAll r l ↔ y ∈ l := by unfold insAll; rw [fold_mem]; simp
theorem srt_insAll (tr : ∀ a b c, r a b = true → r b c = true → r a c = true) (tot : ∀ a b, r a b = true ∨ a = b ∨ r b a = true) (l : List α) : Srt r (insAll r l) := fold_srt tr tot l List.Pairwise.nil
theorem insAll_len {l : List α} (h : l.Nodup) : (insAll r l).length = l.length := by
  have := (fold_perm (r := r) l (out := []) (by simpa using h)).length_eq
  simpa [insAll] using this
end

/-! Offers in their order. -/
abbrev VOff := Txt × Txt × Txt
def lessO (a b : VOff) : Bool := if a.1 = b.1 then (if a.2.1 = b.2.1 then lt a.2.2 b.2.2 else lt a.2.1 b.2.1) else lt a.1 b.1
theorem lessO_irrefl (a : VOff) : lessO a a = false := by unfold lessO; rw [if_pos rfl, if_pos rfl, lt_irrefl]
theorem lessO_trans {a b c : VOff} (h1 : lessO a b = true) (h2 : lessO b c = true) : lessO a c = true := by
  obtain ⟨a0, a1, a2⟩ := a
  obtain ⟨b0, b1, b2⟩ := b
  obtain ⟨c0, c1, c2⟩ := c
  unfold lessO at *
  simp only at *
  by_cases e1 : a0 = b0
  · subst e1
    rw [if_pos rfl] at h1
    by_cases e2 : a0 = c0
    · subst e2
      rw [if_pos rfl] at h2 ⊢
      by_cases e3 : a1 = b1
      · subst e3
        rw [if_pos rfl] at h1
        by_cases e4 : a1 = c1
        · subst e4
          rw [if_pos rfl] at h2 ⊢
          exact lt_trans h1 h2
        · rw [if_neg e4] at h2 ⊢; exact h2
      · rw [if_neg e3] at h1
        by_cases e4 : b1 = c1
        · subst e4
          rw [if_neg e3]; exact h1
        · rw [if_neg e4] at h2
          have h3 := lt_trans h1 h2
          rw [if_neg (lt_ne h3)]; exact h3
    · rw [if_neg e2] at h2 ⊢; exact h2
  · rw [if_neg e1] at h1
    by_cases e2 : b0 = c0
    · subst e2
      rw [if_neg e1]; exact h1
    · rw [if_neg e2] at h2
      have h3 := lt_trans h1 h2
      rw [if_neg (lt_ne h3)]; exact h3
theorem lessO_total (a b : VOff) : lessO a b = true ∨ a = b ∨ lessO b a = true := by
  obtain ⟨a0, a1, a2⟩ := a
  obtain ⟨b0, b1, b2⟩ := b
  unfold lessO
  simp only
  by_cases e1 : a0 = b0
  · subst e1
    rw [if_pos rfl, if_pos rfl]
    by_cases e2 : a1 = b1
    · subst e2
      rw [if_pos rfl, if_pos rfl]
      rcases lt_total a2 b2 with h | h | h
      · exact Or.inl h
      · exact Or.inr (Or.inl (by rw [h]))
      · exact Or.inr (Or.inr h)
    · rw [if_neg e2, if_neg (fun e => e2 e.symm)]
      rcases lt_total a1 b1 with h | h | h
      · exact Or.inl h
      · exact absurd h e2
      · exact Or.inr (Or.inr h)
  · rw [if_neg e1, if_neg (fun e => e1 e.symm)]
    rcases lt_total a0 b0 with h | h | h
    · exact Or.inl h
    · exact absurd h e1
    · exact Or.inr (Or.inr h)
/-- By prices first. -/
def aheadO (p : VOff → Int) (a b : VOff) : Bool := if p a = p b then lessO a b else decide (p a < p b)
theorem aheadO_irrefl (p : VOff → Int) (a : VOff) : aheadO p a a = false := by unfold aheadO; rw [if_pos rfl, lessO_irrefl]
theorem aheadO_trans (p : VOff → Int) (a b c : VOff) (h1 : aheadO p a b = true) (h2 : aheadO p b c = true) : aheadO p a c = true := by
  unfold aheadO at *
  by_cases e1 : p a = p b
  · rw [if_pos e1] at h1
    by_cases e2 : p b = p c
    · rw [if_pos e2] at h2
      rw [if_pos (e1.trans e2)]; exact lessO_trans h1 h2
    · rw [if_neg e2, decide_eq_true_eq] at h2
      rw [if_neg (by omega), decide_eq_true_eq]; omega
  · rw [if_neg e1, decide_eq_true_eq] at h1
    by_cases e2 : p b = p c
    · rw [if_neg (by omega), decide_eq_true_eq]; omega
    · rw [if_neg e2, decide_eq_true_eq] at h2
      rw [if_neg (by omega), decide_eq_true_eq]; omega
theorem aheadO_total (p : VOff → Int) (a b : VOff) : aheadO p a b = true ∨ a = b ∨ aheadO p b a = true := by
  unfold aheadO
  by_cases e : p a = p b
  · rw [if_pos e, if_pos e.symm]; exact lessO_total a b
  · rw [if_neg e, if_neg (fun h => e h.symm), decide_eq_true_eq, decide_eq_true_eq]
    by_cases h : p a < p b
    · exact Or.inl h
    · exact Or.inr (Or.inr (by omega))
theorem aheadO_price {p : VOff → Int} {a b : VOff} (h : aheadO p a b = true) : p a ≤ p b := by
  unfold aheadO at h
  by_cases e : p a = p b
  · omega
  · rw [if_neg e, decide_eq_true_eq] at h; omega
end Go.Proofs.YtepcnfnmphgccaaGreatDoor.Val

/- Layer 6, plain mathematics alone: types and catalogues that may be; what an offer has, costs, is called; offers in order; those that meet requirements. No program is named. -/
namespace Go.Proofs.YtepcnfnmphgccaaGreatDoor.Val
open Suf

def kZone : Txt := [122, 111, 110, 101]
def kType : Txt := [116, 121, 112, 101]
def kKind : Txt := [107, 105, 110, 100]
def kPool : Txt := [112, 111, 111, 108]
def kHost : Txt := [104, 111, 115, 116]
structure VOfg where
  zone : Txt
  kind : Txt
  price : Int
  opn : Bool
structure VType where
  name : Txt
  cap : Int × Int
  ovr : Int × Int
  labs : List Lab
  offs : List VOfg
def chkN (n : Int) : Int := if n < 0 then 11 else if 1125899906842624 < n then 10 else 0
def chkAll (a : Int × Int) : Int := if chkN a.1 = 0 then chkN a.2 else chkN a.1
def fitsN (a b : Int × Int) : Bool := decide (chkAll a = 0 ∧ chkAll b = 0 ∧ a.1 ≤ b.1 ∧ a.2 ≤ b.2)
def own5 (k : Txt) : Bool := (k == kZone) || (k == kType) || (k == kKind) || (k == kPool) || (k == kHost)
def tlabF : List Lab → List Lab → Int
  | _, [] => 0
  | seen, x :: l => if nameB x.1 = false then 7 else if own5 x.1 = true then 1 else if valueB x.2 = false then 20 else if seen.any (fun y => y.1 == x.1) = true then 6 else tlabF (seen ++ [x]) l
def tlabR (l : List Lab) : Int := if 4 < l.length then 3 else tlabF [] l
def sameZK (y x : VOfg) : Bool := (y.zone == x.zone) && (y.kind == x.kind)
def ofgF : List VOfg → List VOfg → Int
  | _, [] => 0
  | seen, x :: l => if (nameB x.zone && nameB x.kind) = false then 7 else if ¬ chkN x.price = 0 then chkN x.price else if seen.any (fun y => sameZK y x) = true then 6 else ofgF (seen ++ [x]) l
def ofgR (l : List VOfg) : Int := if 6 < l.length then 3 else ofgF [] l
def typeR (t : VType) : Int :=
  if nameB t.name = false then 7 else if ¬ chkAll t.cap = 0 then chkAll t.cap else if ¬ chkAll t.ovr = 0 then chkAll t.ovr else if fitsN t.ovr t.cap = false then 1 else if ¬ tlabR t.labs = 0 then tlabR t.labs else ofgR t.offs
def typesF : List VType → List VType → Int
  | _, [] => 0
  | seen, x :: l => if ¬ typeR x = 0 then typeR x else if seen.any (fun y => y.name == x.name) = true then 6 else typesF (seen ++ [x]) l
def catR (l : List VType) : Int := if 12 < l.length then 3 else typesF [] l

theorem take_at6 {α : Type} (l : List α) (k : Nat) (h : k < l.length) : l.take (k + 1) = l.take k ++ [l[k]] := by rw [List.take_add_one, List.getElem?_eq_getElem h]; rfl
theorem tlab_step {l : List Lab} {k : Nat} (h : k < l.length) : tlabF (l.take k) (l.drop k) = if nameB l[k].1 = false then 7 else if own5 l[k].1 = true then 1 else if valueB l[k].2 = false then 20 else if (l.take k).any (fun y => y.1 == l[k].1) = true then 6 else tlabF (l.take (k + 1)) (l.drop (k + 1)) := by
  rw [List.drop_eq_getElem_cons h, take_at6 l k h]; rfl
theorem ofg_step {l : List VOfg} {k : Nat} (h : k < l.length) : ofgF (l.take k) (l.drop k) = if (nameB l[k].zone && nameB l[k].kind) = false then 7 else if ¬ chkN l[k].price = 0 then chkN l[k].price else if (l.take k).any (fun y => sameZK y l[k]) = true then 6 else ofgF (l.take (k + 1)) (l.drop (k + 1)) := by
  rw [List.drop_eq_getElem_cons h, take_at6 l k h]; rfl
theorem types_step {l : List VType} {k : Nat} (h : k < l.length) : typesF (l.take k) (l.drop k) = if ¬ typeR l[k] = 0 then typeR l[k] else if (l.take k).any (fun y => y.name == l[k].name) = true then 6 else typesF (l.take (k + 1)) (l.drop (k + 1)) := by
  rw [List.drop_eq_getElem_cons h, take_at6 l k h]; rfl

theorem chk_nz {n : Int} (h : ¬ chkN n = 0) : chkN n = 10 ∨ chkN n = 11 := by
  unfold chkN at *
  split
  · exact Or.inr rfl
  · split
    · exact Or.inl rfl
    · rename_i h1 h2; rw [if_neg h1, if_neg h2] at h; exact absurd rfl h
theorem tlab_ok : ∀ (l seen : List Lab), tlabF seen l = 0 → (∀ x ∈ l, nameB x.1 = true ∧ own5 x.1 = false ∧ valueB x.2 = true ∧ ∀ y ∈ seen, ¬ y.1 = x.1) ∧ l.Pairwise fun a b => ¬ a.1 = b.1
  | [], _, _ => ⟨fun x hx => (by cases hx), List.Pairwise.nil⟩
  | x :: l, seen, h => by
    unfold tlabF at h
    split at h
    · cases h
    · split at h
      · cases h
      · split at h
        · cases h
        · split at h
          · cases h
          · rename_i h1 h2 h3 h4
            obtain ⟨i1, i2⟩ := tlab_ok l _ h
            have hs : ∀ y ∈ seen, ¬ y.1 = x.1 := fun y hy e => h4 (List.any_eq_true.2 ⟨y, hy, by simp [e]⟩)
            refine ⟨fun y hy => ?_, List.pairwise_cons.2 ⟨fun y hy => (i1 y hy).2.2.2 x (by simp), i2⟩⟩
            rcases List.mem_cons.1 hy with rfl | hy
            · exact ⟨by simpa using h1, by simpa using h2, by simpa using h3, hs⟩
            · obtain ⟨j1, j2, j3, j4⟩ := i1 y hy
              exact ⟨j1, j2, j3, fun z hz => j4 z (by simp [hz])⟩
theorem ofg_ok : ∀ (l seen : List VOfg), ofgF seen l = 0 → (∀ x ∈ l, nameB x.zone = true ∧ nameB x.kind = true ∧ chkN x.price = 0 ∧ ∀ y ∈ seen, sameZK y x = false) ∧ l.Pairwise fun a b => sameZK a b = false
  | [], _, _ => ⟨fun x hx => (by cases hx), List.Pairwise.nil⟩
  | x :: l, seen, h => by
    unfold ofgF at h
    split at h
    · cases h
    · split at h
      · rename_i h1 h2; exact absurd h h2
      · split at h
        · cases h
        · rename_i h1 h2 h3
          obtain ⟨i1, i2⟩ := ofg_ok l _ h
          have hs : ∀ y ∈ seen, sameZK y x = false := fun y hy => Bool.eq_false_iff.2 fun e => h3 (List.any_eq_true.2 ⟨y, hy, e⟩)
          refine ⟨fun y hy => ?_, List.pairwise_cons.2 ⟨fun y hy => (i1 y hy).2.2.2 x (by simp), i2⟩⟩
          rcases List.mem_cons.1 hy with rfl | hy
          · have hn : (nameB y.zone && nameB y.kind) = true := by simpa using h1
            rw [Bool.and_eq_true] at hn
            exact ⟨hn.1, hn.2, by simpa using h2, hs⟩
          · obtain ⟨j1, j2, j3, j4⟩ := i1 y hy
            exact ⟨j1, j2, j3, fun z hz => j4 z (by simp [hz])⟩
theorem types_ok : ∀ (l seen : List VType), typesF seen l = 0 → (∀ x ∈ l, typeR x = 0 ∧ ∀ y ∈ seen, ¬ y.name = x.name) ∧ l.Pairwise fun a b => ¬ a.name = b.name
  | [], _, _ => ⟨fun x hx => (by cases hx), List.Pairwise.nil⟩
  | x :: l, seen, h => by
    unfold typesF at h
    split at h
    · rename_i h1; exact absurd h h1
    · split at h
      · cases h
      · rename_i h1 h2
        obtain ⟨i1, i2⟩ := types_ok l _ h
        have hs : ∀ y ∈ seen, ¬ y.name = x.name := fun y hy e => h2 (List.any_eq_true.2 ⟨y, hy, by simp [e]⟩)
        refine ⟨fun y hy => ?_, List.pairwise_cons.2 ⟨fun y hy => (i1 y hy).2 x (by simp), i2⟩⟩
        rcases List.mem_cons.1 hy with rfl | hy
        · exact ⟨by simpa using h1, hs⟩
        · exact ⟨(i1 y hy).1, fun z hz => (i1 y hy).2 z (by simp [hz])⟩
theorem types_back : ∀ (l seen : List VType), (∀ x ∈ l, typeR x = 0 ∧ ∀ y ∈ seen, ¬ y.name = x.name) → (l.Pairwise fun a b => ¬ a.name = b.name) → typesF seen l = 0
  | [], _, _, _ => rfl
  | x :: l, seen, h, hp => by
    obtain ⟨p1, p2⟩ := List.pairwise_cons.1 hp
    have hx := h x (by simp)
    unfold typesF
    rw [if_neg (by simp [hx.1]), if_neg]
    · refine types_back l _ (fun y hy => ⟨(h y (by simp [hy])).1, fun z hz => ?_⟩) p2
      rcases List.mem_append.1 hz with hz | hz
      · exact (h y (by simp [hy])).2 z hz
      · rw [List.mem_singleton] at hz; subst hz; exact p1 y hy
    · intro e
      obtain ⟨y, hy, he⟩ := List.any_eq_true.1 e
      exact hx.2 y hy (by simpa using he)
structure TypeOk (t : VType) : Prop where
  name : nameB t.name = true
  cap : chkAll t.cap = 0
  ovr : chkAll t.ovr = 0
  fits : fitsN t.ovr t.cap = true
  labs : t.labs.length ≤ 4
  labsOk : tlabF [] t.labs = 0
  offs : t.offs.length ≤ 6
  offsOk : ofgF [] t.offs = 0
theorem type_ok {t : VType} (h : typeR t = 0) : TypeOk t := by
  unfold typeR at h
  split at h
  · cases h
  · split at h
    · rename_i h1 h2; exact absurd h h2
    · split at h
      · rename_i h1 h2 h3; exact absurd h h3
      · split at h
        · cases h
        · split at h
          · rename_i h5; exact absurd h h5
          · rename_i h1 h2 h3 h4 h5
            have h5' : tlabR t.labs = 0 := by simpa using h5
            unfold tlabR at h5'
            unfold ofgR at h
            split at h5'
            · cases h5'
            · split at h
              · cases h
              · exact ⟨by simpa using h1, by simpa using h2, by simpa using h3, by simpa using h4, by omega, h5', by omega, h⟩
theorem cat_ok {l : List VType} (h : catR l = 0) : l.length ≤ 12 ∧ (∀ t ∈ l, TypeOk t) ∧ l.Pairwise fun a b => ¬ a.name = b.name := by
  unfold catR at h
  split at h
  · cases h
  · obtain ⟨h1, h2⟩ := types_ok l [] h
    exact ⟨by omega, fun t ht => type_ok (h1 t ht).1, h2⟩

/-! What an offer is. -/
def hitO (o : VOff) (t : VType) (x : VOfg) : Bool := (t.name == o.1) && ((x.zone == o.2.1) && (x.kind == o.2.2))
def findF (o : VOff) : List VType → Option (VType × VOfg)
  | [] => none
  | t :: ts => match t.offs.find? (hitO o t) with
    | some x => some (t, x)
    | none => findF o ts
def findR (ts : List VType) (o : VOff) : Option (VType × VOfg) := if catR ts = 0 then findF o ts else none
def priceR (ts : List VType) (o : VOff) : Int × Bool := match findR ts o with
  | some x => (x.2.price, true)
  | none => (0, false)
def thereB (ts : List VType) (o : VOff) : Bool := (findR ts o).isSome
def hasR (ts : List VType) (o : VOff) : (Int × Int) × Bool := match findR ts o with
  | some x => ((x.1.cap.1 - x.1.ovr.1, x.1.cap.2 - x.1.ovr.2), true)
  | none => ((0, 0), false)
def openR (ts : List VType) (o : VOff) : Bool := match findR ts o with
  | some x => x.2.opn
  | none => false
theorem price_there (ts : List VType) (o : VOff) : (priceR ts o).2 = thereB ts o := by unfold priceR thereB; cases findR ts o <;> rfl
theorem find_some {o : VOff} : ∀ {ts : List VType} {x : VType × VOfg}, findF o ts = some x → x.1 ∈ ts ∧ x.2 ∈ x.1.offs ∧ hitO o x.1 x.2 = true
  | [], x, h => by cases h
  | t :: ts, x, h => by
    unfold findF at h
    split at h
    · rename_i y hy
      obtain rfl : (t, y) = x := by injection h
      exact ⟨by simp, List.mem_of_find?_eq_some hy, List.find?_some hy⟩
    · obtain ⟨h1, h2, h3⟩ := find_some h
      exact ⟨by simp [h1], h2, h3⟩
theorem find_none {o : VOff} : ∀ {ts : List VType}, findF o ts = none ↔ ∀ t ∈ ts, ∀ x ∈ t.offs, hitO o t x = false
  | [] => by simp [findF]
  | t :: ts => by
    unfold findF
    split
    · rename_i y hy
      constructor
      · intro h; cases h
      · intro h
        have := h t (by simp) y (List.mem_of_find?_eq_some hy)
        rw [List.find?_some hy] at this; cases this
    · rename_i hn
      rw [find_none]
      constructor
      · intro h u hu x hx
        rcases List.mem_cons.1 hu with rfl | hu
        · simpa using List.find?_eq_none.1 hn x hx
        · exact h u hu x hx
      · intro h u hu x hx
        exact h u (by simp [hu]) x hx
theorem hit_own (t : VType) (x : VOfg) : hitO (t.name, x.zone, x.kind) t x = true := by unfold hitO; simp
theorem hit_iff {o : VOff} {t : VType} {x : VOfg} : hitO o t x = true ↔ o = (t.name, x.zone, x.kind) := by
  obtain ⟨a, b, c⟩ := o
  unfold hitO
  simp only [Bool.and_eq_true, beq_iff_eq, Prod.mk.injEq]
  constructor
  · rintro ⟨h1, h2, h3⟩; exact ⟨h1.symm, h2.symm, h3.symm⟩
  · rintro ⟨h1, h2, h3⟩; exact ⟨h1.symm, h2.symm, h3.symm⟩
/-- Of what is there just one is it. -/
theorem one_of {α : Type} {p : α → α → Prop} {l : List α} (h : l.Pairwise p) (sym : ∀ a b, p a b → p b a) {x y : α} (hx : x ∈ l) (hy : y ∈ l) (hn : ¬ p x y) : x = y := by
  induction l with
  | nil => cases hx
  | cons a l ih =>
    obtain ⟨h1, h2⟩ := List.pairwise_cons.1 h
    rcases List.mem_cons.1 hx with ex | hx'
    · rcases List.mem_cons.1 hy with ey | hy'
      · rw [ex, ey]
      · exact absurd (by rw [ex]; exact h1 y hy') hn
    · rcases List.mem_cons.1 hy with ey | hy'
      · exact absurd (sym _ _ (by rw [ey]; exact h1 x hx')) hn
      · exact ih h2 hx' hy'
theorem find_mem {ts : List VType} (h : catR ts = 0) {t : VType} (ht : t ∈ ts) {x : VOfg} (hx : x ∈ t.offs) : findR ts (t.name, x.zone, x.kind) = some (t, x) := by
  obtain ⟨_, hok, hp⟩ := cat_ok h
  unfold findR
  rw [if_pos h]
  cases hf : findF (t.name, x.zone, x.kind) ts with
  | none =>
    have := find_none.1 hf t ht x hx
    rw [hit_own] at this; cases this
  | some y =>
    obtain ⟨h1, h2, h3⟩ := find_some hf
    have he := hit_iff.1 h3
    simp only [Prod.mk.injEq] at he
    obtain rfl : y.1 = t := one_of hp (fun a b h e => h e.symm) h1 ht (fun hn => hn he.1.symm)
    obtain rfl : y.2 = x := one_of (ofg_ok _ _ (hok y.1 ht).offsOk).2 (fun a b hab => by
      unfold sameZK at *
      rw [Bool.and_eq_false_iff, beq_eq_false_iff_ne, beq_eq_false_iff_ne] at *
      rcases hab with h | h
      · exact Or.inl (fun e => h e.symm)
      · exact Or.inr (fun e => h e.symm)) h2 hx (fun hn => by
        unfold sameZK at hn
        rw [he.2.1, he.2.2] at hn
        simp at hn)
    rfl
theorem there_iff {ts : List VType} (h : catR ts = 0) {o : VOff} : thereB ts o = true ↔ ∃ t ∈ ts, ∃ x ∈ t.offs, o = (t.name, x.zone, x.kind) := by
  constructor
  · intro hb
    unfold thereB at hb
    obtain ⟨y, hy⟩ := Option.isSome_iff_exists.1 hb
    unfold findR at hy
    rw [if_pos h] at hy
    obtain ⟨h1, h2, h3⟩ := find_some hy
    exact ⟨y.1, h1, y.2, h2, hit_iff.1 h3⟩
  · rintro ⟨t, ht, x, hx, rfl⟩
    unfold thereB
    rw [find_mem h ht hx]; rfl
theorem there_bad {ts : List VType} (h : ¬ catR ts = 0) (o : VOff) : thereB ts o = false := by unfold thereB findR; rw [if_neg h]; rfl

/-! Orders. -/
def aheadR (ts : List VType) (a b : VOff) : Bool := aheadO (fun o => (priceR ts o).1) a b
def orderR (ts : List VType) (l : List VOff) : List VOff := insAll (aheadR ts) (l.filter (thereB ts))
def openL (ts : List VType) : List VOff := ts.flatMap fun t => (t.offs.filter (·.opn)).map fun x => (t.name, x.zone, x.kind)
def offersR (ts : List VType) : List VOff := orderR ts (openL ts)
theorem ahead_tr (ts : List VType) (a b c : VOff) (h1 : aheadR ts a b = true) (h2 : aheadR ts b c = true) : aheadR ts a c = true := aheadO_trans _ a b c h1 h2
theorem ahead_ir (ts : List VType) (a : VOff) : aheadR ts a a = false := aheadO_irrefl _ a
theorem ahead_tot (ts : List VType) (a b : VOff) : aheadR ts a b = true ∨ a = b ∨ aheadR ts b a = true := aheadO_total _ a b
theorem mem_order {ts : List VType} {l : List VOff} {o : VOff} : o ∈ orderR ts l ↔ o ∈ l ∧ thereB ts o = true := by unfold orderR; rw [mem_insAll, List.mem_filter]
theorem srt_order (ts : List VType) (l : List VOff) : Srt (aheadR ts) (orderR ts l) := srt_insAll (ahead_tr ts) (ahead_tot ts) _
/-- What is in order, with these members, is it. -/
theorem order_is {ts : List VType} {l out : List VOff} (hs : Srt (aheadR ts) out) (hm : ∀ o, o ∈ out ↔ o ∈ l ∧ thereB ts o = true) : out = orderR ts l :=
  srt_ext (ahead_ir ts) (ahead_tr ts) hs (srt_order ts l) (fun o => (hm o).trans mem_order.symm)
theorem order_next {ts : List VType} {l : List VOff} {k : Nat} (h : k < l.length) : orderR ts (l.take (k + 1)) = if thereB ts l[k] = true then ins (aheadR ts) l[k] (orderR ts (l.take k)) else orderR ts (l.take k) := by
  unfold orderR
  rw [take_at6 l k h, List.filter_append]
  by_cases e : thereB ts l[k] = true
  · rw [if_pos e, List.filter_cons_of_pos e]; exact insAll_snoc _ _
  · rw [if_neg e, List.filter_cons_of_neg e]; simp
theorem order_len (ts : List VType) (l : List VOff) : (orderR ts l).length ≤ l.length := by
  have : ∀ (m out : List VOff), (m.foldl (fun out x => ins (aheadR ts) x out) out).length ≤ out.length + m.length := by
    intro m
    induction m with
    | nil => intro out; simp
    | cons x m ih =>
      intro out
      have h1 := ih (ins (aheadR ts) x out)
      have h2 : ∀ o : List VOff, (ins (aheadR ts) x o).length ≤ o.length + 1 := by
        intro o
        induction o with
        | nil => simp [ins]
        | cons a o ih2 =>
          unfold ins
          split
          · simp; exact ih2
          · split <;> simp
      have h3 := h2 out
      rw [List.foldl_cons, List.length_cons]
      omega
  have h1 := this (l.filter (thereB ts)) []
  have h2 := List.length_filter_le (thereB ts) l
  unfold orderR insAll
  simp at h1
  omega
theorem order_self {ts : List VType} {l : List VOff} (hs : Srt (aheadR ts) l) (ht : ∀ o ∈ l, thereB ts o = true) : orderR ts l = l :=
  (order_is hs (fun o => ⟨fun h => ⟨h, ht o h⟩, fun h => h.1⟩)).symm
theorem mem_open {ts : List VType} {o : VOff} : o ∈ openL ts ↔ ∃ t ∈ ts, ∃ x ∈ t.offs, x.opn = true ∧ o = (t.name, x.zone, x.kind) := by
  unfold openL
  rw [List.mem_flatMap]
  constructor
  · rintro ⟨t, ht, h⟩
    obtain ⟨x, hx, rfl⟩ := List.mem_map.1 h
    obtain ⟨h1, h2⟩ := List.mem_filter.1 hx
    exact ⟨t, ht, x, h1, h2, rfl⟩
  · rintro ⟨t, ht, x, hx, ho, rfl⟩
    exact ⟨t, ht, List.mem_map.2 ⟨x, List.mem_filter.2 ⟨hx, ho⟩, rfl⟩⟩
/-- CatalogRises. -/
theorem offers_at {ts : List VType} {o : VOff} (h : o ∈ offersR ts) : thereB ts o = true ∧ openR ts o = true := by
  obtain ⟨h1, h2⟩ := mem_order.1 h
  refine ⟨h2, ?_⟩
  by_cases hc : catR ts = 0
  · obtain ⟨t, ht, x, hx, ho, rfl⟩ := mem_open.1 h1
    unfold openR
    rw [find_mem hc ht hx]; exact ho
  · rw [there_bad hc] at h2; cases h2
theorem offers_price {ts : List VType} {i j : Nat} (hij : i < j) (hj : j < (offersR ts).length) : (priceR ts (offersR ts)[i]).1 ≤ (priceR ts (offersR ts)[j]).1 :=
  aheadO_price (List.pairwise_iff_getElem.1 (srt_order ts (openL ts)) i j (Nat.lt_trans hij hj) hj hij)
theorem offers_self (ts : List VType) : orderR ts (offersR ts) = offersR ts := order_self (srt_order ts _) (fun _ ho => (offers_at ho).1)
theorem offers_back {ts : List VType} {l : List VOff} (h : ∀ o, o ∈ l ↔ o ∈ offersR ts) : orderR ts l = offersR ts :=
  (order_is (srt_order ts _) (fun o => ⟨fun ho => ⟨(h o).2 ho, (offers_at ho).1⟩, fun ho => (h o).1 ho.1⟩)).symm
theorem price_pos {ts : List VType} (o : VOff) : 0 ≤ (priceR ts o).1 := by
  unfold priceR
  cases hf : findR ts o with
  | none => exact Int.le_refl _
  | some y =>
    unfold findR at hf
    split at hf
    · rename_i hc
      obtain ⟨h1, h2, _⟩ := find_some hf
      have := ((ofg_ok _ _ ((cat_ok hc).2.1 y.1 h1).offsOk).1 y.2 h2).2.2.1
      unfold chkN at this
      split at this
      · cases this
      · show 0 ≤ y.2.price; omega
    · cases hf

/-! Labels. -/
def insL (x : Lab) : List Lab → List Lab
  | [] => [x]
  | a :: l => if lt a.1 x.1 = true then a :: insL x l else x :: a :: l
theorem insL_at {x : Lab} : ∀ {l : List Lab} {k : Nat}, k ≤ l.length → (∀ y ∈ l.take k, lt y.1 x.1 = true) → (∀ h : k < l.length, lt l[k].1 x.1 = false) → insL x l = l.take k ++ x :: l.drop k
  | [], k, hk, _, _ => by
    obtain rfl : k = 0 := Nat.le_zero.1 hk
    rfl
  | a :: l, 0, _, _, h2 => by
    have h3 := h2 (by simp)
    unfold insL
    rw [if_neg (by simp at h3; simp [h3])]
    rfl
  | a :: l, k + 1, hk, h1, h2 => by
    unfold insL
    rw [if_pos (h1 a (by simp)), insL_at (l := l) (k := k) (by simpa using hk) (fun y hy => h1 y (by simp [hy])) (fun h => h2 (Nat.succ_lt_succ h))]
    rfl
theorem insL_perm (x : Lab) : ∀ l : List Lab, (insL x l).Perm (x :: l)
  | [] => List.Perm.refl _
  | a :: l => by
    unfold insL
    split
    · exact ((insL_perm x l).cons a).trans (List.Perm.swap x a l)
    · exact List.Perm.refl _
def byKey (a b : Lab) : Bool := lt a.1 b.1
theorem insL_srt {x : Lab} : ∀ {l : List Lab}, Srt byKey l → (∀ y ∈ l, ¬ y.1 = x.1) → Srt byKey (insL x l)
  | [], _, _ => by unfold insL Srt; exact List.pairwise_singleton _ _
  | a :: l, h, hn => by
    obtain ⟨ha, hl⟩ := List.pairwise_cons.1 h
    unfold insL
    split
    · rename_i hax
      refine List.pairwise_cons.2 ⟨fun y hy => ?_, insL_srt hl (fun y hy => hn y (by simp [hy]))⟩
      rcases List.mem_cons.1 ((insL_perm x l).mem_iff.1 hy) with rfl | hy
      · exact hax
      · exact ha y hy
    · rename_i h1
      have hxa : lt x.1 a.1 = true := by
        rcases lt_total a.1 x.1 with h3 | h3 | h3
        · exact absurd h3 h1
        · exact absurd h3 (hn a (by simp))
        · exact h3
      refine List.pairwise_cons.2 ⟨fun y hy => ?_, h⟩
      rcases List.mem_cons.1 hy with rfl | hy
      · exact hxa
      · exact lt_trans hxa (ha y hy)
def fiveL (o : VOff) (pool name : Txt) : List Lab := [(kHost, name), (kKind, o.2.2), (kPool, pool), (kType, o.1), (kZone, o.2.1)]
def labsF (five l : List Lab) : List Lab := l.foldl (fun all x => insL x all) five
def labsR (ts : List VType) (o : VOff) (pool name : Txt) : List Lab := match findR ts o with
  | some y => labsF (fiveL o pool name) y.1.labs
  | none => []
theorem labs_next {five l : List Lab} {k : Nat} (h : k < l.length) : labsF five (l.take (k + 1)) = insL l[k] (labsF five (l.take k)) := by
  unfold labsF; rw [take_at6 l k h, List.foldl_append]; rfl
theorem labsF_perm : ∀ (l five : List Lab), (labsF five l).Perm (five ++ l)
  | [], five => by rw [List.append_nil]; exact List.Perm.refl _
  | x :: l, five => by
    have h1 : (labsF (insL x five) l).Perm (insL x five ++ l) := labsF_perm l _
    exact h1.trans (((insL_perm x five).append_right l).trans (by simpa using (List.perm_middle (a := x) (l₁ := five) (l₂ := l)).symm))
theorem labsF_srt : ∀ (l five : List Lab), Srt byKey five → (∀ x ∈ l, ∀ y ∈ five, ¬ y.1 = x.1) → (l.Pairwise fun a b => ¬ a.1 = b.1) → Srt byKey (labsF five l)
  | [], _, h, _, _ => h
  | x :: l, five, h, hn, hp => by
    obtain ⟨p1, p2⟩ := List.pairwise_cons.1 hp
    refine labsF_srt l (insL x five) (insL_srt h (hn x (by simp))) (fun z hz y hy => ?_) p2
    rcases List.mem_cons.1 ((insL_perm x five).mem_iff.1 hy) with rfl | hy
    · exact p1 z hz
    · exact hn z (by simp [hz]) y hy
theorem five_srt (o : VOff) (pool name : Txt) : Srt byKey (fiveL o pool name) := by
  unfold fiveL Srt byKey
  have e1 : lt kHost kKind = true := by decide
  have e2 : lt kKind kPool = true := by decide
  have e3 : lt kPool kType = true := by decide
  have e4 : lt kType kZone = true := by decide
  refine List.pairwise_cons.2 ⟨?_, List.pairwise_cons.2 ⟨?_, List.pairwise_cons.2 ⟨?_, List.pairwise_cons.2 ⟨?_, List.pairwise_singleton _ _⟩⟩⟩⟩
  all_goals
    intro y hy
    simp only [List.mem_cons, List.not_mem_nil, or_false] at hy
  · rcases hy with rfl | rfl | rfl | rfl
    · exact e1
    · exact lt_trans e1 e2
    · exact lt_trans (lt_trans e1 e2) e3
    · exact lt_trans (lt_trans (lt_trans e1 e2) e3) e4
  · rcases hy with rfl | rfl | rfl
    · exact e2
    · exact lt_trans e2 e3
    · exact lt_trans (lt_trans e2 e3) e4
  · rcases hy with rfl | rfl
    · exact e3
    · exact lt_trans e3 e4
  · subst hy; exact e4
theorem own_five {k : Txt} (h : own5 k = false) (o : VOff) (pool name : Txt) : ∀ y ∈ fiveL o pool name, ¬ y.1 = k := by
  intro y hy e
  unfold own5 at h
  simp only [Bool.or_eq_false_iff, beq_eq_false_iff_ne, ne_eq] at h
  obtain ⟨⟨⟨⟨h1, h2⟩, h3⟩, h4⟩, h5⟩ := h
  unfold fiveL at hy
  simp only [List.mem_cons, List.not_mem_nil, or_false] at hy
  rcases hy with rfl | rfl | rfl | rfl | rfl
  · exact h5 e.symm
  · exact h3 e.symm
  · exact h4 e.symm
  · exact h2 e.symm
  · exact h1 e.symm
/-- What a type's labels and the five are, rising by their keys, is it. -/
theorem labs_is {t : VType} (h : TypeOk t) {o : VOff} {pool name : Txt} {out : List Lab} (hs : Srt byKey out) (hp : out.Perm (fiveL o pool name ++ t.labs)) : out = labsF (fiveL o pool name) t.labs := by
  have hl := tlab_ok _ _ h.labsOk
  refine srt_ext (r := byKey) (fun a => lt_irrefl a.1) (fun a b c h1 h2 => lt_trans h1 h2) hs (labsF_srt _ _ (five_srt o pool name) (fun x hx => own_five (hl.1 x hx).2.1 o pool name) hl.2) (fun x => ?_)
  rw [hp.mem_iff, (labsF_perm t.labs _).mem_iff]

/-! Those that meet requirements. -/
def meetsO (ts : List VType) (rs : List VReq) (pool name : Txt) (o : VOff) : Bool := thereB ts o && (admitsR rs (labsR ts o pool name)).1
def matchR (ts : List VType) (l : List VOff) (rs : List VReq) (pool name : Txt) : List VOff × Int :=
  if ¬ (admitsR rs []).2 = 0 then ([], (admitsR rs []).2) else if (nameB pool && nameB name) = false then ([], 7) else (l.filter (meetsO ts rs pool name), 0)
theorem adm_nil {rs : List VReq} : (admitsR rs []).2 = moreR 16 rs := by
  unfold admitsR
  split
  · rename_i h; rw [h]; rfl
  · rfl
theorem adm_both {a b : List VReq} (ha : moreR 16 a = 0) (hb : moreR 16 b = 0) (hab : moreR 16 (a ++ b) = 0) (ls : List Lab) : (admitsR (a ++ b) ls).1 = ((admitsR a ls).1 && (admitsR b ls).1) := by
  unfold admitsR
  rw [if_pos ha, if_pos hb, if_pos hab]
  by_cases hl : labelsR ls = 0
  · rw [if_pos hl, if_pos hl, if_pos hl]; exact List.all_append
  · rw [if_neg hl, if_neg hl, if_neg hl]; rfl
theorem more_16 {a : List VReq} (h : moreR 8 a = 0) : moreR 16 a = 0 := more_ok.2 ⟨by have := (more_ok.1 h).1; omega, (more_ok.1 h).2⟩
theorem more_ab {a b : List VReq} (h : moreR 8 a = 0) (h2 : moreR 8 b = 0) : moreR 16 (a ++ b) = 0 := more_ok.2 ⟨by have := (more_ok.1 h).1; have := (more_ok.1 h2).1; simp; omega, fun r hr => by
  rcases List.mem_append.1 hr with hr | hr
  · exact (more_ok.1 h).2 r hr
  · exact (more_ok.1 h2).2 r hr⟩
/-- CatalogBoth. -/
theorem match_both {ts : List VType} {l : List VOff} {a b : List VReq} (ha : moreR 8 a = 0) (hb : moreR 8 b = 0) (pool name : Txt) :
    ∃ e x y, matchR ts l a pool name = (x, e) ∧ matchR ts x b pool name = (y, e) ∧ matchR ts l (a ++ b) pool name = (y, e) ∧ (∃ p : VOff → Bool, x = l.filter p) := by
  have h1 := more_16 ha
  have h2 := more_16 hb
  have h3 := more_ab ha hb
  unfold matchR
  rw [adm_nil, adm_nil, adm_nil, h1, h2, h3]
  simp only [not_true_eq_false, if_false]
  by_cases hn : (nameB pool && nameB name) = false
  · simp only [if_pos hn]
    exact ⟨_, _, _, rfl, rfl, rfl, fun _ => false, by simp⟩
  · simp only [if_neg hn]
    refine ⟨_, _, _, rfl, rfl, ?_, _, rfl⟩
    rw [List.filter_filter]
    congr 1
    refine List.filter_congr fun o _ => ?_
    unfold meetsO
    rw [adm_both h1 h2 h3]
    cases thereB ts o <;> cases (admitsR a (labsR ts o pool name)).1 <;> cases (admitsR b (labsR ts o pool name)).1 <;> rfl
/-- One by one, what was taken out is met again. -/
theorem met_next {p : VOff → Bool} {l : List VOff} {i : Nat} (h : i < l.length) :
    ((l.take (i + 1)).filter p).length = if (∃ hk : ((l.take i).filter p).length < (l.filter p).length, (l.filter p)[((l.take i).filter p).length] = l[i]) then ((l.take i).filter p).length + 1 else ((l.take i).filter p).length := by
  have hsplit : l.filter p = (l.take i).filter p ++ (l.drop i).filter p := by rw [← List.filter_append, List.take_append_drop]
  have hd : (l.drop i).filter p = if p l[i] = true then l[i] :: (l.drop (i + 1)).filter p else (l.drop (i + 1)).filter p := by
    rw [List.drop_eq_getElem_cons h, List.filter_cons]
  rw [take_at6 l i h, List.filter_append, List.length_append]
  by_cases hp : p l[i] = true
  · rw [if_pos hp] at hd
    have hlen : ((l.take i).filter p).length < (l.filter p).length := by rw [hsplit, hd, List.length_append, List.length_cons]; omega
    rw [if_pos ⟨hlen, by simp only [hsplit, hd]; rw [List.getElem_append_right (Nat.le_refl _)]; simp⟩, List.filter_cons_of_pos hp]
    rfl
  · rw [if_neg, List.filter_cons_of_neg hp]
    · rfl
    · rintro ⟨hk, he⟩
      have := (List.mem_filter.1 (List.getElem_mem hk)).2
      rw [he] at this
      exact hp this
/-- CatalogMore. -/
theorem find_app {o : VOff} : ∀ (ts us : List VType), findF o us = none → findF o (ts ++ us) = findF o ts
  | [], us, h => h
  | t :: ts, us, h => by
    rw [List.cons_append]
    unfold findF
    split
    · rfl
    · exact find_app ts us h
theorem more_cat {ts : List VType} {t : VType} (h : catR (ts ++ [t]) = 0) : catR ts = 0 := by
  unfold catR at *
  split at h
  · cases h
  · rename_i hl
    rw [List.length_append] at hl
    rw [if_neg (by simp at hl; omega)]
    obtain ⟨h1, h2⟩ := types_ok _ _ h
    exact types_back ts [] (fun x hx => ⟨(h1 x (by simp [hx])).1, fun y hy => (by cases hy)⟩) (List.pairwise_append.1 h2).1
theorem more_find {ts : List VType} {t : VType} (h : catR (ts ++ [t]) = 0) {o : VOff} (ho : ¬ o.1 = t.name) : findR (ts ++ [t]) o = findR ts o := by
  unfold findR
  rw [if_pos h, if_pos (more_cat h)]
  refine find_app ts [t] (find_none.2 fun u hu x _ => ?_)
  rw [List.mem_singleton] at hu
  subst hu
  cases hh : hitO o u x with
  | false => rfl
  | true => exact absurd (by rw [hit_iff.1 hh]) ho
theorem more_asks {ts : List VType} {t : VType} (h : catR (ts ++ [t]) = 0) {o : VOff} (ho : ¬ o.1 = t.name) (pool name : Txt) :
    hasR (ts ++ [t]) o = hasR ts o ∧ priceR (ts ++ [t]) o = priceR ts o ∧ labsR (ts ++ [t]) o pool name = labsR ts o pool name := by
  unfold hasR priceR labsR
  rw [more_find h ho]
  exact ⟨rfl, rfl, rfl⟩
theorem open_nodup {ts : List VType} (h : catR ts = 0) : (openL ts).Nodup := by
  obtain ⟨hl, hok, hp⟩ := cat_ok h
  clear h hl
  unfold openL
  induction ts with
  | nil => exact List.nodup_nil
  | cons t ts ih =>
    obtain ⟨p1, p2⟩ := List.pairwise_cons.1 hp
    rw [List.flatMap_cons]
    refine List.nodup_append.2 ⟨?_, ih (fun u hu => hok u (by simp [hu])) p2, fun a ha b hb e => ?_⟩
    · refine List.pairwise_map.2 ((List.Pairwise.sublist List.filter_sublist (ofg_ok _ _ (hok t (by simp)).offsOk).2).imp fun {x y} hxy e => ?_)
      simp only [Prod.mk.injEq] at e
      unfold sameZK at hxy
      rw [e.2.1, e.2.2] at hxy
      simp at hxy
    · obtain ⟨x, _, rfl⟩ := List.mem_map.1 ha
      obtain ⟨u, hu, hb⟩ := List.mem_flatMap.1 hb
      obtain ⟨y, _, rfl⟩ := List.mem_map.1 hb
      simp only [Prod.mk.injEq] at e
      exact p1 u hu e.1
theorem offers_len {ts : List VType} (h : catR ts = 0) : (offersR ts).length = (openL ts).length := by
  unfold offersR orderR
  rw [List.filter_eq_self.2 (fun o ho => by
    obtain ⟨t, ht, x, hx, _, rfl⟩ := mem_open.1 ho
    exact (there_iff h).2 ⟨t, ht, x, hx, rfl⟩)]
  exact insAll_len (open_nodup h)
theorem more_len {ts : List VType} {t : VType} (h : catR (ts ++ [t]) = 0) : (offersR ts).length ≤ (offersR (ts ++ [t])).length := by
  rw [offers_len h, offers_len (more_cat h)]
  unfold openL
  rw [List.flatMap_append, List.length_append]
  omega
end Go.Proofs.YtepcnfnmphgccaaGreatDoor.Val

/- Layer 6, plain mathematics alone: the table of offers, of one type, of a part; what it answers. No program is named. -/
namespace Go.Proofs.YtepcnfnmphgccaaGreatDoor.Val
open Suf

def keyP (p : VType × VOfg) : VOff := (p.1.name, p.2.zone, p.2.kind)
def ofgsP (t : VType) (l : List VOfg) : List (VType × VOfg) := l.map fun x => (t, x)
def pairsT (ts : List VType) : List (VType × VOfg) := ts.flatMap fun t => ofgsP t t.offs
/-- What is laid last at an offer. -/
def tabP (ps : List (VType × VOfg)) (o : VOff) : Option (VType × VOfg) := ps.reverse.find? fun p => decide (keyP p = o)
theorem tabP_nil (o : VOff) : tabP [] o = none := rfl
theorem tabP_snoc (ps : List (VType × VOfg)) (p : VType × VOfg) (o : VOff) : tabP (ps ++ [p]) o = if keyP p = o then some p else tabP ps o := by
  unfold tabP
  rw [List.reverse_append, List.reverse_cons, List.reverse_nil, List.nil_append, List.singleton_append, List.find?_cons]
  by_cases h : keyP p = o
  · rw [if_pos h, decide_eq_true h]
  · rw [if_neg h, decide_eq_false h]
theorem tabP_some {ps : List (VType × VOfg)} {o : VOff} {p : VType × VOfg} (h : tabP ps o = some p) : p ∈ ps ∧ keyP p = o :=
  ⟨List.mem_reverse.1 (List.mem_of_find?_eq_some h), by have := List.find?_some h; simpa using this⟩
theorem tabP_none {ps : List (VType × VOfg)} {o : VOff} (h : tabP ps o = none) : ∀ p ∈ ps, ¬ keyP p = o := fun p hp => by
  have := List.find?_eq_none.1 h p (List.mem_reverse.2 hp)
  simpa using this
theorem mem_pairs {ts : List VType} {p : VType × VOfg} : p ∈ pairsT ts ↔ p.1 ∈ ts ∧ p.2 ∈ p.1.offs := by
  unfold pairsT ofgsP
  rw [List.mem_flatMap]
  constructor
  · rintro ⟨t, ht, h⟩
    obtain ⟨x, hx, rfl⟩ := List.mem_map.1 h
    exact ⟨ht, hx⟩
  · rintro ⟨h1, h2⟩
    exact ⟨p.1, h1, List.mem_map.2 ⟨p.2, h2, rfl⟩⟩
theorem tab_is {ts : List VType} (h : catR ts = 0) (o : VOff) : tabP (pairsT ts) o = findR ts o := by
  cases ht : tabP (pairsT ts) o with
  | some p =>
    obtain ⟨h1, h2⟩ := tabP_some ht
    obtain ⟨h3, h4⟩ := mem_pairs.1 h1
    rw [← h2]
    exact (find_mem h h3 h4).symm
  | none =>
    cases hf : findR ts o with
    | none => rfl
    | some y =>
      exfalso
      unfold findR at hf
      rw [if_pos h] at hf
      obtain ⟨h1, h2, h3⟩ := find_some hf
      exact tabP_none ht y (mem_pairs.2 ⟨h1, h2⟩) (hit_iff.1 h3).symm
theorem pairs_next {ts : List VType} {k : Nat} (h : k < ts.length) : pairsT (ts.take (k + 1)) = pairsT (ts.take k) ++ ofgsP ts[k] ts[k].offs := by
  unfold pairsT
  rw [take_at6 ts k h, List.flatMap_append]
  simp
theorem ofgs_next {t : VType} {j : Nat} (h : j < t.offs.length) : ofgsP t (t.offs.take (j + 1)) = ofgsP t (t.offs.take j) ++ [(t, t.offs[j])] := by
  unfold ofgsP
  rw [take_at6 t.offs j h, List.map_append]; rfl
theorem pairs_one (t : VType) : pairsT [t] = ofgsP t t.offs := by simp [pairsT]
theorem cat_nil : catR [] = 0 := rfl
theorem cat_one {t : VType} (h : typeR t = 0) : catR [t] = 0 := by
  unfold catR
  rw [if_neg (by simp)]
  unfold typesF
  rw [if_neg (by simp [h]), if_neg (by simp)]
  rfl
theorem type_in {ts : List VType} (h : catR ts = 0) {t : VType} (ht : t ∈ ts) : typeR t = 0 := by
  unfold catR at h
  split at h
  · cases h
  · exact ((types_ok ts [] h).1 t ht).1
/-- An offer's own type alone. -/
theorem find_one {ts : List VType} (h : catR ts = 0) {k : Nat} (hk : k < ts.length) {o : VOff} (hn : ts[k].name = o.1) : findR [ts[k]] o = findR ts o := by
  have hm := List.getElem_mem hk
  have h1 := cat_one (type_in h hm)
  cases hf : findR [ts[k]] o with
  | some y =>
    have hf' := hf
    unfold findR at hf'
    rw [if_pos h1] at hf'
    obtain ⟨g1, g2, g3⟩ := find_some hf'
    rw [List.mem_singleton] at g1
    have hko := hit_iff.1 g3
    rw [hko, find_mem h (by rw [g1]; exact hm) g2]
  | none =>
    cases hg : findR ts o with
    | none => rfl
    | some y =>
      exfalso
      have hg' := hg
      unfold findR at hg'
      rw [if_pos h] at hg'
      obtain ⟨g1, g2, g3⟩ := find_some hg'
      have hko := hit_iff.1 g3
      have : y.1 = ts[k] := one_of (cat_ok h).2.2 (fun a b h e => h e.symm) g1 hm (fun hh => hh (by rw [hn, hko]))
      have hh := find_mem h1 (t := y.1) (by rw [this]; simp) g2
      rw [← hko, hf] at hh
      cases hh
theorem find_no {ts : List VType} {o : VOff} (hn : ts.any (fun t => t.name == o.1) = false) : findR ts o = none := by
  unfold findR
  split
  · refine find_none.2 fun t ht x hx => ?_
    have := List.any_eq_false.1 hn t ht
    unfold hitO
    rw [Bool.and_eq_false_iff]
    exact Or.inl (by simpa using this)
  · rfl
theorem find_bad {ts : List VType} (h : ¬ catR ts = 0) (o : VOff) : findR ts o = none := by unfold findR; rw [if_neg h]
/-- A catalogue that may be; else one without types. -/
def alwR (ts : List VType) : List VType := if catR ts = 0 then ts else []
theorem alw_ok (ts : List VType) : catR (alwR ts) = 0 := by
  unfold alwR
  split
  · assumption
  · rfl
theorem find_alw (ts : List VType) (o : VOff) : findR (alwR ts) o = findR ts o := by
  unfold alwR
  split
  · rfl
  · rename_i h; rw [find_bad h]; rfl
theorem tab_alw (ts : List VType) (o : VOff) : tabP (pairsT (alwR ts)) o = findR ts o := by rw [tab_is (alw_ok ts), find_alw]
theorem find_key {ts : List VType} {o : VOff} {y : VType × VOfg} (h : findR ts o = some y) : catR ts = 0 ∧ y.1 ∈ ts ∧ y.2 ∈ y.1.offs ∧ o = keyP y := by
  unfold findR at h
  split at h
  · rename_i hc
    obtain ⟨h1, h2, h3⟩ := find_some h
    exact ⟨hc, h1, h2, hit_iff.1 h3⟩
  · cases h
/-- Open ones among those that are there. -/
def openF (ts : List VType) (o : VOff) : Option (VType × VOfg) := (findR ts o).filter (fun y => y.2.opn)
theorem open_is {ts : List VType} {o : VOff} : (openF ts o).isSome = true ↔ o ∈ openL ts ∧ thereB ts o = true := by
  unfold openF thereB
  cases hf : findR ts o with
  | none => simp
  | some y =>
    obtain ⟨hc, h1, h2, h3⟩ := find_key hf
    rw [Option.filter_some]
    constructor
    · intro h
      refine ⟨mem_open.2 ⟨y.1, h1, y.2, h2, ?_, h3⟩, rfl⟩
      by_cases e : y.2.opn = true
      · exact e
      · rw [if_neg e] at h; cases h
    · rintro ⟨h4, _⟩
      obtain ⟨t, ht, x, hx, ho, e⟩ := mem_open.1 h4
      have := find_mem hc ht hx
      rw [← e, hf] at this
      have hy := Option.some.inj this
      rw [hy, if_pos ho]; rfl
theorem price_of {ts : List VType} {o : VOff} {y : VType × VOfg} (h : findR ts o = some y) : (priceR ts o).1 = y.2.price := by unfold priceR; rw [h]
theorem offers_is {ts : List VType} {out : List VOff} (hs : Srt (aheadR ts) out) (hm : ∀ o, o ∈ out ↔ (openF ts o).isSome = true) : out = offersR ts :=
  order_is hs fun o => (hm o).trans open_is
theorem order_some {ts : List VType} {l out : List VOff} (hs : Srt (aheadR ts) out) (hm : ∀ o, o ∈ out ↔ o ∈ l ∧ (findR ts o).isSome = true) : out = orderR ts l := order_is hs hm
theorem chk_is (a b : Int × Int) (h : fitsN a b = true) : 0 ≤ b.1 - a.1 ∧ 0 ≤ b.2 - a.2 := by
  unfold fitsN at h
  rw [decide_eq_true_eq] at h
  omega
end Go.Proofs.YtepcnfnmphgccaaGreatDoor.Val
