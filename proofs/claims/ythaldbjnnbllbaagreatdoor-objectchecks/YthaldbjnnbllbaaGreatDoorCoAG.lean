/- Layer 7, plain mathematics alone: coolings that may be; one laid among them; who is cool, who is left, what still counts, till when. No program is named. -/
import Derived.Test.YthaldbjnnbllbaaGreatDoorCaAG
namespace Go.Proofs.YthaldbjnnbllbaaGreatDoor.Val
open Suf

abbrev VCool := VOff × Int
def oneR (c : VCool) : Int := if (nameB c.1.1 && (nameB c.1.2.1 && nameB c.1.2.2)) = false then 7 else if c.2 < 0 ∨ 1099511627776 < c.2 then 1 else 0
def behind (p : Option VOff) (o : VOff) : Bool := match p with
  | none => true
  | some q => lessO q o
def coolF : Option VOff → List VCool → Int
  | _, [] => 0
  | p, c :: l => if ¬ oneR c = 0 then oneR c else if behind p c.1 = false then 6 else coolF (some c.1) l
def coolR (l : List VCool) : Int := if 72 < l.length then 3 else coolF none l
def putF (c : VCool) : List VCool → Bool → List VCool
  | [], done => if done = true then [] else [c]
  | x :: l, done => if x.1 = c.1 then c :: putF c l true else if (lessO c.1 x.1 && !done) = true then c :: x :: putF c l true else x :: putF c l done
def putR (l : List VCool) (c : VCool) : List VCool × Int := if ¬ coolR l = 0 then ([], coolR l) else if ¬ oneR c = 0 then ([], oneR c) else if 72 < (putF c l false).length then ([], 3) else (putF c l false, 0)
def isCoolR (l : List VCool) (o : VOff) (now : Int) : Bool := l.any fun c => (c.1 == o) && decide (now < c.2)
def leftR (l : List VCool) (offers : List VOff) (now : Int) : List VOff := offers.filter fun o => !isCoolR l o now
def cleanR (l : List VCool) (now : Int) : List VCool := l.filter fun c => decide (now < c.2)
def nextS (now : Int) (s : Int × Bool) (c : VCool) : Int × Bool := if now < c.2 ∧ (s.2 = false ∨ c.2 < s.1) then (c.2, true) else s
def nextR (l : List VCool) (now : Int) : Int × Bool := l.foldl (nextS now) (0, false)

theorem take_at7 {α : Type} (l : List α) (k : Nat) (h : k < l.length) : l.take (k + 1) = l.take k ++ [l[k]] := by rw [List.take_add_one, List.getElem?_eq_getElem h]; rfl
def prevO (l : List VCool) : Nat → Option VOff
  | 0 => none
  | k + 1 => (l[k]?).map (·.1)
theorem cool_step {l : List VCool} {k : Nat} (h : k < l.length) : coolF (prevO l k) (l.drop k) = if ¬ oneR l[k] = 0 then oneR l[k] else if behind (prevO l k) l[k].1 = false then 6 else coolF (prevO l (k + 1)) (l.drop (k + 1)) := by
  rw [List.drop_eq_getElem_cons h]
  show (if _ then _ else _) = _
  rw [show prevO l (k + 1) = some l[k].1 by show (l[k]?).map (·.1) = _; rw [List.getElem?_eq_getElem h]; rfl]
theorem next_step {l : List VCool} {now : Int} {k : Nat} (h : k < l.length) : (l.take (k + 1)).foldl (nextS now) (0, false) = nextS now ((l.take k).foldl (nextS now) (0, false)) l[k] := by
  rw [take_at7 l k h, List.foldl_append]; rfl
def byOff (a b : VCool) : Bool := lessO a.1 b.1
theorem coolF_ok : ∀ (l : List VCool) (p : Option VOff), coolF p l = 0 ↔ (∀ c ∈ l, oneR c = 0 ∧ behind p c.1 = true) ∧ Srt byOff l
  | [], p => ⟨fun _ => ⟨fun c hc => (by cases hc), List.Pairwise.nil⟩, fun _ => rfl⟩
  | c :: l, p => by
    constructor
    · intro h
      unfold coolF at h
      split at h
      · rename_i h1; exact absurd h h1
      · split at h
        · cases h
        · rename_i h1 h2
          obtain ⟨i1, i2⟩ := (coolF_ok l _).1 h
          have hb : behind p c.1 = true := by simpa using h2
          refine ⟨fun x hx => ?_, List.pairwise_cons.2 ⟨fun x hx => (i1 x hx).2, i2⟩⟩
          rcases List.mem_cons.1 hx with rfl | hx
          · exact ⟨by simpa using h1, hb⟩
          · refine ⟨(i1 x hx).1, ?_⟩
            have h3 := (i1 x hx).2
            cases p with
            | none => rfl
            | some q => exact lessO_trans hb h3
    · rintro ⟨h1, h2⟩
      obtain ⟨p1, p2⟩ := List.pairwise_cons.1 h2
      have hc := h1 c (by simp)
      unfold coolF
      rw [if_neg (by simp [hc.1]), if_neg (by simp [hc.2])]
      exact (coolF_ok l _).2 ⟨fun x hx => ⟨(h1 x (by simp [hx])).1, p1 x hx⟩, p2⟩
theorem cool_ok {l : List VCool} : coolR l = 0 ↔ l.length ≤ 72 ∧ (∀ c ∈ l, oneR c = 0) ∧ Srt byOff l := by
  unfold coolR
  by_cases h : 72 < l.length
  · rw [if_pos h]
    exact ⟨fun e => (by cases e), fun e => absurd e.1 (by omega)⟩
  · rw [if_neg h, coolF_ok]
    exact ⟨fun ⟨h1, h2⟩ => ⟨by omega, fun c hc => (h1 c hc).1, h2⟩, fun ⟨_, h1, h2⟩ => ⟨fun c hc => ⟨h1 c hc, rfl⟩, h2⟩⟩
/-- What stands behind is as it was. -/
theorem put_rest {c : VCool} : ∀ {l : List VCool}, (∀ x ∈ l, ¬ x.1 = c.1) → putF c l true = l
  | [], _ => rfl
  | x :: l, h => by
    unfold putF
    rw [if_neg (h x (by simp)), if_neg (by simp), put_rest (fun y hy => h y (by simp [hy]))]
theorem put_mem {c : VCool} : ∀ {l : List VCool}, Srt byOff l → ∀ x, x ∈ putF c l false ↔ x = c ∨ (x ∈ l ∧ ¬ x.1 = c.1)
  | [], _, x => by simp [putF]
  | a :: l, h, x => by
    obtain ⟨ha, hl⟩ := List.pairwise_cons.1 h
    have hne : ∀ y ∈ l, lessO a.1 y.1 = true → ¬ y.1 = a.1 := fun y _ h1 e => by rw [e, lessO_irrefl] at h1; cases h1
    unfold putF
    split
    · rename_i e
      have hr : ∀ y ∈ l, ¬ y.1 = c.1 := fun y hy e2 => hne y hy (ha y hy) (by rw [e2, e])
      rw [put_rest hr, List.mem_cons, List.mem_cons]
      constructor
      · rintro (h1 | h1)
        · exact Or.inl h1
        · exact Or.inr ⟨Or.inr h1, hr x h1⟩
      · rintro (h1 | ⟨h1 | h1, h2⟩)
        · exact Or.inl h1
        · exact absurd (by rw [h1]; exact e) h2
        · exact Or.inr h1
    · rename_i e
      split
      · rename_i h2
        have h2' : lessO c.1 a.1 = true := by simpa using h2
        have hr : ∀ y ∈ l, ¬ y.1 = c.1 := fun y hy e2 => by
          have := lessO_trans h2' (ha y hy)
          rw [e2, lessO_irrefl] at this; cases this
        rw [put_rest hr, List.mem_cons, List.mem_cons]
        constructor
        · rintro (h1 | h1 | h1)
          · exact Or.inl h1
          · exact Or.inr ⟨Or.inl h1, by rw [h1]; exact e⟩
          · exact Or.inr ⟨Or.inr h1, hr x h1⟩
        · rintro (h1 | ⟨h1 | h1, _⟩)
          · exact Or.inl h1
          · exact Or.inr (Or.inl h1)
          · exact Or.inr (Or.inr h1)
      · rw [List.mem_cons, put_mem hl x, List.mem_cons]
        constructor
        · rintro (h1 | h1 | ⟨h1, h3⟩)
          · exact Or.inr ⟨Or.inl h1, by rw [h1]; exact e⟩
          · exact Or.inl h1
          · exact Or.inr ⟨Or.inr h1, h3⟩
        · rintro (h1 | ⟨h1 | h1, h3⟩)
          · exact Or.inr (Or.inl h1)
          · exact Or.inl h1
          · exact Or.inr (Or.inr ⟨h1, h3⟩)
theorem put_srt {c : VCool} : ∀ {l : List VCool}, Srt byOff l → Srt byOff (putF c l false)
  | [], _ => by unfold putF Srt; simp
  | a :: l, h => by
    obtain ⟨ha, hl⟩ := List.pairwise_cons.1 h
    unfold putF
    split
    · rename_i e
      have hr : ∀ y ∈ l, ¬ y.1 = c.1 := fun y hy e2 => by
        have := ha y hy
        unfold byOff at this
        rw [e2, e, lessO_irrefl] at this; cases this
      rw [put_rest hr]
      exact List.pairwise_cons.2 ⟨fun y hy => by have := ha y hy; unfold byOff at *; rw [← e]; exact this, hl⟩
    · rename_i e
      split
      · rename_i h2
        have h2' : lessO c.1 a.1 = true := by simpa using h2
        have hr : ∀ y ∈ l, ¬ y.1 = c.1 := fun y hy e2 => by
          have := lessO_trans h2' (ha y hy)
          rw [e2, lessO_irrefl] at this; cases this
        rw [put_rest hr]
        refine List.pairwise_cons.2 ⟨fun y hy => ?_, h⟩
        rcases List.mem_cons.1 hy with rfl | hy
        · exact h2'
        · exact lessO_trans h2' (ha y hy)
      · rename_i h2
        have h3 : lessO a.1 c.1 = true := by
          rcases lessO_total a.1 c.1 with h | h | h
          · exact h
          · exact absurd h e
          · exact absurd (by simp [h]) h2
        refine List.pairwise_cons.2 ⟨fun y hy => ?_, put_srt hl⟩
        rcases (put_mem hl y).1 hy with rfl | ⟨hy, _⟩
        · exact h3
        · exact ha y hy
theorem byOff_ir (a : VCool) : byOff a a = false := lessO_irrefl a.1
theorem byOff_tr (a b c : VCool) (h1 : byOff a b = true) (h2 : byOff b c = true) : byOff a c = true := lessO_trans h1 h2
theorem put_len (c : VCool) : ∀ (l : List VCool) (d : Bool), (putF c l d).length ≤ l.length + 1
  | [], d => by unfold putF; split <;> simp
  | a :: l, d => by
    have h1 := put_len c l true
    have h2 := put_len c l d
    unfold putF
    split
    · simp; omega
    · split
      · rename_i h
        have hd : d = false := by
          cases d with
          | false => rfl
          | true => simp at h
        subst hd
        have h3 : (putF c l true).length ≤ l.length := by
          clear h1 h2 h
          induction l with
          | nil => simp [putF]
          | cons b l ih => unfold putF; split <;> simp <;> exact ih
        simp; omega
      · simp; omega
/-- What is in order, with these members, is it. -/
theorem put_is {l out : List VCool} {c : VCool} (h : Srt byOff l) (hs : Srt byOff out) (hm : ∀ x, x ∈ out ↔ x = c ∨ (x ∈ l ∧ ¬ x.1 = c.1)) : out = putF c l false :=
  srt_ext byOff_ir byOff_tr hs (put_srt h) (fun x => (hm x).trans (put_mem h x).symm)
/-- CoolPut. -/
theorem put_twice {l a : List VCool} {c : VCool} (h : putR l c = (a, 0)) : coolR a = 0 ∧ putR a c = (a, 0) ∧ a.length ≤ l.length + 1 ∧ (∀ now, isCoolR a c.1 now = decide (now < c.2)) ∧ ∀ o now, ¬ o = c.1 → isCoolR a o now = isCoolR l o now := by
  unfold putR at h
  split at h
  · rename_i h1; injection h with _ h2; exact absurd h2 h1
  · split at h
    · rename_i h1; injection h with _ h2; exact absurd h2 h1
    · split at h
      · injection h with _ h2; cases h2
      · rename_i h1 h2 h3
        injection h with h4 _
        have h1' : coolR l = 0 := by simpa using h1
        have h2' : oneR c = 0 := by simpa using h2
        obtain ⟨_, k2, k3⟩ := cool_ok.1 h1'
        have hm := put_mem (c := c) k3
        rw [h4] at hm
        have hs := put_srt (c := c) k3
        rw [h4] at hs
        have hl := put_len c l false
        rw [h4] at hl h3
        have ha : coolR a = 0 := cool_ok.2 ⟨by omega, fun x hx => by
          rcases (hm x).1 hx with rfl | hx
          · exact h2'
          · exact k2 x hx.1, hs⟩
        have hb : putF c a false = a := (put_is hs hs (fun x => by
          rw [hm x]
          constructor
          · rintro (e | ⟨e1, e2⟩)
            · exact Or.inl e
            · exact Or.inr ⟨Or.inr ⟨e1, e2⟩, e2⟩
          · rintro (e | ⟨e1, e2⟩)
            · exact Or.inl e
            · exact e1)).symm
        refine ⟨ha, ?_, hl, fun now => ?_, fun o now ho => ?_⟩
        · unfold putR
          rw [if_neg (by simp [ha]), if_neg (by simp [h2']), hb, if_neg h3]
        · unfold isCoolR
          rw [Bool.eq_iff_iff, List.any_eq_true, decide_eq_true_eq]
          constructor
          · rintro ⟨x, hx, he⟩
            rw [Bool.and_eq_true, beq_iff_eq, decide_eq_true_eq] at he
            rcases (hm x).1 hx with rfl | ⟨_, hx⟩
            · exact he.2
            · exact absurd he.1 hx
          · intro hn
            exact ⟨c, (hm c).2 (Or.inl rfl), by simp [hn]⟩
        · unfold isCoolR
          rw [Bool.eq_iff_iff, List.any_eq_true, List.any_eq_true]
          constructor
          · rintro ⟨x, hx, he⟩
            have he' := he
            rw [Bool.and_eq_true, beq_iff_eq] at he'
            rcases (hm x).1 hx with rfl | ⟨hx, _⟩
            · exact absurd he'.1.symm ho
            · exact ⟨x, hx, he⟩
          · rintro ⟨x, hx, he⟩
            have he' := he
            rw [Bool.and_eq_true, beq_iff_eq] at he'
            exact ⟨x, (hm x).2 (Or.inr ⟨hx, fun e => ho (by rw [← he'.1, e])⟩), he⟩
theorem put_err {l : List VCool} {c : VCool} (h : ¬ (putR l c).2 = 0) : (putR l c).1 = [] := by
  unfold putR at *
  split
  · rfl
  · split
    · rfl
    · split
      · rfl
      · rename_i h1 h2 h3
        rw [if_neg h1, if_neg h2, if_neg h3] at h
        exact absurd rfl h
/-- CoolNext. -/
theorem clean_cool (l : List VCool) (o : VOff) {now later : Int} (h : now ≤ later) : isCoolR (cleanR l now) o later = isCoolR l o later := by
  unfold isCoolR cleanR
  rw [Bool.eq_iff_iff, List.any_eq_true, List.any_eq_true]
  constructor
  · rintro ⟨x, hx, he⟩
    exact ⟨x, (List.mem_filter.1 hx).1, he⟩
  · rintro ⟨x, hx, he⟩
    have he' := he
    rw [Bool.and_eq_true, decide_eq_true_eq] at he'
    exact ⟨x, List.mem_filter.2 ⟨hx, decide_eq_true (by omega)⟩, he⟩
theorem clean_clean (l : List VCool) (now : Int) : cleanR (cleanR l now) now = cleanR l now := by
  unfold cleanR; rw [List.filter_filter]; simp
/-- Till when: the lowest of those that still count. -/
theorem next_is (now : Int) : ∀ (l : List VCool) (s : Int × Bool), (s.2 = true → now < s.1) →
    ((l.foldl (nextS now) s).2 = true ↔ s.2 = true ∨ ∃ c ∈ l, now < c.2) ∧
    ((l.foldl (nextS now) s).2 = true → now < (l.foldl (nextS now) s).1 ∧ (∀ c ∈ l, now < c.2 → (l.foldl (nextS now) s).1 ≤ c.2) ∧ (s.2 = true → (l.foldl (nextS now) s).1 ≤ s.1) ∧ ((s.2 = true ∧ (l.foldl (nextS now) s).1 = s.1) ∨ ∃ c ∈ l, now < c.2 ∧ (l.foldl (nextS now) s).1 = c.2)) ∧
    ((l.foldl (nextS now) s).2 = false → (l.foldl (nextS now) s) = s)
  | [], s, h => ⟨by simp, fun h2 => ⟨h h2, fun c hc => (by cases hc), fun _ => Int.le_refl _, Or.inl ⟨h2, rfl⟩⟩, fun _ => rfl⟩
  | c :: l, s, h => by
    have hs : (nextS now s c).2 = true → now < (nextS now s c).1 := by
      unfold nextS
      split
      · rename_i h1; intro _; exact h1.1
      · exact h
    obtain ⟨i1, i2, i3⟩ := next_is now l (nextS now s c) hs
    rw [List.foldl_cons]
    have key : ((nextS now s c).2 = true ↔ s.2 = true ∨ now < c.2) ∧ ((nextS now s c).2 = true → (now < c.2 → (nextS now s c).1 ≤ c.2) ∧ (s.2 = true → (nextS now s c).1 ≤ s.1) ∧ ((s.2 = true ∧ (nextS now s c).1 = s.1) ∨ (now < c.2 ∧ (nextS now s c).1 = c.2))) ∧ ((nextS now s c).2 = false → nextS now s c = s) := by
      unfold nextS
      split
      · rename_i h1
        refine ⟨⟨fun _ => Or.inr h1.1, fun _ => rfl⟩, fun _ => ⟨fun _ => Int.le_refl _, fun h2 => ?_, Or.inr ⟨h1.1, rfl⟩⟩, fun h2 => (by cases h2)⟩
        rcases h1.2 with h3 | h3
        · rw [h2] at h3; cases h3
        · show c.2 ≤ s.1; omega
      · rename_i h1
        refine ⟨⟨fun h2 => Or.inl h2, fun h2 => ?_⟩, fun h2 => ⟨fun h3 => ?_, fun _ => Int.le_refl _, Or.inl ⟨h2, rfl⟩⟩, fun _ => rfl⟩
        · rcases h2 with h2 | h2
          · exact h2
          · cases hb : s.2 with
            | true => rfl
            | false => exact absurd ⟨h2, Or.inl hb⟩ h1
        · by_cases h4 : c.2 < s.1
          · exact absurd ⟨h3, Or.inr h4⟩ h1
          · omega
    obtain ⟨k1, k2, k3⟩ := key
    refine ⟨?_, fun h2 => ?_, fun h2 => ?_⟩
    · rw [i1, k1]
      constructor
      · rintro ((h2 | h2) | ⟨x, hx, h2⟩)
        · exact Or.inl h2
        · exact Or.inr ⟨c, by simp, h2⟩
        · exact Or.inr ⟨x, by simp [hx], h2⟩
      · rintro (h2 | ⟨x, hx, h2⟩)
        · exact Or.inl (Or.inl h2)
        · rcases List.mem_cons.1 hx with rfl | hx
          · exact Or.inl (Or.inr h2)
          · exact Or.inr ⟨x, hx, h2⟩
    · obtain ⟨j1, j2, j3, j4⟩ := i2 h2
      refine ⟨j1, fun x hx h3 => ?_, fun h3 => ?_, ?_⟩
      · rcases List.mem_cons.1 hx with rfl | hx
        · have h4 := k1.2 (Or.inr h3)
          exact Int.le_trans (j3 h4) ((k2 h4).1 h3)
        · exact j2 x hx h3
      · have h4 := k1.2 (Or.inl h3)
        exact Int.le_trans (j3 h4) ((k2 h4).2.1 h3)
      · rcases j4 with ⟨h4, h5⟩ | ⟨x, hx, h4, h5⟩
        · rcases (k2 h4).2.2 with ⟨h6, h7⟩ | ⟨h6, h7⟩
          · exact Or.inl ⟨h6, h5.trans h7⟩
          · exact Or.inr ⟨c, by simp, h6, h5.trans h7⟩
        · exact Or.inr ⟨x, by simp [hx], h4, h5⟩
    · have h3 := i3 h2
      rw [h3] at h2 ⊢
      exact k3 h2
theorem next_some {l : List VCool} {now : Int} : (nextR l now).2 = decide (0 < (cleanR l now).length) := by
  have h := (next_is now l (0, false) (fun h => by cases h)).1
  rw [Bool.eq_iff_iff, decide_eq_true_eq]
  unfold nextR
  rw [h]
  constructor
  · rintro (h | ⟨c, hc, h⟩)
    · cases h
    · exact List.length_pos_of_mem (List.mem_filter.2 ⟨hc, decide_eq_true h⟩)
  · intro hl
    obtain ⟨c, hc⟩ := List.exists_mem_of_length_pos hl
    obtain ⟨h1, h2⟩ := List.mem_filter.1 hc
    exact Or.inr ⟨c, h1, of_decide_eq_true h2⟩
theorem next_none {l : List VCool} {now : Int} (h : (nextR l now).2 = false) : (nextR l now).1 = 0 := by
  have := (next_is now l (0, false) (fun h => by cases h)).2.2 h
  unfold nextR; rw [this]
theorem next_at {l : List VCool} {now : Int} (h : (nextR l now).2 = true) : now < (nextR l now).1 ∧ (cleanR l ((nextR l now).1 - 1)).length = (cleanR l now).length ∧ (cleanR l (nextR l now).1).length < (cleanR l now).length ∧ ∃ c ∈ l, (nextR l now).1 = c.2 := by
  obtain ⟨h1, h2, _, h4⟩ := (next_is now l (0, false) (fun h => by cases h)).2.1 h
  have h4' : ∃ c ∈ l, now < c.2 ∧ (nextR l now).1 = c.2 := by
    rcases h4 with ⟨h5, _⟩ | h5
    · cases h5
    · exact h5
  change now < (nextR l now).1 at h1
  change ∀ c ∈ l, now < c.2 → (nextR l now).1 ≤ c.2 at h2
  obtain ⟨c, hc, h5, h6⟩ := h4'
  refine ⟨h1, ?_, ?_, c, hc, h6⟩
  · unfold cleanR
    congr 1
    refine List.filter_congr fun x hx => ?_
    rw [Bool.eq_iff_iff, decide_eq_true_eq, decide_eq_true_eq]
    constructor
    · intro h7; omega
    · intro h7; have := h2 x hx h7; omega
  · have hsub : cleanR l (nextR l now).1 = (cleanR l now).filter fun x => decide ((nextR l now).1 < x.2) := by
      unfold cleanR
      rw [List.filter_filter]
      refine List.filter_congr fun x _ => ?_
      rw [Bool.eq_iff_iff, Bool.and_eq_true, decide_eq_true_eq, decide_eq_true_eq]
      constructor
      · intro h7; exact ⟨h7, by omega⟩
      · exact fun h7 => h7.1
    rw [hsub]
    have hcm : c ∈ cleanR l now := List.mem_filter.2 ⟨hc, decide_eq_true h5⟩
    refine List.length_filter_lt_length_iff_exists.2 ⟨c, hcm, ?_⟩
    rw [decide_eq_true_eq]
    omega
end Go.Proofs.YthaldbjnnbllbaaGreatDoor.Val
