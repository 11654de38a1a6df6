/- Layer 4, plain mathematics alone: several requirements; sets by their keys; that their order doesn't matter; labels that meet them. No program is named. -/
import Derived.Test.YthaldbjnnbllbaaGreatDoorValAG
namespace Go.Proofs.YthaldbjnnbllbaaGreatDoor.Val
open Suf

/-- A key and its set. -/
abbrev KS := Txt × VSet
/-- The error of the first one that has one. -/
def firstR : List VReq → Int
  | [] => 0
  | r :: l => if wrongR r = 0 then firstR l else wrongR r
def moreR (n : Nat) (l : List VReq) : Int := if n < l.length then 3 else firstR l
theorem first_ok : ∀ {l : List VReq}, firstR l = 0 ↔ ∀ r ∈ l, wrongR r = 0
  | [] => by simp [firstR]
  | r :: l => by
    unfold firstR
    by_cases h : wrongR r = 0
    · rw [if_pos h, first_ok (l := l)]; simp [h]
    · rw [if_neg h]; simp [h]
theorem more_ok {n : Nat} {l : List VReq} : moreR n l = 0 ↔ l.length ≤ n ∧ ∀ r ∈ l, wrongR r = 0 := by
  unfold moreR
  by_cases h : n < l.length
  · rw [if_pos h]; constructor
    · intro e; cases e
    · intro e; omega
  · rw [if_neg h, first_ok]; constructor
    · intro e; exact ⟨by omega, e⟩
    · intro e; exact e.2
theorem first_take {l : List VReq} {k : Nat} (h : k < l.length) (ha : ∀ r ∈ l.take k, wrongR r = 0) (hw : ¬ wrongR l[k] = 0) : firstR l = wrongR l[k] := by
  induction l generalizing k with
  | nil => simp at h
  | cons r l ih =>
    unfold firstR
    cases k with
    | zero => rw [if_neg (by simpa using hw)]; rfl
    | succ k =>
      rw [if_pos (ha r (by simp))]
      exact ih (by simpa using h) (fun x hx => ha x (by rw [List.take_succ_cons]; exact List.mem_cons_of_mem _ hx)) hw

/-- The set of a key. -/
def look (k : Txt) : List KS → Option VSet
  | [] => none
  | x :: l => if x.1 = k then some x.2 else look k l
/-- A key's set laid among sets whose keys rise. -/
def putK (k : Txt) (s : VSet) : List KS → List KS
  | [] => [(k, s)]
  | x :: l => if lt x.1 k then x :: putK k s l else if x.1 = k then (k, s) :: l else (k, s) :: x :: l
def UpK (st : List KS) : Prop := Up (st.map (·.1))
theorem look_cons (x : Txt) (y : KS) (l : List KS) : look x (y :: l) = if y.1 = x then some y.2 else look x l := rfl
theorem look_put (x k : Txt) (s : VSet) : ∀ st : List KS, look x (putK k s st) = if x = k then some s else look x st
  | [] => by
    show look x [(k, s)] = _
    rw [look_cons]
    by_cases h : x = k
    · rw [if_pos h, if_pos h.symm]
    · rw [if_neg h, if_neg (fun e => h e.symm)]
  | y :: l => by
    unfold putK
    by_cases h1 : lt y.1 k = true
    · rw [if_pos h1, look_cons, look_cons, look_put x k s l]
      by_cases h2 : y.1 = x
      · rw [if_pos h2, if_neg, if_pos h2]
        rintro rfl
        exact lt_ne h1 h2
      · rw [if_neg h2, if_neg h2]
    · rw [if_neg h1]
      by_cases h2 : y.1 = k
      · rw [if_pos h2, look_cons, look_cons]
        by_cases h3 : x = k
        · rw [if_pos h3, if_pos h3.symm]
        · rw [if_neg h3, if_neg (fun e => h3 e.symm), if_neg (fun e => h3 (e.symm.trans h2))]
      · rw [if_neg h2, look_cons]
        by_cases h3 : x = k
        · rw [if_pos h3, if_pos h3.symm]
        · rw [if_neg h3, if_neg (fun e => h3 e.symm)]
theorem keys_put (k : Txt) (s : VSet) : ∀ st : List KS, (putK k s st).map (·.1) = put (st.map (·.1)) k
  | [] => rfl
  | y :: l => by
    unfold putK
    rw [List.map_cons, put]
    by_cases h1 : lt y.1 k = true
    · rw [if_pos h1, if_pos h1, List.map_cons, keys_put k s l]
    · rw [if_neg h1, if_neg h1]
      by_cases h2 : y.1 = k
      · rw [if_pos h2, if_pos h2, List.map_cons, h2]
      · rw [if_neg h2, if_neg h2]; rfl
theorem upK_put {k : Txt} {s : VSet} {st : List KS} (h : UpK st) : UpK (putK k s st) := by unfold UpK; rw [keys_put]; exact up_put k h
theorem len_putK (k : Txt) (s : VSet) (st : List KS) : (putK k s st).length ≤ st.length + 1 := by
  have := len_put k (st.map (·.1))
  rw [← keys_put k s st, List.length_map, List.length_map] at this
  exact this
theorem look_none {k : Txt} : ∀ {st : List KS}, look k st = none ↔ ∀ x ∈ st, ¬ x.1 = k
  | [] => by simp [look]
  | y :: l => by
    unfold look
    by_cases h : y.1 = k
    · rw [if_pos h]; simp [h]
    · rw [if_neg h, look_none (st := l)]; simp [h]
theorem look_mem {k : Txt} {s : VSet} : ∀ {st : List KS}, look k st = some s → (k, s) ∈ st
  | [], h => by simp [look] at h
  | y :: l, h => by
    unfold look at h
    by_cases e : y.1 = k
    · rw [if_pos e] at h
      injection h with h
      rw [← e, ← h]; simp
    · rw [if_neg e] at h
      exact List.mem_cons_of_mem _ (look_mem h)
theorem mem_look {x : KS} : ∀ {st : List KS}, UpK st → x ∈ st → look x.1 st = some x.2
  | [], _, h => by cases h
  | y :: l, hu, h => by
    unfold UpK at hu
    rw [List.map_cons] at hu
    obtain ⟨h1, h2⟩ := List.pairwise_cons.1 hu
    unfold look
    rcases List.mem_cons.1 h with rfl | h
    · rw [if_pos rfl]
    · rw [if_neg (lt_ne (h1 x.1 (List.mem_map.2 ⟨x, h, rfl⟩)))]
      exact mem_look h2 h
theorem upK_ext {st st' : List KS} (h : UpK st) (h' : UpK st') (he : ∀ k, look k st = look k st') : st = st' := by
  have hm : ∀ x, x ∈ st ↔ x ∈ st' := fun x => ⟨fun hx => look_mem (by rw [← he]; exact mem_look h hx), fun hx => look_mem (by rw [he]; exact mem_look h' hx)⟩
  have hk : st.map (·.1) = st'.map (·.1) := up_ext h h' fun k => by
    rw [List.mem_map, List.mem_map]
    exact ⟨fun ⟨x, hx, e⟩ => ⟨x, (hm x).1 hx, e⟩, fun ⟨x, hx, e⟩ => ⟨x, (hm x).2 hx, e⟩⟩
  have hl : st.length = st'.length := by have := congrArg List.length hk; simpa using this
  refine List.ext_getElem hl fun i h1 h2 => ?_
  have e1 : st[i].1 = st'[i].1 := by
    have := List.getElem_of_eq hk (i := i) (by simpa using h1)
    simpa using this
  have e2 := mem_look h (List.getElem_mem h1)
  have e3 := mem_look h' (List.getElem_mem h2)
  rw [← e1, ← he, e2] at e3
  injection e3 with e3
  exact Prod.ext e1 e3

/-- One more key and set: where the key stands there, what both sets meet in. -/
def stepK (st : List KS) (x : KS) : List KS × Int :=
  match look x.1 st with
  | none => (putK x.1 x.2 st, 0)
  | some t => if (meetR t x.2).2 = 0 then (putK x.1 (meetR t x.2).1 st, 0) else ([], (meetR t x.2).2)
def setsF : List KS → List KS → List KS × Int
  | st, [] => (st, 0)
  | st, x :: l => if (stepK st x).2 = 0 then setsF (stepK st x).1 l else ([], (stepK st x).2)
def keyS (r : VReq) : KS := (r.key, ofSet r)
def setsR (l : List VReq) : List KS × Int := if moreR 16 l = 0 then setsF [] (l.map keyS) else ([], moreR 16 l)
theorem sets_next : ∀ (st : List KS) (l : List KS) (k : Nat) (h : k < l.length), (setsF st (l.take k)).2 = 0 → setsF st (l.take (k + 1)) = if (stepK (setsF st (l.take k)).1 l[k]).2 = 0 then stepK (setsF st (l.take k)).1 l[k] else ([], (stepK (setsF st (l.take k)).1 l[k]).2)
  | st, [], k, h, _ => by simp at h
  | st, x :: l, 0, _, _ => by
    simp only [List.take_succ_cons, List.take_zero, setsF, List.getElem_cons_zero]
    by_cases he : (stepK st x).2 = 0
    · rw [if_pos he, if_pos he]; exact Prod.ext rfl he.symm
    · rw [if_neg he, if_neg he]
  | st, x :: l, k + 1, h, h0 => by
    rw [List.take_succ_cons] at h0 ⊢
    rw [List.take_succ_cons]
    unfold setsF at h0 ⊢
    by_cases he : (stepK st x).2 = 0
    · rw [if_pos he] at h0
      rw [if_pos he, if_pos he]
      exact sets_next (stepK st x).1 l k (by simpa using h) h0
    · rw [if_neg he] at h0; exact absurd h0 he
theorem sets_stop : ∀ (st : List KS) (l : List KS) (k : Nat) (h : k < l.length), (setsF st (l.take k)).2 = 0 → ¬ (stepK (setsF st (l.take k)).1 l[k]).2 = 0 → setsF st l = ([], (stepK (setsF st (l.take k)).1 l[k]).2)
  | st, [], k, h, _, _ => by simp at h
  | st, x :: l, 0, _, _, hn => by
    simp only [List.take_zero, setsF, List.getElem_cons_zero] at hn ⊢
    rw [if_neg hn]
  | st, x :: l, k + 1, h, h0, hn => by
    rw [List.take_succ_cons] at h0 hn ⊢
    unfold setsF at h0 hn ⊢
    by_cases he : (stepK st x).2 = 0
    · rw [if_pos he] at h0 hn
      rw [if_pos he, if_pos he]
      exact sets_stop (stepK st x).1 l k (by simpa using h) h0 hn
    · rw [if_neg he] at h0; exact absurd h0 he
theorem len_setsF : ∀ (l st : List KS), (setsF st l).1.length ≤ st.length + l.length
  | [], st => by simp [setsF]
  | x :: l, st => by
    unfold setsF
    by_cases he : (stepK st x).2 = 0
    · rw [if_pos he]
      have h1 := len_setsF l (stepK st x).1
      have h2 : (stepK st x).1.length ≤ st.length + 1 := by
        unfold stepK
        split
        · exact len_putK _ _ _
        · split
          · exact len_putK _ _ _
          · simp
      rw [List.length_cons]; omega
    · rw [if_neg he]; simp

/-- What keyed sets come to. -/
structure Good (xs st : List KS) : Prop where
  up : UpK st
  none : ∀ k, look k st = none ↔ ∀ x ∈ xs, ¬ x.1 = k
  some : ∀ k s, look k st = some s → checkB s = true ∧ (s.miss = true ↔ ∀ x ∈ xs, x.1 = k → x.2.miss = true) ∧ ∀ v, hasB s v = true ↔ ∀ x ∈ xs, x.1 = k → hasB x.2 v = true
theorem good_nil : Good [] [] := ⟨List.Pairwise.nil, fun k => by simp [look], fun k s h => by simp [look] at h⟩
theorem good_step {xs st : List KS} {x : KS} (h : Good xs st) (hc : checkB x.2 = true) (h0 : (stepK st x).2 = 0) : Good (xs ++ [x]) (stepK st x).1 := by
  unfold stepK at h0 ⊢
  cases hl : look x.1 st with
  | none =>
    simp only
    have hn := (h.none x.1).1 hl
    refine ⟨upK_put h.up, fun k => ?_, fun k s hs => ?_⟩
    · rw [look_put]
      by_cases e : k = x.1
      · rw [if_pos e]
        constructor
        · intro a; cases a
        · intro a; exact absurd e.symm (a x (by simp))
      · rw [if_neg e, h.none k]
        constructor
        · intro a y hy
          rcases List.mem_append.1 hy with hy | hy
          · exact a y hy
          · rw [List.mem_singleton] at hy; rw [hy]; exact fun e2 => e e2.symm
        · intro a y hy; exact a y (List.mem_append_left _ hy)
    · rw [look_put] at hs
      by_cases e : k = x.1
      · rw [if_pos e] at hs
        injection hs with hs
        subst hs e
        refine ⟨hc, ⟨fun a y hy ey => ?_, fun a => a x (by simp) rfl⟩, fun v => ⟨fun a y hy ey => ?_, fun a => a x (by simp) rfl⟩⟩
        all_goals
          rcases List.mem_append.1 hy with hy | hy
          · exact absurd ey (hn y hy)
          · rw [List.mem_singleton] at hy; rw [hy]; exact a
      · rw [if_neg e] at hs
        obtain ⟨a1, a2, a3⟩ := h.some k s hs
        refine ⟨a1, a2.trans ⟨fun a y hy ey => ?_, fun a y hy ey => a y (List.mem_append_left _ hy) ey⟩, fun v => (a3 v).trans ⟨fun a y hy ey => ?_, fun a y hy ey => a y (List.mem_append_left _ hy) ey⟩⟩
        all_goals
          rcases List.mem_append.1 hy with hy | hy
          · exact a y hy ey
          · rw [List.mem_singleton] at hy; rw [hy] at ey; exact absurd ey.symm e
  | some t =>
    rw [hl] at h0
    simp only at h0 ⊢
    by_cases hm : (meetR t x.2).2 = 0
    · rw [if_pos hm]
      simp only
      obtain ⟨m, hmm⟩ : ∃ m, m = (meetR t x.2).1 := ⟨_, rfl⟩
      rw [← hmm]
      obtain ⟨c1, c2, c3⟩ := meetR_spec (a := t) (b := x.2) (c := m) (Prod.ext hmm.symm hm)
      refine ⟨upK_put h.up, fun k => ?_, fun k s hs => ?_⟩
      · rw [look_put]
        by_cases e : k = x.1
        · rw [if_pos e]
          constructor
          · intro a; cases a
          · intro a; exact absurd e.symm (a x (by simp))
        · rw [if_neg e, h.none k]
          constructor
          · intro a y hy
            rcases List.mem_append.1 hy with hy | hy
            · exact a y hy
            · rw [List.mem_singleton] at hy; rw [hy]; exact fun e2 => e e2.symm
          · intro a y hy; exact a y (List.mem_append_left _ hy)
      · rw [look_put] at hs
        by_cases e : k = x.1
        · rw [if_pos e] at hs
          injection hs with hs
          subst hs e
          obtain ⟨_, t2, t3⟩ := h.some x.1 t hl
          refine ⟨c1, ?_, fun v => ?_⟩
          · rw [c2, Bool.and_eq_true, t2]
            constructor
            · rintro ⟨a, b⟩ y hy ey
              rcases List.mem_append.1 hy with hy | hy
              · exact a y hy ey
              · rw [List.mem_singleton] at hy; rw [hy]; exact b
            · intro a; exact ⟨fun y hy ey => a y (List.mem_append_left _ hy) ey, a x (by simp) rfl⟩
          · rw [c3, Bool.and_eq_true, t3]
            constructor
            · rintro ⟨a, b⟩ y hy ey
              rcases List.mem_append.1 hy with hy | hy
              · exact a y hy ey
              · rw [List.mem_singleton] at hy; rw [hy]; exact b
            · intro a; exact ⟨fun y hy ey => a y (List.mem_append_left _ hy) ey, a x (by simp) rfl⟩
        · rw [if_neg e] at hs
          obtain ⟨a1, a2, a3⟩ := h.some k s hs
          refine ⟨a1, a2.trans ⟨fun a y hy ey => ?_, fun a y hy ey => a y (List.mem_append_left _ hy) ey⟩, fun v => (a3 v).trans ⟨fun a y hy ey => ?_, fun a y hy ey => a y (List.mem_append_left _ hy) ey⟩⟩
          all_goals
            rcases List.mem_append.1 hy with hy | hy
            · exact a y hy ey
            · rw [List.mem_singleton] at hy; rw [hy] at ey; exact absurd ey.symm e
    · rw [if_neg hm] at h0; exact absurd h0 hm
theorem good_sets : ∀ (l xs st : List KS), Good xs st → (∀ x ∈ l, checkB x.2 = true) → (setsF st l).2 = 0 → Good (xs ++ l) (setsF st l).1
  | [], xs, st, h, _, _ => by rw [List.append_nil]; exact h
  | x :: l, xs, st, h, hc, h0 => by
    unfold setsF at h0 ⊢
    by_cases he : (stepK st x).2 = 0
    · rw [if_pos he] at h0 ⊢
      have := good_sets l (xs ++ [x]) _ (good_step h (hc x (by simp)) he) (fun y hy => hc y (List.mem_cons_of_mem _ hy)) h0
      rw [List.append_assoc] at this
      exact this
    · rw [if_neg he] at h0; exact absurd h0 he
/-- Whatever comes of the same keyed sets is the same. -/
theorem good_unique {xs ys st st' : List KS} (h : Good xs st) (h' : Good ys st') (he : ∀ x, x ∈ xs ↔ x ∈ ys) : st = st' := by
  refine upK_ext h.up h'.up fun k => ?_
  cases e1 : look k st with
  | none =>
    cases e2 : look k st' with
    | none => rfl
    | some s =>
      have a := (h.none k).1 e1
      have b : look k st' = none := (h'.none k).2 fun x hx => a x ((he x).2 hx)
      rw [e2] at b; cases b
  | some s =>
    cases e2 : look k st' with
    | none =>
      have a := (h'.none k).1 e2
      have b : look k st = none := (h.none k).2 fun x hx => a x ((he x).1 hx)
      rw [e1] at b; cases b
    | some s' =>
      obtain ⟨a1, a2, a3⟩ := h.some k s e1
      obtain ⟨b1, b2, b3⟩ := h'.some k s' e2
      refine congrArg _ (set_ext a1 b1 ?_ fun v hv => ?_)
      · rw [Bool.eq_iff_iff, a2, b2]
        exact ⟨fun a x hx => a x ((he x).2 hx), fun a x hx => a x ((he x).1 hx)⟩
      · rw [← has_in a1 v hv, ← has_in b1 v hv, Bool.eq_iff_iff, a3, b3]
        exact ⟨fun a x hx => a x ((he x).2 hx), fun a x hx => a x ((he x).1 hx)⟩

/-! No error on the way, where few values are to be written. -/
def Few (U : List Txt) (s : VSet) : Prop := s.no = true → ∀ t ∈ s.vals, t ∈ U
theorem nums_few' {U : List Txt} (hU : U.length ≤ 64) {lo hi : Int} {but : List Txt} (hb : ∀ t ∈ but, t ∈ U) : ∃ c, numbersO lo hi but = some c ∧ Few U c := by
  unfold numbersO numsAt
  have hs : ∀ l i : Int, ∀ t ∈ valsOf l i but, t ∈ U := fun l i t ht => hb t ((mem_valsOf l i but t).1 ht).1
  have hl : ∀ l i : Int, (valsOf l i but).length ≤ 64 := fun l i => Nat.le_trans (nodup_len (up_nodup (up_rising _)) (hs l i)) hU
  split
  · exact ⟨_, rfl, fun e => by cases e⟩
  · rw [if_neg (by have := hl (loOf lo hi but) (hiOf lo hi but); omega)]
    exact ⟨_, rfl, fun _ => hs _ _⟩
theorem meet_few {U : List Txt} (hU : U.length ≤ 64) {a b : VSet} (ca : checkB a = true) (cb : checkB b = true) (ha : Few U a) (hb : Few U b) : (meetR a b).2 = 0 ∧ Few U (meetR a b).1 := by
  have key : ∃ c, meetO a b = some c ∧ Few U c := by
    unfold meetO
    by_cases h1 : a.no = false
    · rw [if_pos h1]; exact ⟨_, rfl, fun e => by cases e⟩
    · rw [if_neg h1]
      by_cases h2 : b.no = false
      · rw [if_pos h2]; exact ⟨_, rfl, fun e => by cases e⟩
      · rw [if_neg h2]
        have hs : ∀ t ∈ rising (a.vals ++ b.vals), t ∈ U := fun t ht => by
          rw [mem_rising, List.mem_append] at ht
          rcases ht with ht | ht
          · exact ha (by simpa using h1) t ht
          · exact hb (by simpa using h2) t ht
        have hl := Nat.le_trans (nodup_len (up_nodup (up_rising _)) hs) hU
        split
        · unfold butS; rw [if_pos hl]; exact ⟨_, rfl, fun _ => hs⟩
        · split
          · exact nums_few' hU hs
          · split
            · exact nums_few' hU hs
            · exact nums_few' hU hs
  obtain ⟨c, hc, hf⟩ := key
  unfold meetR
  rw [if_neg (by rw [ca]; decide), if_neg (by rw [cb]; decide), hc]
  exact ⟨rfl, hf⟩
theorem sets_few {U : List Txt} (hU : U.length ≤ 64) : ∀ (l st : List KS), (∀ x ∈ st, checkB x.2 = true ∧ Few U x.2) → (∀ x ∈ l, checkB x.2 = true ∧ Few U x.2) → (setsF st l).2 = 0
  | [], st, _, _ => rfl
  | x :: l, st, hs, hl => by
    have hx := hl x (by simp)
    have key : (stepK st x).2 = 0 ∧ ∀ y ∈ (stepK st x).1, checkB y.2 = true ∧ Few U y.2 := by
      have hput : ∀ s : VSet, checkB s = true ∧ Few U s → ∀ y ∈ putK x.1 s st, checkB y.2 = true ∧ Few U y.2 := by
        intro s h
        clear hl hx
        induction st with
        | nil => intro y hy; rw [putK, List.mem_singleton] at hy; rw [hy]; exact h
        | cons z st ih =>
          intro y hy
          unfold putK at hy
          split at hy
          · rcases List.mem_cons.1 hy with rfl | hy
            · exact hs y (by simp)
            · exact ih (fun q hq => hs q (List.mem_cons_of_mem _ hq)) y hy
          · split at hy
            · rcases List.mem_cons.1 hy with rfl | hy
              · exact h
              · exact hs y (List.mem_cons_of_mem _ hy)
            · rcases List.mem_cons.1 hy with rfl | hy
              · exact h
              · exact hs y hy
      unfold stepK
      cases he : look x.1 st with
      | none => exact ⟨rfl, hput _ hx⟩
      | some t =>
        have ht := hs _ (look_mem he)
        obtain ⟨m1, m2⟩ := meet_few hU ht.1 hx.1 ht.2 hx.2
        simp only
        rw [if_pos m1]
        exact ⟨rfl, hput _ ⟨(meetR_spec (c := (meetR t x.2).1) (Prod.ext rfl m1)).1, m2⟩⟩
    unfold setsF
    rw [if_pos key.1]
    exact sets_few hU l _ key.2 fun y hy => hl y (List.mem_cons_of_mem _ hy)
theorem of_few {r : VReq} (h : wrongR r = 0) {U : List Txt} (hU : ∀ t ∈ r.vals, t ∈ U) : Few U (ofSet r) := by
  obtain ⟨o1, o6, _⟩ := wrong_ok h
  have hnil : ∀ lo hi : Int, Few U ((numbersO lo hi []).getD zeroS) := fun lo hi => by
    obtain ⟨c, hc, hf⟩ := nums_few' (U := []) (by simp) (lo := lo) (hi := hi) (but := []) (by simp)
    rw [hc]; exact fun e t ht => absurd (hf e t ht) (by simp)
  unfold ofSet
  split
  · exact fun e => by cases e
  · split
    · intro _ t ht; exact hU t ((mem_rising r.vals t).1 ht)
    · split
      · intro _ t ht; cases ht
      · split
        · exact fun e => by cases e
        · split
          · exact hnil _ _
          · exact hnil _ _
theorem flat_len : ∀ (l : List VReq), (∀ r ∈ l, r.vals.length ≤ 8) → (l.flatMap (·.vals)).length ≤ 8 * l.length
  | [], _ => by simp
  | r :: l, h => by
    rw [List.flatMap_cons, List.length_append, List.length_cons]
    have h1 := h r (by simp)
    have h2 := flat_len l fun x hx => h x (List.mem_cons_of_mem _ hx)
    omega
/-- Requirements that may be, in two lists with the same ones: the same sets, and no error. -/
theorem sets_same {a b : List VReq} (ha : moreR 8 a = 0) (hb : b.length ≤ 16) (he : ∀ r, r ∈ b ↔ r ∈ a) : ∃ st, setsR a = (st, 0) ∧ setsR b = (st, 0) := by
  obtain ⟨hl, hw⟩ := more_ok.1 ha
  have hwb : ∀ r ∈ b, wrongR r = 0 := fun r hr => hw r ((he r).1 hr)
  have hU : (a.flatMap (·.vals)).length ≤ 64 := by
    have := flat_len a fun r hr => (wrong_ok (hw r hr)).2.2.2.2.1
    omega
  have hok : ∀ l : List VReq, (∀ r ∈ l, r ∈ a) → ∀ x ∈ l.map keyS, checkB x.2 = true ∧ Few (a.flatMap (·.vals)) x.2 := by
    intro l h x hx
    obtain ⟨r, hr, rfl⟩ := List.mem_map.1 hx
    exact ⟨(of_spec (hw r (h r hr))).1, of_few (hw r (h r hr)) fun t ht => List.mem_flatMap.2 ⟨r, h r hr, ht⟩⟩
  have oa := hok a fun r h => h
  have ob := hok b fun r h => (he r).1 h
  have ea := sets_few hU (a.map keyS) [] (by simp) oa
  have eb := sets_few hU (b.map keyS) [] (by simp) ob
  have ga := good_sets (a.map keyS) [] [] good_nil (fun x hx => (oa x hx).1) ea
  have gb := good_sets (b.map keyS) [] [] good_nil (fun x hx => (ob x hx).1) eb
  have hu := good_unique ga gb fun x => by
    rw [List.nil_append, List.nil_append, List.mem_map, List.mem_map]
    exact ⟨fun ⟨r, hr, e⟩ => ⟨r, (he r).2 hr, e⟩, fun ⟨r, hr, e⟩ => ⟨r, (he r).1 hr, e⟩⟩
  refine ⟨(setsF [] (a.map keyS)).1, ?_, ?_⟩
  · unfold setsR; rw [if_pos (more_ok.2 ⟨by omega, hw⟩)]; exact Prod.ext rfl ea
  · unfold setsR; rw [if_pos (more_ok.2 ⟨hb, hwb⟩), hu]; exact Prod.ext rfl eb
theorem sets_err {l : List VReq} (h : moreR 16 l = 0) (he : ¬ (setsR l).2 = 0) : (setsR l).2 = 3 := by
  unfold setsR at he ⊢
  rw [if_pos h] at he ⊢
  have hc : ∀ x ∈ l.map keyS, checkB x.2 = true := fun x hx => by
    obtain ⟨r, hr, rfl⟩ := List.mem_map.1 hx
    exact (of_spec ((more_ok.1 h).2 r hr)).1
  suffices H : ∀ (xs st : List KS), (∀ x ∈ st, checkB x.2 = true) → (∀ x ∈ xs, checkB x.2 = true) → ¬ (setsF st xs).2 = 0 → (setsF st xs).2 = 3 by
    exact H _ [] (by simp) hc he
  intro xs
  induction xs with
  | nil => intro st _ _ h; exact absurd rfl h
  | cons x xs ih =>
    intro st hs hx h0
    unfold setsF at h0 ⊢
    by_cases hq : (stepK st x).2 = 0
    · rw [if_pos hq] at h0 ⊢
      refine ih _ ?_ (fun y hy => hx y (List.mem_cons_of_mem _ hy)) h0
      have hput : ∀ s : VSet, checkB s = true → ∀ y ∈ putK x.1 s st, checkB y.2 = true := by
        intro s h
        clear hq h0 ih
        induction st with
        | nil => intro y hy; rw [putK, List.mem_singleton] at hy; rw [hy]; exact h
        | cons z st ih =>
          intro y hy
          unfold putK at hy
          split at hy
          · rcases List.mem_cons.1 hy with rfl | hy
            · exact hs y (by simp)
            · exact ih (fun q hq => hs q (List.mem_cons_of_mem _ hq)) y hy
          · split at hy
            · rcases List.mem_cons.1 hy with rfl | hy
              · exact h
              · exact hs y (List.mem_cons_of_mem _ hy)
            · rcases List.mem_cons.1 hy with rfl | hy
              · exact h
              · exact hs y hy
      unfold stepK at hq ⊢
      cases he : look x.1 st with
      | none => exact hput _ (hx x (by simp))
      | some t =>
        rw [he] at hq
        simp only at hq ⊢
        by_cases hm : (meetR t x.2).2 = 0
        · rw [if_pos hm]; exact hput _ (meetR_spec (c := (meetR t x.2).1) (Prod.ext rfl hm)).1
        · rw [if_neg hm] at hq; exact absurd hq hm
    · rw [if_neg hq]
      show (stepK st x).2 = 3
      unfold stepK at hq ⊢
      cases he : look x.1 st with
      | none => rw [he] at hq; exact absurd rfl hq
      | some t =>
        rw [he] at hq
        simp only at hq ⊢
        by_cases hm : (meetR t x.2).2 = 0
        · rw [if_pos hm] at hq; exact absurd rfl hq
        · rw [if_neg hm]
          show (meetR t x.2).2 = 3
          unfold meetR at hm ⊢
          rw [if_neg (by rw [hs _ (look_mem he)]; decide), if_neg (by rw [hx x (by simp)]; decide)] at hm ⊢
          cases hmo : meetO t x.2 with
          | none => rfl
          | some c => rw [hmo] at hm; exact absurd rfl hm

/-! Labels. -/
abbrev Lab := Txt × Txt
/-- The value of the first label of a key. -/
def lookL (k : Txt) : List Lab → Option Txt
  | [] => none
  | x :: l => if x.1 = k then some x.2 else lookL k l
def labelsF : List Lab → List Lab → Int
  | _, [] => 0
  | seen, x :: l => if (nameB x.1 && valueB x.2) = false then 20 else if seen.any (fun y => y.1 == x.1) = true then 6 else labelsF (seen ++ [x]) l
def labelsR (l : List Lab) : Int := labelsF [] l
def admB (labels : List Lab) (x : KS) : Bool := match lookL x.1 labels with | some v => hasB x.2 v | none => x.2.miss
def admitsR (l : List VReq) (labels : List Lab) : Bool × Int :=
  if moreR 16 l = 0 then (if labelsR labels = 0 then (l.all (fun r => admB labels (keyS r)), 0) else (false, labelsR labels)) else (false, moreR 16 l)
def emptyV (s : VSet) : Bool := checkB s && !s.no && !s.miss && (s.vals.length == 0)
def canR (l : List VReq) : Bool × Int := if (setsR l).2 = 0 then ((setsR l).1.all (fun x => !emptyV x.2), 0) else (false, (setsR l).2)
def meetsR (a b : List VReq) : Bool × Int := if moreR 8 a = 0 then (if moreR 8 b = 0 then canR (a ++ b) else (false, moreR 8 b)) else (false, moreR 8 a)
/-- Labels meet the sets of keys just if they meet every requirement. -/
theorem adm_good {xs st : List KS} (h : Good xs st) (labels : List Lab) : st.all (admB labels) = xs.all (admB labels) := by
  have hone : ∀ k s, look k st = some s → (admB labels (k, s) = true ↔ ∀ x ∈ xs, x.1 = k → admB labels x = true) := by
    intro k s hs
    obtain ⟨_, a2, a3⟩ := h.some k s hs
    unfold admB
    simp only
    cases hv : lookL k labels with
    | none =>
      simp only
      rw [a2]
      exact ⟨fun a x hx e => by rw [e, hv]; exact a x hx e, fun a x hx e => by have := a x hx e; rw [e, hv] at this; exact this⟩
    | some v =>
      simp only
      rw [a3]
      exact ⟨fun a x hx e => by rw [e, hv]; exact a x hx e, fun a x hx e => by have := a x hx e; rw [e, hv] at this; exact this⟩
  rw [Bool.eq_iff_iff, List.all_eq_true, List.all_eq_true]
  constructor
  · intro a x hx
    cases hs : look x.1 st with
    | none => exact absurd rfl ((h.none x.1).1 hs x hx)
    | some s => exact (hone x.1 s hs).1 (a _ (look_mem hs)) x hx rfl
  · intro a x hx
    exact (hone x.1 x.2 (mem_look h.up hx)).2 fun y hy _ => a y hy
theorem adm_full {labels : List Lab} {x : KS} (h : admB labels x = true) : emptyV x.2 = false := by
  cases he : emptyV x.2 with
  | false => rfl
  | true =>
    unfold emptyV at he
    rw [Bool.and_eq_true, Bool.and_eq_true, Bool.and_eq_true] at he
    obtain ⟨⟨⟨_, hno⟩, hmi⟩, hl⟩ := he
    have hn : x.2.vals = [] := List.eq_nil_of_length_eq_zero (by simpa using hl)
    unfold admB at h
    split at h
    · unfold hasB inB at h
      rw [if_neg (by simpa using hno), hn] at h
      simp at h
    · rw [h] at hmi; cases hmi
theorem sets_good {l : List VReq} (h : moreR 16 l = 0) (h0 : (setsR l).2 = 0) : Good (l.map keyS) (setsR l).1 := by
  unfold setsR at h0 ⊢
  rw [if_pos h] at h0 ⊢
  have := good_sets (l.map keyS) [] [] good_nil (fun x hx => by
    obtain ⟨r, hr, rfl⟩ := List.mem_map.1 hx
    exact (of_spec ((more_ok.1 h).2 r hr)).1) h0
  rw [List.nil_append] at this
  exact this
theorem met_is {l : List VReq} (h : moreR 16 l = 0) (h0 : (setsR l).2 = 0) (labels : List Lab) : (setsR l).1.all (admB labels) = l.all (fun r => admB labels (keyS r)) := by
  rw [adm_good (sets_good h h0), List.all_map]; rfl
theorem met_can {l : List VReq} (h : moreR 16 l = 0) (h0 : (setsR l).2 = 0) {labels : List Lab} (hm : l.all (fun r => admB labels (keyS r)) = true) : (setsR l).1.all (fun x => !emptyV x.2) = true := by
  rw [← met_is h h0 labels] at hm
  rw [List.all_eq_true] at hm ⊢
  intro x hx
  rw [adm_full (hm x hx)]; rfl
/-- Where keys of labels part, a label that has the key is the one. -/
theorem labels_next : ∀ (l seen : List Lab) (k : Nat) (h : k < l.length), labelsF seen l = 0 → nameB l[k].1 = true ∧ valueB l[k].2 = true ∧ ∀ x ∈ seen ++ l.take k, ¬ x.1 = l[k].1
  | [], _, k, h, _ => by simp at h
  | x :: l, seen, k, h, h0 => by
    unfold labelsF at h0
    split at h0
    · cases h0
    · rename_i hn
      split at h0
      · cases h0
      · rename_i hs
        cases k with
        | zero =>
          have hn' : nameB x.1 = true ∧ valueB x.2 = true := by simpa using hn
          refine ⟨hn'.1, hn'.2, fun y hy => ?_⟩
          rw [List.take_zero, List.append_nil] at hy
          intro e
          exact hs (List.any_eq_true.2 ⟨y, hy, beq_iff_eq.2 e⟩)
        | succ k =>
          have := labels_next l (seen ++ [x]) k (by simpa using h) h0
          rw [List.append_assoc] at this
          exact this
theorem look_at : ∀ (l : List Lab) (k : Nat) (h : k < l.length), (∀ x ∈ l.take k, ¬ x.1 = l[k].1) → lookL l[k].1 l = some l[k].2
  | [], k, h, _ => by simp at h
  | x :: l, 0, _, _ => by
    show (if x.1 = x.1 then some x.2 else lookL x.1 l) = some x.2
    rw [if_pos rfl]
  | x :: l, k + 1, h, hn => by
    have h1 := hn x (by simp)
    rw [List.getElem_cons_succ] at h1 ⊢
    unfold lookL
    rw [if_neg h1]
    exact look_at l k (by simpa using h) fun y hy => hn y (by rw [List.take_succ_cons]; exact List.mem_cons_of_mem _ hy)
theorem lookL_none {k : Txt} : ∀ {l : List Lab}, lookL k l = none ↔ ∀ x ∈ l, ¬ x.1 = k
  | [] => by simp [lookL]
  | y :: l => by
    unfold lookL
    by_cases h : y.1 = k
    · rw [if_pos h]; simp [h]
    · rw [if_neg h, lookL_none (l := l)]; simp [h]

end Go.Proofs.YthaldbjnnbllbaaGreatDoor.Val
