/- Layer 4: plain facts on a key's set laid among others, as the document lays it. -/
import Derived.Test.YtnkcbmlobikjkaaGreatDoorRqO
namespace Go.Proofs.YtnkcbmlobikjkaaGreatDoor
open Go.RowKit Suf Val Go.Maps

/-- A key that is not there: at the first place whose key is not lower. -/
theorem putK_new {k : Txt} {s : VSet} : ∀ {st : List KS} {i : Nat}, (∀ x ∈ st.take i, lt x.1 k = true) → (∀ h : i < st.length, ¬ lt st[i].1 k = true) → (∀ x ∈ st, ¬ x.1 = k) → putK k s st = st.take i ++ (k, s) :: st.drop i
  | [], i, _, _, _ => by simp [putK]
  | y :: l, 0, _, h2, h3 => by
    have h : ¬ lt y.1 k = true := h2 (by simp)
    unfold putK
    rw [if_neg h, if_neg (h3 y (by simp))]; rfl
  | y :: l, i + 1, h1, h2, h3 => by
    unfold putK
    rw [if_pos (h1 y (by simp)), putK_new (st := l) (i := i) (fun x hx => h1 x (by rw [List.take_succ_cons]; exact List.mem_cons_of_mem _ hx)) (fun h => by have := h2 (by simpa using h); simpa using this) (fun x hx => h3 x (List.mem_cons_of_mem _ hx))]
    rfl
/-- A key that is there: its set alone is another. -/
theorem put_old {k : Txt} {s : VSet} : ∀ {st : List KS} {j : Nat} (_ : UpK st) (h : j < st.length), st[j].1 = k → putK k s st = st.set j (k, s)
  | [], j, _, h, _ => by simp at h
  | y :: l, 0, hu, _, e => by
    have e' : y.1 = k := e
    unfold putK
    rw [if_neg (fun h => lt_ne h e'), if_pos e']; rfl
  | y :: l, j + 1, hu, h, e => by
    unfold UpK at hu
    rw [List.map_cons] at hu
    obtain ⟨h1, h2⟩ := List.pairwise_cons.1 hu
    have hj : j < l.length := by simpa using h
    have e' : l[j].1 = k := e
    unfold putK
    rw [if_pos (by rw [← e']; exact h1 _ (List.mem_map.2 ⟨_, List.getElem_mem hj, rfl⟩)), put_old (st := l) (j := j) h2 hj e']
    rfl
theorem look_first {k : Txt} : ∀ {st : List KS} {j : Nat} (h : j < st.length), st[j].1 = k → (∀ x ∈ st.take j, ¬ x.1 = k) → Val.look k st = some st[j].2
  | [], j, h, _, _ => by simp at h
  | y :: l, 0, _, e, _ => by
    have e' : y.1 = k := e
    rw [look_cons, if_pos e']; rfl
  | y :: l, j + 1, h, e, hn => by
    have hj : j < l.length := by simpa using h
    have e' : l[j].1 = k := e
    rw [look_cons, if_neg (hn y (by simp)), look_first (st := l) (j := j) hj e' (fun x hx => hn x (by rw [List.take_succ_cons]; exact List.mem_cons_of_mem _ hx))]
    rfl
end Go.Proofs.YtnkcbmlobikjkaaGreatDoor
