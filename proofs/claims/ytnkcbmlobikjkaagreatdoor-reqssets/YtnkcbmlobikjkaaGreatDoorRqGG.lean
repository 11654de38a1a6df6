/- Layer 4: the sets of a map, by their keys; contract of rising. -/
import Derived.Test.YtnkcbmlobikjkaaGreatDoorRqFG
import Derived.Test.YtnkcbmlobikjkaaGreatDoorSortL
import Derived.Maps.RangeWalk
namespace Go.Proofs.YtnkcbmlobikjkaaGreatDoor
open Go.RowKit Suf Val Go.Maps

theorem self_inv (v : Value) (y : DataW Value × List MemPlace) (_ : selfElem v = some y) : ∃ c : Value, v = (fun c : Value => c) c := ⟨v, rfl⟩
/-- What has been gathered of a map's sets while some are left. -/
def Gath (left : Lit → Bool) (st xs : List VKS) : Prop :=
  (∀ x, left (.string x) = true → ∃ y ∈ st, y.2.1 = x) ∧ (∀ y ∈ xs, y ∈ st ∧ left (.string y.2.1) = false) ∧ (∀ y ∈ st, left (.string y.2.1) = true ∨ y ∈ xs) ∧ xs.Nodup
theorem gath_step {left : Lit → Bool} {st xs : List VKS} {x : VKS} (h : Gath left st xs) (hu : ∀ y ∈ st, ∀ z ∈ st, y.2.1 = z.2.1 → y = z) (hx : x ∈ st) (hl : left (.string x.2.1) = true) : Gath (fun z => left z && !z.sameKey (.string x.2.1)) st (xs ++ [x]) := by
  obtain ⟨h1, h2, h3, h4⟩ := h
  refine ⟨fun k hk => h1 k (by simp at hk; exact hk.1), fun y hy => ?_, fun y hy => ?_, ?_⟩
  · rcases List.mem_append.1 hy with hy | hy
    · exact ⟨(h2 y hy).1, by simp [(h2 y hy).2]⟩
    · rw [List.mem_singleton] at hy
      subst hy
      exact ⟨hx, by simp [Lit.sameKey]⟩
  · by_cases e : y.2.1 = x.2.1
    · rw [hu y hy x hx e]; exact Or.inr (by simp)
    · rcases h3 y hy with h | h
      · exact Or.inl (by simp [h, Lit.sameKey, e])
      · exact Or.inr (List.mem_append_left _ h)
  · refine List.nodup_append.2 ⟨h4, by simp, fun a ha b hb => ?_⟩
    rw [List.mem_singleton] at hb
    subst hb
    rintro rfl
    rw [(h2 a ha).2] at hl; cases hl
theorem uniqV {st : List VKS} (h : UpK (st.map (·.2))) : ∀ y ∈ st, ∀ z ∈ st, y.2.1 = z.2.1 → y = z := by
  unfold UpK at h
  rw [List.map_map] at h
  induction st with
  | nil => intro y hy; cases hy
  | cons x l ih =>
    rw [List.map_cons] at h
    obtain ⟨h1, h2⟩ := List.pairwise_cons.1 h
    intro y hy z hz e
    rcases List.mem_cons.1 hy with e1 | hy1
    · rcases List.mem_cons.1 hz with e2 | hz1
      · rw [e1, e2]
      · exact absurd (by rw [← e1]; exact e) (lt_ne (h1 _ (List.mem_map.2 ⟨z, hz1, rfl⟩)))
    · rcases List.mem_cons.1 hz with e2 | hz1
      · exact absurd (by rw [← e2]; exact e.symm) (lt_ne (h1 _ (List.mem_map.2 ⟨y, hy1, rfl⟩)))
      · exact ih h2 y hy1 z hz1 e
theorem lookV_of {st : List VKS} (h : UpK (st.map (·.2))) {y : VKS} (hy : y ∈ st) : lookV y.2.1 st = some y := by
  cases hl : lookV y.2.1 st with
  | none =>
    have : Val.look y.2.1 (st.map (·.2)) = none := by rw [look_mapV, hl]; rfl
    exact absurd rfl (look_none.1 this y.2 (List.mem_map.2 ⟨y, hy, rfl⟩))
  | some z => rw [uniqV h y hy z (lookV_mem hl).1 (lookV_mem hl).2.symm]
theorem nodupV {st : List VKS} (h : UpK (st.map (·.2))) : st.Nodup := by
  unfold UpK at h
  rw [List.map_map] at h
  exact List.Pairwise.of_map _ (fun a b hab => fun e => lt_ne hab (by rw [e])) h
/-- Sorted by their keys they are the one list that rises. -/
theorem sorted_is {st xs : List VKS} (h : UpK (st.map (·.2))) (hp : xs.Perm st) (hs : xs.Pairwise fun a b => lt b.2.1 a.2.1 = false) : xs = st := by
  refine hp.eq_of_pairwise (le := fun a b => lt b.2.1 a.2.1 = false) (fun a b ha hb h1 h2 => ?_) hs ?_
  · have hb' : b ∈ st := hb
    rcases lt_total a.2.1 b.2.1 with hl | hl | hl
    · rw [h2] at hl; cases hl
    · exact uniqV h a (hp.mem_iff.1 ha) b hb' hl
    · rw [h1] at hl; cases hl
  · unfold UpK at h
    rw [List.map_map] at h
    exact (List.Pairwise.of_map _ (fun a b hab => hab) h).imp fun hab => lt_asymm hab
end Go.Proofs.YtnkcbmlobikjkaaGreatDoor
