/- slices.SortFunc at a row of the call's own, whatever its elements: what it holds behind. No function of the program is named. -/
import Derived.Test.YtepcnfnmphgccaaGreatDoorKitA
import Derived.Shelf.SlSortCmp.NoneTotal
import Derived.Sort.OwnSorted
namespace Go.Proofs.YtepcnfnmphgccaaGreatDoor
open Go.RowKit Go.Shelf Go.Sort

section
variable {P : Program} {ρ : Ren} {α : Type} {enc : α → List Value} {k : Nat}
theorem flatG_len (hk : ∀ x, (enc x).length = k) (l : List α) : (l.flatMap enc).length = l.length * k := by
  induction l with
  | nil => simp
  | cons x l ih => rw [List.flatMap_cons, List.length_append, ih, hk, List.length_cons, Nat.succ_mul]; omega
theorem flatG_at (hk : ∀ x, (enc x).length = k) : ∀ (l : List α) (j : Nat) (hj : j < l.length) (i : Nat), i < k → (l.flatMap enc)[j * k + i]? = (enc l[j])[i]?
  | [], j, hj, _, _ => absurd hj (Nat.not_lt_zero _)
  | x :: l, 0, _, i, hi => by
    rw [List.flatMap_cons, Nat.zero_mul, Nat.zero_add, List.getElem?_append_left (by rw [hk]; exact hi)]; rfl
  | x :: l, j + 1, hj, i, hi => by
    rw [List.flatMap_cons, List.getElem?_append_right (by rw [hk, Nat.succ_mul]; omega), hk, show (j + 1) * k + i - k = j * k + i by rw [Nat.succ_mul]; omega]
    exact flatG_at hk l j (Nat.lt_of_succ_lt_succ hj) i hi
variable [Inhabited α]
theorem flatG_bridge (hk : ∀ x, (enc x).length = k) (hk0 : 0 < k) (d : Array α) : (Go.Sort.flatK enc k d).toList = d.toList.flatMap enc := by
  apply List.ext_getElem?
  intro t
  by_cases ht : t < d.size * k
  · have h3 : t / k < d.size := Nat.div_lt_of_lt_mul (by rw [Nat.mul_comm]; exact ht)
    have h4 : t % k < k := Nat.mod_lt _ hk0
    have h2 := flatG_at hk d.toList (t / k) (by simpa using h3) (t % k) h4
    rw [show t / k * k + t % k = t by rw [Nat.mul_comm]; exact Nat.div_add_mod t k] at h2
    rw [h2]
    rw [Array.getElem?_toList]
    unfold Go.Sort.flatK
    rw [Array.getElem?_map, Array.getElem?_range, if_pos ht]
    simp only [Option.map_some]
    rw [getElem!_pos d (t / k) h3, getElem!_pos (enc (d[t / k]'h3)) (t % k) (by rw [hk]; exact h4), Array.getElem_toList]
    exact (List.getElem?_eq_getElem (by rw [hk]; exact h4)).symm
  · rw [List.getElem?_eq_none (by simp; omega), List.getElem?_eq_none (by rw [flatG_len hk]; simp; omega)]
theorem holdsG {w : World} {base g cap : Nat} {T : TypeId} {d : Array α} (hk : ∀ x, (enc x).length = k) (hk0 : 0 < k) (h : w.ownsRow base T k (.slice (some ⟨g, 0, none⟩) d.size cap) d.size (d.toList.flatMap enc)) : Go.Sort.HoldsK enc k w g 0 d := by
  intro j hj
  have hj' : j < d.size * k := by simpa using hj
  refine ⟨?_, by rw [Nat.zero_add]; exact h.frozenAt j⟩
  rw [Nat.zero_add, h.cellAt j hj', ← flatG_bridge hk hk0, Array.getElem?_toList]
  rw [getElem!_pos _ j hj]
  exact Array.getElem?_eq_getElem hj
theorem grown_sortG {w : World} {g n : Nat} {os : Array Obj} (d : Array α) : w.grownBy (Go.Proofs.sortWorldK enc k w g 0 n d os) (some g) := by
  unfold Go.Proofs.sortWorldK Go.Sort.putRowK
  refine ⟨rfl, rfl, rfl, by simp, fun k hk hne => ?_⟩
  rw [Go.Sort.heap_grow_old _ _ (by simpa using hk)]
  have : g ≠ k := fun e => hne (by rw [e])
  simp [Go.Sort.putRow, Go.Sort.mapBlock, Go.Sort.ahead, Array.getElem?_modify, this]
theorem row_sortG {w : World} {base g cap n : Nat} {T : TypeId} {os : Array Obj} {d d' : Array α} (hk : ∀ x, (enc x).length = k) (hk0 : 0 < k) (hs : d'.size = d.size) (h : w.ownsRow base T k (.slice (some ⟨g, 0, none⟩) d.size cap) d.size (d.toList.flatMap enc)) :
    (Go.Proofs.sortWorldK enc k w g 0 n d' os).ownsRow base T k (.slice (some ⟨g, 0, none⟩) d.size cap) d.size (d'.toList.flatMap enc) := by
  rcases h.2 with ⟨e, _⟩ | ⟨g', cap', cur, e, hb, hg, hn, hc, hz, _⟩
  · cases e
  · injection e with e1 _ e3
    injection e1 with e1
    injection e1 with e1 _ _
    subst e1 e3
    have hlt : g < w.heap.size := (Array.getElem?_eq_some_iff.1 hg).1
    refine ⟨by rw [flatG_len hk]; simp [hs], .inr ⟨g, cap, Go.Sort.putCells id 0 (Go.Sort.flatK enc k d') cur, rfl, hb, ?_, hn, hc, by simp [Go.Sort.putCells, hz], ?_⟩⟩
    · unfold Go.Proofs.sortWorldK Go.Sort.putRowK
      rw [Go.Sort.heap_grow_old _ _ (by simpa using hlt)]
      simp [Go.Sort.putRow, Go.Sort.mapBlock, Go.Sort.ahead, Array.getElem?_modify, hg, Go.Sort.onCells]
    · rw [← flatG_bridge hk hk0]
      apply List.ext_getElem?
      intro j
      by_cases hj : j < d.size * k
      · have hj2 : j < (Go.Sort.flatK enc k d').size := by simp [hs]; omega
        have hj3 : j < cur.size := by rw [hz]; exact Nat.lt_of_lt_of_le hj (Nat.mul_le_mul_right k hn)
        rw [List.getElem?_take_of_lt hj, Array.getElem?_toList, Array.getElem?_toList]
        have hj4 : j < d'.size * k := by rw [hs]; exact hj
        simp [Go.Sort.putCells, hj3, hj4]
      · rw [List.getElem?_take_eq_none (by omega), List.getElem?_eq_none (by simp [hs]; omega)]
theorem perm_listG {d d' : Array α} (h : Go.Sort.PermIn 0 d.size d d') : d'.toList.Perm d.toList := by
  obtain ⟨hs, _, hp⟩ := h
  have e1 : (d'.extract 0 d.size).toList = d'.toList := by rw [← hs]; simp
  have e2 : (d.extract 0 d.size).toList = d.toList := by simp
  rw [e1, e2] at hp
  exact hp
theorem sorted_listG {lt : α → α → Bool} {d' : Array α} {n : Nat} (hn : d'.size = n) (h : Go.Sort.SortedIn lt 0 n d') : d'.toList.Pairwise fun a b => lt b a = false := by
  refine List.pairwise_iff_getElem.2 fun i j hi hj hij => ?_
  have h1 := h i j (Nat.zero_le _) hij (by simpa [← hn] using hj)
  have hi' : i < d'.size := by simpa using hi
  have hj' : j < d'.size := by simpa using hj
  rw [getElem!_pos d' i hi', getElem!_pos d' j hj'] at h1
  rw [Array.getElem_toList, Array.getElem_toList]
  exact h1
/-- slices.SortFunc at a row of the call's own. -/
theorem sortG_any (L : SlLaysF0.n6 P ρ) (aE : ∀ w, (isAgg (ρ.t 24)).run P w = .ok true w) (zE : ∀ w, (Go.sizeOf (ρ.t 24)).run P w = .ok k w) (hk : ∀ x, (enc x).length = k) (hk0 : 0 < k) (h1 : ∀ x, ∀ v ∈ enc x, v.oneCell' = true) (cf : α → α → Int) (hO : SWO (ltOf cf)) (g : Nat) (cb : Array Value)
    (xa : Option Addr) (xn xc base : Nat) (T : TypeId) (xs : List α) (w : World) (hrow : w.ownsRow base T k (.slice xa xn xc) xn (xs.flatMap enc)) (hl : xs.length = xn) (hsz : xn < 4611686018427387904)
    (eg : ∀ args w, (callFunc g args).run P w = .ok (.enter g args) w)
    (hcmp : ∀ W, w.grownBy W (Value.slice xa xn xc).ownBlock → ∀ x y : α, Calls P g (#[.agg (enc x).toArray, .agg (enc y).toArray] ++ cb) W fun e w' => e = .returned (.int .i64 (cf x y)) ∧ ∃ q os', w' = grow (W.drewN q) os') :
    Calls P (ρ.f 6) #[.slice xa xn xc, .func (.func g) #[] cb] w fun e w' => e = .returned (.tuple #[]) ∧ ∃ xs' : List α, xs'.Perm xs ∧ (xs'.Pairwise fun a b => ltOf cf b a = false) ∧ w'.ownsRow base T k (.slice xa xn xc) xn (xs'.flatMap enc) ∧ w.grownBy w' (Value.slice xa xn xc).ownBlock := by
  by_cases h0 : xn = 0
  · subst h0
    obtain rfl : xs = [] := List.eq_nil_of_length_eq_zero hl
    refine (AnyF.slices_SortFunc_none { L with } xa xc _ w).mono ?_
    rintro e w' ⟨rfl, rfl⟩
    exact ⟨rfl, [], List.Perm.refl _, List.Pairwise.nil, hrow, ⟨rfl, rfl, rfl, Nat.le_refl _, fun _ _ _ => rfl⟩⟩
  · have hrow' := hrow
    rcases hrow.2 with ⟨_, hn⟩ | ⟨g', cap, cur, e, _, hg, _⟩
    · exact absurd hn h0
    · injection e with e1 e2 e3
      subst e1 e3
      have hlt : g' < w.heap.size := (Array.getElem?_eq_some_iff.1 hg).1
      have hdl : xs.toArray.size = xn := by simpa using hl
      have hrow2 : w.ownsRow base T k (.slice (some ⟨g', 0, none⟩) xs.toArray.size xc) xs.toArray.size (xs.toArray.toList.flatMap enc) := by
        rw [hdl]; exact hrow'
      have hcon := AnyQ.slices_SortFunc L k aE zE enc hk h1 cf hO g cb g' 0 xc xs.toArray w eg (fun m os dk _ x y => hcmp _ (grown_sortG dk) x y) (holdsG hk hk0 hrow2) hlt (by rw [hdl]; exact hsz)
      rw [hdl] at hcon
      refine hcon.mono ?_
      rintro e w' ⟨rfl, d', m, os, hp, hso, rfl⟩
      have hps : d'.size = xs.toArray.size := by rw [hdl]; rw [← hdl] at hp; exact hp.1.trans hdl
      refine ⟨rfl, d'.toList, ?_, sorted_listG (by rw [hps, hdl]) hso, ?_, grown_sortG d'⟩
      · have h2 := perm_listG (d := xs.toArray) (d' := d') (by rw [hdl]; exact hp)
        exact h2
      · have h2 := row_sortG (n := m) (os := os) hk hk0 hps hrow2
        rw [hdl] at h2
        exact h2
end
end Go.Proofs.YtepcnfnmphgccaaGreatDoor
