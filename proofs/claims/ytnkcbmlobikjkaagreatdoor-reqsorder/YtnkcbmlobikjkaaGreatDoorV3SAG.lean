/- Layer 3: contract of the program's Same. -/
import Derived.Test.YtnkcbmlobikjkaaGreatDoorV3QG
namespace Go.Proofs.YtnkcbmlobikjkaaGreatDoor
open Go.RowKit Suf Val Go.Maps

theorem bytesT_inj {a b : Txt} (h : bytesT a = bytesT b) : a = b := congrArg (fun x : ByteArray => x.data.toList) h
theorem map_bytes_inj : ∀ {l m : List Txt}, l.map bytesT = m.map bytesT → l = m
  | [], [], _ => rfl
  | [], _ :: _, h => by cases h
  | _ :: _, [], h => by cases h
  | a :: l, b :: m, h => by
    injection h with h1 h2
    rw [bytesT_inj h1, map_bytes_inj h2]
theorem getD_bytes (l : List Txt) (j : Nat) (h : j < l.length) : (l.map bytesT).getD j ByteArray.empty = bytesT l[j] := by
  rw [List.getD_eq_getElem?_getD, List.getElem?_map, List.getElem?_eq_getElem h]; rfl
theorem equal_any (u v : Value) (l m : List Txt) (w : World) (hu : Strs w u l) (hv : Strs w v m) :
    Calls Tryz.prog 42 #[u, v] w fun e w' => e = .returned (.bool (l == m)) ∧ Below w.heap.size w w' := by
  have hl := hu.len
  have hm := hv.len
  by_cases hlen : l.length = m.length
  · rcases hu.open with ⟨a, c, rfl, rfl⟩ | ⟨b, o, c, hpos, rfl, hcell⟩
    · obtain ⟨a2, c2, rfl⟩ := hv.val
      have hm0 : m = [] := List.eq_nil_of_length_eq_zero (by rw [← hlen]; rfl)
      subst hm0
      refine (Tryz.slices_Equal_string_empty a a2 c 0 c2 w (by omega)).mono ?_
      rintro e w' ⟨rfl, rfl⟩
      exact ⟨rfl, Below.refl _ _⟩
    · rcases hv.open with ⟨a2, c2, rfl, _⟩ | ⟨b2, o2, c2, _, rfl, hcell2⟩
      · exact absurd hlen (by simp; intro h; rw [h] at hpos; simp at hpos)
      · refine (Tryz.slices_Equal_string b o l.length c b2 o2 m.length c2 (l.map bytesT) (m.map bytesT) w (by simp) (by simp) (by omega) (by omega) (fun j hj => ?_) (fun j hj => ?_)).mono ?_
        · rw [getD_bytes l j (by simpa using hj)]; exact hcell j (by simpa using hj)
        · rw [getD_bytes m j (by simpa using hj)]; exact hcell2 j (by simpa using hj)
        · rintro e w' ⟨rfl, q, rfl⟩
          refine ⟨ret_bool ?_, below_drew q⟩
          rw [List.take_of_length_le (by simp), List.take_of_length_le (by simp), Bool.eq_iff_iff, decide_eq_true_eq, beq_iff_eq]
          exact ⟨map_bytes_inj, fun h => by rw [h]⟩
  · obtain ⟨a, c, rfl⟩ := hu.val
    obtain ⟨a2, c2, rfl⟩ := hv.val
    refine (Tryz.slices_Equal_string_lens a a2 l.length c m.length c2 w hlen).mono ?_
    rintro e w' ⟨rfl, rfl⟩
    exact ⟨ret_bool (beq_eq_false_iff_ne.2 fun h => hlen (by rw [h])).symm, Below.refl _ _⟩

set_option maxRecDepth 100000 in
set_option maxHeartbeats 4000000 in
theorem psame_any (am an aq : Bool) (u : Value) (l : List Txt) (alo ahi : Int) (bm bn bq : Bool) (v : Value) (m : List Txt) (blo bhi : Int) (w : World) (hu : Strs w u l) (hv : Strs w v m) :
    Calls Tryz.prog 23 #[.agg #[.bool am, .bool an, .bool aq, u, .int .i64 alo, .int .i64 ahi], .agg #[.bool bm, .bool bn, .bool bq, v, .int .i64 blo, .int .i64 bhi]] w fun e w' => e = .returned (.bool (sameB ⟨am, an, aq, l, alo, ahi⟩ ⟨bm, bn, bq, m, blo, bhi⟩)) ∧ Below w.heap.size w w' := by
  obtain ⟨r, hr⟩ : ∃ r, r = sameB ⟨am, an, aq, l, alo, ahi⟩ ⟨bm, bn, bq, m, blo, bhi⟩ := ⟨_, rfl⟩
  rw [← hr]
  have HR := hide hr
  have HU := hide hu
  have HV := hide hv
  obtain ⟨a1, c1, rfl⟩ := hu.val
  obtain ⟨a2, c2, rfl⟩ := hv.val
  clear hr hu hv
  obtain ⟨n1, hn1⟩ : ∃ n, n = l.length := ⟨_, rfl⟩
  obtain ⟨n2, hn2⟩ : ∃ n, n = m.length := ⟨_, rfl⟩
  rw [← hn1] at HU ⊢
  rw [← hn2] at HV ⊢
  clear hn1 hn2
  have hno : Hid (∀ P : Prop, P → (P → ¬ (⟨am, an, aq, l, alo, ahi⟩ : VSet) = ⟨bm, bn, bq, m, blo, bhi⟩) → r = false) := fun P hp h => (unhide HR).trans (same_no (h hp))
  by_cases h0 : am = bm
  rotate_left
  · have hf := hide (unhide hno _ h0 (fun h c => h (by have := congrArg VSet.miss c; simpa using this)))
    have hlit : (am = true ∧ bm = false) ∨ (am = false ∧ bm = true) := by
      cases am <;> cases bm <;> first | exact Or.inl ⟨rfl, rfl⟩ | exact Or.inr ⟨rfl, rfl⟩ | exact absurd rfl h0
    clear hno HR h0
    rcases hlit with ⟨rfl, rfl⟩ | ⟨rfl, rfl⟩
    all_goals
      go_enter Tryz.func23, Tryz.ntmps23
      go_wp2_with fail
      go_ret
      exact ⟨ret_bool (unhide hf).symm, (box_below _).alloc (by simp) _⟩
  subst h0
  by_cases h1 : an = bn
  rotate_left
  · have hf := hide (unhide hno _ h1 (fun h c => h (by have := congrArg VSet.no c; simpa using this)))
    have hlit : (an = true ∧ bn = false) ∨ (an = false ∧ bn = true) := by
      cases an <;> cases bn <;> first | exact Or.inl ⟨rfl, rfl⟩ | exact Or.inr ⟨rfl, rfl⟩ | exact absurd rfl h1
    clear hno HR h1
    rcases hlit with ⟨rfl, rfl⟩ | ⟨rfl, rfl⟩
    all_goals
      go_enter Tryz.func23, Tryz.ntmps23
      go_wp2_with fail
      go_ret
      exact ⟨ret_bool (unhide hf).symm, (box_below _).alloc (by simp) _⟩
  subst h1
  by_cases h2 : aq = bq
  rotate_left
  · have hf := hide (unhide hno _ h2 (fun h c => h (by have := congrArg VSet.num c; simpa using this)))
    have hlit : (aq = true ∧ bq = false) ∨ (aq = false ∧ bq = true) := by
      cases aq <;> cases bq <;> first | exact Or.inl ⟨rfl, rfl⟩ | exact Or.inr ⟨rfl, rfl⟩ | exact absurd rfl h2
    clear hno HR h2
    rcases hlit with ⟨rfl, rfl⟩ | ⟨rfl, rfl⟩
    all_goals
      go_enter Tryz.func23, Tryz.ntmps23
      go_wp2_with fail
      go_ret
      exact ⟨ret_bool (unhide hf).symm, (box_below _).alloc (by simp) _⟩
  subst h2
  by_cases h3 : alo = blo
  rotate_left
  · have hf := hide (unhide hno _ h3 (fun h c => h (by have := congrArg VSet.lo c; simpa using this)))
    have ht : (alo == blo) = false := beq_eq_false_iff_ne.2 h3
    clear hno HR h3
    go_enter Tryz.func23, Tryz.ntmps23
    go_wp2_with fail
    go_ret
    exact ⟨ret_bool (unhide hf).symm, (box_below _).alloc (by simp) _⟩
  subst h3
  by_cases h4 : ahi = bhi
  rotate_left
  · have hf := hide (unhide hno _ h4 (fun h c => h (by have := congrArg VSet.hi c; simpa using this)))
    have ht : (ahi == bhi) = false := beq_eq_false_iff_ne.2 h4
    clear hno HR h4
    go_enter Tryz.func23, Tryz.ntmps23
    go_wp2_with fail
    go_ret
    exact ⟨ret_bool (unhide hf).symm, (box_below _).alloc (by simp) _⟩
  subst h4
  have hr2 : Hid (r = (l == m)) := (unhide HR).trans (by unfold sameB; simp)
  clear hno HR
  go_enter Tryz.func23, Tryz.ntmps23
  go_wp2_with fail
  refine (equal_any _ _ l m _ ((unhide HU).below ((box_below _).alloc (by simp) _)) ((unhide HV).below ((box_below _).alloc (by simp) _))).mono ?_
  rintro e w1 ⟨he, hw1⟩
  rw [← unhide hr2] at he
  subst he
  have HB1 := hide (chain ((box_below _).alloc (by simp) _) hw1)
  clear hw1
  go_wp2_with fail
  go_ret
  exact ⟨rfl, unhide HB1⟩
end Go.Proofs.YtnkcbmlobikjkaaGreatDoor
