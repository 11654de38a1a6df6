/- Layer 3: contract of the document's Same, and of same. -/
import Derived.Test.YtnkcbmlobikjkaaGreatDoorV3Q
namespace Go.Proofs.YtnkcbmlobikjkaaGreatDoor
open Go.RowKit Suf Val Go.Maps

/-- Whether two sets are written alike. -/
def sameB (a b : VSet) : Bool := (a.miss == b.miss) && (a.no == b.no) && (a.num == b.num) && (a.lo == b.lo) && (a.hi == b.hi) && (a.vals == b.vals)
theorem same_iff (a b : VSet) : sameB a b = true ↔ a = b := by
  obtain ⟨m1, n1, q1, v1, l1, h1⟩ := a
  obtain ⟨m2, n2, q2, v2, l2, h2⟩ := b
  unfold sameB
  simp [and_assoc]
  intro _ _ _
  constructor
  · rintro ⟨h3, h4, h5⟩; exact ⟨h5, h3, h4⟩
  · rintro ⟨h3, h4, h5⟩; exact ⟨h4, h5, h3⟩
theorem same_no {a b : VSet} (h : ¬ a = b) : sameB a b = false := by
  cases hs : sameB a b with
  | false => rfl
  | true => exact absurd ((same_iff a b).1 hs) h
theorem take_eq_next {l m : List Txt} {k : Nat} (h : l.take k = m.take k) (h1 : k < l.length) (h2 : k < m.length) (he : l[k] = m[k]) : l.take (k + 1) = m.take (k + 1) := by
  rw [take_next l k h1, take_next m k h2, h, he]

set_option maxRecDepth 100000 in
set_option maxHeartbeats 4000000 in
theorem rsame_any (am an aq : Bool) (u : Value) (l : List Txt) (alo ahi : Int) (bm bn bq : Bool) (v : Value) (m : List Txt) (blo bhi : Int) (w : World) (hu : Strs w u l) (hv : Strs w v m) :
    Calls Tryz.prog 16 #[.agg #[.bool am, .bool an, .bool aq, u, .int .i64 alo, .int .i64 ahi], .agg #[.bool bm, .bool bn, .bool bq, v, .int .i64 blo, .int .i64 bhi]] w fun e w' => e = .returned (.bool (sameB ⟨am, an, aq, l, alo, ahi⟩ ⟨bm, bn, bq, m, blo, bhi⟩)) ∧ Below w.heap.size w w' := by
  obtain ⟨r, hr⟩ : ∃ r, r = sameB ⟨am, an, aq, l, alo, ahi⟩ ⟨bm, bn, bq, m, blo, bhi⟩ := ⟨_, rfl⟩
  rw [← hr]
  have HR := hide hr
  have HU := hide hu
  have HV := hide hv
  have hl1 := hu.len
  have hl2 := hv.len
  obtain ⟨a1, c1, rfl⟩ := hu.val
  obtain ⟨a2, c2, rfl⟩ := hv.val
  clear hr hu hv
  obtain ⟨n1, hn1⟩ : ∃ n, n = l.length := ⟨_, rfl⟩
  obtain ⟨n2, hn2⟩ : ∃ n, n = m.length := ⟨_, rfl⟩
  rw [← hn1] at HU hl1 ⊢
  rw [← hn2] at HV hl2 ⊢
  have N1 := hide hn1
  have N2 := hide hn2
  clear hn1 hn2
  have hno : Hid (∀ P : Prop, P → (P → ¬ (⟨am, an, aq, l, alo, ahi⟩ : VSet) = ⟨bm, bn, bq, m, blo, bhi⟩) → r = false) := fun P hp h => (unhide HR).trans (same_no (h hp))
  by_cases h0 : am = bm
  rotate_left
  · have hf := hide (unhide hno _ h0 (fun h c => h (by have := congrArg VSet.miss c; simpa using this)))
    have hlit : (am = true ∧ bm = false) ∨ (am = false ∧ bm = true) := by
      cases am <;> cases bm <;> first | exact Or.inl ⟨rfl, rfl⟩ | exact Or.inr ⟨rfl, rfl⟩ | exact absurd rfl h0
    clear hno HR h0
    rcases hlit with ⟨rfl, rfl⟩ | ⟨rfl, rfl⟩
    all_goals
      go_enter Tryz.func16, Tryz.ntmps16
      go_wp2_with fail
      go_ret
      exact ⟨ret_bool (unhide hf).symm, (box_below _).alloc (by simp) _⟩
  subst h0
  by_cases h1 : an = bn
  rotate_left
  · have hf := hide (unhide hno _ h1 (fun h c => h (by have := congrArg VSet.no c; simpa using this)))
    have hlit : (an = true ∧ bn = false) ∨ (an = false ∧ bn = true) := by
      cases an <;> cases bn <;> first | exact Or.inl ⟨rfl, rfl⟩ | exact Or.inr ⟨rfl, rfl⟩ | exact absurd rfl h1
    clear hno HR h1
    rcases hlit with ⟨rfl, rfl⟩ | ⟨rfl, rfl⟩
    all_goals
      go_enter Tryz.func16, Tryz.ntmps16
      go_wp2_with fail
      go_ret
      exact ⟨ret_bool (unhide hf).symm, (box_below _).alloc (by simp) _⟩
  subst h1
  by_cases h2 : aq = bq
  rotate_left
  · have hf := hide (unhide hno _ h2 (fun h c => h (by have := congrArg VSet.num c; simpa using this)))
    have hlit : (aq = true ∧ bq = false) ∨ (aq = false ∧ bq = true) := by
      cases aq <;> cases bq <;> first | exact Or.inl ⟨rfl, rfl⟩ | exact Or.inr ⟨rfl, rfl⟩ | exact absurd rfl h2
    clear hno HR h2
    rcases hlit with ⟨rfl, rfl⟩ | ⟨rfl, rfl⟩
    all_goals
      go_enter Tryz.func16, Tryz.ntmps16
      go_wp2_with fail
      go_ret
      exact ⟨ret_bool (unhide hf).symm, (box_below _).alloc (by simp) _⟩
  subst h2
  by_cases h3 : alo = blo
  rotate_left
  · have hf := hide (unhide hno _ h3 (fun h c => h (by have := congrArg VSet.lo c; simpa using this)))
    have ht : (alo != blo) = true := bne_iff_ne.2 h3
    clear hno HR h3
    go_enter Tryz.func16, Tryz.ntmps16
    go_wp2_with fail
    go_ret
    exact ⟨ret_bool (unhide hf).symm, (box_below _).alloc (by simp) _⟩
  subst h3
  by_cases h4 : ahi = bhi
  rotate_left
  · have hf := hide (unhide hno _ h4 (fun h c => h (by have := congrArg VSet.hi c; simpa using this)))
    have ht : (ahi != bhi) = true := bne_iff_ne.2 h4
    clear hno HR h4
    go_enter Tryz.func16, Tryz.ntmps16
    go_wp2_with fail
    go_ret
    exact ⟨ret_bool (unhide hf).symm, (box_below _).alloc (by simp) _⟩
  subst h4
  by_cases h5 : n1 = n2
  rotate_left
  · have hf := hide (unhide hno _ h5 (fun h c => h (by have := congrArg VSet.vals c; simp only at this; rw [unhide N1, unhide N2, this])))
    have ht : ((n1 : Int) != (n2 : Int)) = true := bne_iff_ne.2 (fun c => h5 (by omega))
    clear hno HR h5
    go_enter Tryz.func16, Tryz.ntmps16
    go_wp2_with fail
    go_ret
    exact ⟨ret_bool (unhide hf).symm, (box_below _).alloc (by simp) _⟩
  subst h5
  have hr2 : Hid (r = (l == m)) := (unhide HR).trans (by unfold sameB; simp)
  clear hno HR
  obtain ⟨W0, hW0⟩ : ∃ W0, W0 = ((w.alloc (.cells #[.bool am, .bool an, .bool aq, .slice a1 n1 c1, .int .i64 alo, .int .i64 ahi] 42)).alloc (.cells #[.bool am, .bool an, .bool aq, .slice a2 n1 c2, .int .i64 alo, .int .i64 ahi] 42)) := ⟨_, rfl⟩
  have hb0 : Hid (Below w.heap.size w W0) := by rw [hW0]; exact ((box_below _).alloc (by simp) _)
  have hA0 : Hid (W0.cell? ⟨w.heap.size, 3, none⟩ = some (.slice a1 n1 c1)) := by rw [hW0]; exact ((six_new w _ _ _ _ _ _ _).below (box_below _)).2.2.2.1
  have hB0 : Hid (W0.cell? ⟨w.heap.size + 1, 3, none⟩ = some (.slice a2 n1 c2)) := by
    have := six_new (w.alloc (.cells #[.bool am, .bool an, .bool aq, .slice a1 n1 c1, .int .i64 alo, .int .i64 ahi] 42)) (.bool am) (.bool an) (.bool aq) (.slice a2 n1 c2) (.int .i64 alo) (.int .i64 ahi) 42
    rw [show (w.alloc (.cells #[.bool am, .bool an, .bool aq, .slice a1 n1 c1, .int .i64 alo, .int .i64 ahi] 42)).heap.size = w.heap.size + 1 by simp] at this
    rw [hW0]; exact this.2.2.2.1
  have GW := hide hW0
  clear hW0
  by_cases hz : n1 = 0
  · subst hz
    have hf : Hid (r = true) := (unhide hr2).trans (by
      have e1 : l = [] := List.eq_nil_of_length_eq_zero (unhide N1).symm
      have e2 : m = [] := List.eq_nil_of_length_eq_zero (unhide N2).symm
      rw [e1, e2]; rfl)
    go_enter Tryz.func16, Tryz.ntmps16
    go_wp2_with fail
    rw [← unhide GW]
    have c0 := unhide hA0
    have c1 := unhide hB0
    go_loop [5] (fun i => i = .int .i64 0) (fun _ => 0)
    case atStart => rfl
    case round =>
      subst hrel
      go_wp2_with fail
      go_ret
      exact ⟨ret_bool (unhide hf).symm, unhide hb0⟩
  · obtain ⟨b1, o1, x1, _, e1, hc1⟩ : ∃ b o c, 0 < l.length ∧ Value.slice a1 n1 c1 = .slice (some ⟨b, o, none⟩) l.length c ∧ ∀ j (hj : j < l.length), w.cell? ⟨b, o + j, none⟩ = some (.string (bytesT l[j])) := by
      rcases (unhide HU).open with ⟨_, _, h, _⟩ | h
      · exact absurd ((unhide N1).trans (by rw [h]; rfl)) hz
      · exact h
    obtain ⟨b2, o2, x2, _, e2, hc2⟩ : ∃ b o c, 0 < m.length ∧ Value.slice a2 n1 c2 = .slice (some ⟨b, o, none⟩) m.length c ∧ ∀ j (hj : j < m.length), w.cell? ⟨b, o + j, none⟩ = some (.string (bytesT m[j])) := by
      rcases (unhide HV).open with ⟨_, _, h, _⟩ | h
      · exact absurd ((unhide N2).trans (by rw [h]; rfl)) hz
      · exact h
    obtain rfl : a1 = some ⟨b1, o1, none⟩ := by injection e1
    obtain rfl : a2 = some ⟨b2, o2, none⟩ := by injection e2
    have HC1 := hide hc1
    have HC2 := hide hc2
    clear e1 e2 hc1 hc2 HU HV
    go_enter Tryz.func16, Tryz.ntmps16
    go_wp2_with fail
    rw [← unhide GW]
    go_loopw [5] (fun i W => ∃ k : Nat, k ≤ n1 ∧ i = .int .i64 k ∧ Hid (Below W0.heap.size W0 W) ∧ Hid (l.take k = m.take k)) (fun i _ => n1 - (intOf i).toNat)
    case atStart => exact ⟨0, Nat.zero_le _, rfl, Below.refl _ _, rfl⟩
    case round =>
      obtain ⟨k, hk, rfl, hbel, hall⟩ := hrel
      have c0 := cell_kept (unhide hbel) (unhide hA0)
      have c1 := cell_kept (unhide hbel) (unhide hB0)
      by_cases hlt : k < n1
      · have hk1 : k < l.length := by rw [← unhide N1]; exact hlt
        have hk2 : k < m.length := by rw [← unhide N2]; exact hlt
        have d1 := cell_kept (unhide hbel) (cell_kept (unhide hb0) (unhide HC1 k hk1))
        have d2 := cell_kept (unhide hbel) (cell_kept (unhide hb0) (unhide HC2 k hk2))
        obtain ⟨t, ht⟩ : ∃ t, t = bytesT l[k] := ⟨_, rfl⟩
        obtain ⟨u, hu⟩ : ∃ u, u = bytesT m[k] := ⟨_, rfl⟩
        rw [← ht] at d1
        rw [← hu] at d2
        by_cases he : l[k] = m[k]
        · have hq : (t.toList == u.toList) = true := by rw [ht, hu, he]; simp
          have hnx := hide (take_eq_next (unhide hall) hk1 hk2 he)
          clear ht hu he hk1 hk2
          go_wp2_with fail
          go_quiet (fail)
          go_wp2_with fail
          go_roundw
          case rel => exact ⟨k + 1, by omega, by go_num, below_drewN (unhide hbel) _, hnx⟩
          case measure => simp [intOf]; omega
        · have hq : (t.toList == u.toList) = false := by
            rw [ht, hu, Lib.toList_data, Lib.toList_data]; exact beq_eq_false_iff_ne.2 he
          have hf : Hid (r = false) := (unhide hr2).trans (beq_eq_false_iff_ne.2 fun c => he (by subst c; rfl))
          clear ht hu he hk1 hk2
          go_wp2_with fail
          go_quiet (fail)
          go_wp2_with fail
          go_ret
          exact ⟨ret_bool (unhide hf).symm, below_drewN (chain (unhide hb0) (unhide hbel)) _⟩
      · obtain rfl : k = n1 := by omega
        have hf : Hid (r = true) := (unhide hr2).trans (by
          have := unhide hall
          rw [List.take_of_length_le (by rw [← unhide N1]; exact Nat.le_refl _), List.take_of_length_le (by rw [← unhide N2]; exact Nat.le_refl _)] at this
          rw [this]; simp)
        go_wp2_with fail
        go_ret
        exact ⟨ret_bool (unhide hf).symm, chain (unhide hb0) (unhide hbel)⟩

end Go.Proofs.YtnkcbmlobikjkaaGreatDoor
