/- Layer 3: contracts of the document's Number and Value. -/
import Derived.Test.YtnkcbmlobikjkabDoorV3V
namespace Go.Proofs.YtnkcbmlobikjkabDoor
open Go.RowKit Suf Val

set_option maxRecDepth 100000 in
set_option maxHeartbeats 4000000 in
theorem rnumber_any (s : ByteArray) (w : World) (hs : s.size ≤ maxLen) :
    Calls Tryd.prog 30 #[.string s] w fun e w' => e = .returned (.tuple #[.int .i64 (numR s.data.toList).1, .bool (numR s.data.toList).2]) ∧ Below w.heap.size w w' := by
  obtain ⟨r, hr⟩ : ∃ r, r = numR s.data.toList := ⟨_, rfl⟩
  rw [← hr]
  have HR := hide hr
  clear hr
  unfold maxLen at hs
  by_cases h11 : 11 < s.size
  · have he := hide ((unhide HR).trans (numR_long _ (by rw [← size_list]; exact h11)))
    go_enter Tryd.func30, Tryd.ntmps30
    go_wp2_with fail
    go_ret2
    exact ⟨ret_ib (by rw [unhide he]) (by rw [unhide he]), Below.refl _ _⟩
  have hif := hide ((unhide HR).trans (numR_if _ (by rw [← size_list]; omega)))
  clear HR
  have h11' : ¬ 11 < (s.size : Int) := by omega
  have hs11 : s.size ≤ 11 := by omega
  go_enter Tryd.func30, Tryd.ntmps30
  go_wp2_with fail
  go_loop [4, 5] (fun n i => ∃ (k : Nat) (N : Nat), k ≤ s.size ∧ i = .int .i64 k ∧ n = .int .i64 N ∧ Hid (N = val ((s.data.toList.take k).filter dig))) (fun _ i => s.size - (intOf i).toNat)
  case atStart => exact ⟨0, 0, Nat.zero_le _, rfl, rfl, rfl⟩
  case round =>
    obtain ⟨k, N, hk, rfl, rfl, hN⟩ := hrel
    have hNb := hide1 (show N < 100000000000 by rw [unhide hN]; exact val_small s hs11 k)
    by_cases hlt : k < s.size
    · have hfs := filter_snoc s k hlt
      cases hd : dig s[k] with
      | true =>
        rw [hd, if_pos rfl] at hfs
        obtain ⟨c1, c2, hdv⟩ := dig_int s[k] hd
        have hN2 : Hid (N * 10 + dv s[k] = val ((s.data.toList.take (k + 1)).filter dig)) := by
          show _ = _; rw [hfs, val_snoc, ← unhide hN]
        have w1 : wrap64 ((N : Int) * 10) = (N : Int) * 10 := wrap_small _ (by have := unhide1 hNb; omega) (by have := unhide1 hNb; omega)
        have w2 : wrap64 ((N : Int) * 10 + ((s[k].toNat : Int) - 48)) = (N : Int) * 10 + ((s[k].toNat : Int) - 48) := wrap_small _ (by have := unhide1 hNb; omega) (by have := unhide1 hNb; omega)
        have HDV := hide hdv
        clear hfs hd hdv
        go_wp2_with fail
        go_round
        case rel => exact ⟨k + 1, N * 10 + dv s[k], by omega, by go_num, by first | (rw [w2]; congr 1; have := unhide HDV; omega) | (congr 1; have := unhide HDV; omega), hN2⟩
        case measure => simp [intOf]; omega
      | false =>
        rw [hd, if_neg (by decide), List.append_nil] at hfs
        have hN2 : Hid (N = val ((s.data.toList.take (k + 1)).filter dig)) := by
          show _ = _; rw [hfs]; exact unhide hN
        have ho := dig_out s[k] hd
        clear hfs hd
        rcases ho with c1 | ⟨c1, c2⟩
        all_goals
          go_wp2_with fail
          go_round
          case rel => exact ⟨k + 1, N, by omega, by go_num, rfl, hN2⟩
          case measure => simp [intOf]; omega
    · obtain rfl : k = s.size := by omega
      have hN3 : Hid (N = val (s.data.toList.filter dig)) := by
        have := unhide hN
        rw [List.take_of_length_le (by rw [← size_list]; exact Nat.le_refl _)] at this
        exact this
      clear hN
      have hhead : (0 < s.size ∧ s.data.toList.head? = some 45) ∨ ((s.size = 0 ∨ ∃ h : 0 < s.size, ((s[0].toNat : Int) == 45) = false) ∧ ¬ s.data.toList.head? = some 45) := by
        by_cases hz : 0 < s.size
        · obtain ⟨l, hl⟩ := head_at s hz
          have hh : s.data.toList.head? = some s[0] := by rw [hl]; rfl
          by_cases hc : s[0] = 45
          · exact Or.inl ⟨hz, by rw [hh, hc]⟩
          · refine Or.inr ⟨Or.inr ⟨hz, beq_eq_false_iff_ne.2 fun c => hc ((u8_eq s[0] 45 (by omega)).2 c)⟩, ?_⟩
            rw [hh]; intro c; exact hc (by simpa using c)
        · refine Or.inr ⟨Or.inl (by omega), ?_⟩
          have : s.data.toList = [] := List.eq_nil_of_length_eq_zero (by rw [← size_list]; omega)
          rw [this]; simp
      have hnv : (∃ z : Int, z = -(N : Int) ∧ numV s.data.toList = z ∧ 0 < s.size ∧ ((s.data.toList.head? = some 45))) ∨ (numV s.data.toList = (N : Int) ∧ (s.size = 0 ∨ ∃ h : 0 < s.size, ((s[0].toNat : Int) == 45) = false)) := by
        rcases hhead with ⟨h1, h2⟩ | ⟨h1, h2⟩
        · refine Or.inl ⟨_, rfl, ?_, h1, h2⟩
          unfold numV; rw [if_pos h2, ← unhide hN3]
        · refine Or.inr ⟨?_, h1⟩
          unfold numV; rw [if_neg h2, ← unhide hN3]
      clear hhead hN3
      rcases hnv with ⟨z, hz, hv, hpos, hh⟩ | ⟨hv, ht⟩
      · have h45 : ((s[0].toNat : Int) == 45) = true := by
          obtain ⟨l, hl⟩ := head_at s hpos
          rw [hl] at hh
          have : s[0] = 45 := by simpa using hh
          rw [this]; rfl
        have wn : wrap64 (-(N : Int)) = z := by
          rw [wrap_small _ (by have := unhide1 hNb; omega) (by have := unhide1 hNb; omega), hz]
        have hZb := hide1 (show -1000000000000000000 < z ∧ z < 1000000000000000000 by have := unhide1 hNb; omega)
        have hr2 := hide ((unhide hif).trans (by rw [hv]))
        clear hif hh hz hv hNb
        go_wp2_with fail
        refine (rdecimal_any z _ (unhide1 hZb).1 (unhide1 hZb).2).mono ?_
        obtain ⟨T, hT⟩ : ∃ T, T = bytesT (decZ z) := ⟨_, rfl⟩
        have GT := hide hT
        clear hT
        rintro e w1 ⟨he, hw1⟩
        rw [← unhide GT] at he
        subst he
        have HB := hide hw1
        clear hw1
        obtain ⟨q, hq⟩ : ∃ q, (T.toList == s.toList) = q := ⟨_, rfl⟩
        have HQ := hide hq
        cases q
        · have he : Hid (r = (0, false)) := (unhide hr2).trans (if_neg fun c => by
            have := unhide HQ
            rw [unhide GT, Lib.toList_data, Lib.toList_data] at this
            exact absurd c.1 (beq_eq_false_iff_ne.1 this))
          go_wp2_with fail
          go_ret2
          exact ⟨ret_ib (by rw [unhide he]) (by rw [unhide he]), unhide HB⟩
        · by_cases hlo : z < -2147483648
          · have he : Hid (r = (0, false)) := (unhide hr2).trans (if_neg fun c => by omega)
            go_wp2_with fail
            go_ret2
            exact ⟨ret_ib (by rw [unhide he]) (by rw [unhide he]), unhide HB⟩
          · by_cases hhi : 2147483648 < z
            · have he : Hid (r = (0, false)) := (unhide hr2).trans (if_neg fun c => by omega)
              go_wp2_with fail
              go_ret2
              exact ⟨ret_ib (by rw [unhide he]) (by rw [unhide he]), unhide HB⟩
            · have he : Hid (r = (z, true)) := (unhide hr2).trans (if_pos ⟨by
                have := unhide HQ
                rw [unhide GT, Lib.toList_data, Lib.toList_data] at this
                exact beq_iff_eq.1 this, by omega, by omega⟩)
              go_wp2_with fail
              go_ret2
              exact ⟨ret_ib (by rw [unhide he]) (by rw [unhide he]), unhide HB⟩
      · have hr2 := hide ((unhide hif).trans (by rw [hv]))
        have hZb := hide1 (show -1000000000000000000 < (N : Int) ∧ (N : Int) < 1000000000000000000 by have := unhide1 hNb; omega)
        clear hif hv hNb
        obtain ⟨z, hz⟩ : ∃ z : Int, z = (N : Int) := ⟨_, rfl⟩
        rw [← hz] at hr2 hZb ⊢
        clear hz
        rcases ht with h0 | ⟨h0, h45⟩
        · have h0' : ¬ 0 < (s.size : Int) := by omega
          go_wp2_with fail
          refine (rdecimal_any z _ (unhide1 hZb).1 (unhide1 hZb).2).mono ?_
          obtain ⟨T, hT⟩ : ∃ T, T = bytesT (decZ z) := ⟨_, rfl⟩
          have GT := hide hT
          clear hT
          rintro e w1 ⟨he, hw1⟩
          rw [← unhide GT] at he
          subst he
          have HB := hide hw1
          clear hw1
          obtain ⟨q, hq⟩ : ∃ q, (T.toList == s.toList) = q := ⟨_, rfl⟩
          have HQ := hide hq
          cases q
          · have he : Hid (r = (0, false)) := (unhide hr2).trans (if_neg fun c => by
              have := unhide HQ
              rw [unhide GT, Lib.toList_data, Lib.toList_data] at this
              exact absurd c.1 (beq_eq_false_iff_ne.1 this))
            go_wp2_with fail
            go_ret2
            exact ⟨ret_ib (by rw [unhide he]) (by rw [unhide he]), unhide HB⟩
          · by_cases hlo : z < -2147483648
            · have he : Hid (r = (0, false)) := (unhide hr2).trans (if_neg fun c => by omega)
              go_wp2_with fail
              go_ret2
              exact ⟨ret_ib (by rw [unhide he]) (by rw [unhide he]), unhide HB⟩
            · by_cases hhi : 2147483648 < z
              · have he : Hid (r = (0, false)) := (unhide hr2).trans (if_neg fun c => by omega)
                go_wp2_with fail
                go_ret2
                exact ⟨ret_ib (by rw [unhide he]) (by rw [unhide he]), unhide HB⟩
              · have he : Hid (r = (z, true)) := (unhide hr2).trans (if_pos ⟨by
                  have := unhide HQ
                  rw [unhide GT, Lib.toList_data, Lib.toList_data] at this
                  exact beq_iff_eq.1 this, by omega, by omega⟩)
                go_wp2_with fail
                go_ret2
                exact ⟨ret_ib (by rw [unhide he]) (by rw [unhide he]), unhide HB⟩
        · go_wp2_with fail
          refine (rdecimal_any z _ (unhide1 hZb).1 (unhide1 hZb).2).mono ?_
          obtain ⟨T, hT⟩ : ∃ T, T = bytesT (decZ z) := ⟨_, rfl⟩
          have GT := hide hT
          clear hT
          rintro e w1 ⟨he, hw1⟩
          rw [← unhide GT] at he
          subst he
          have HB := hide hw1
          clear hw1
          obtain ⟨q, hq⟩ : ∃ q, (T.toList == s.toList) = q := ⟨_, rfl⟩
          have HQ := hide hq
          cases q
          · have he : Hid (r = (0, false)) := (unhide hr2).trans (if_neg fun c => by
              have := unhide HQ
              rw [unhide GT, Lib.toList_data, Lib.toList_data] at this
              exact absurd c.1 (beq_eq_false_iff_ne.1 this))
            go_wp2_with fail
            go_ret2
            exact ⟨ret_ib (by rw [unhide he]) (by rw [unhide he]), unhide HB⟩
          · by_cases hlo : z < -2147483648
            · have he : Hid (r = (0, false)) := (unhide hr2).trans (if_neg fun c => by omega)
              go_wp2_with fail
              go_ret2
              exact ⟨ret_ib (by rw [unhide he]) (by rw [unhide he]), unhide HB⟩
            · by_cases hhi : 2147483648 < z
              · have he : Hid (r = (0, false)) := (unhide hr2).trans (if_neg fun c => by omega)
                go_wp2_with fail
                go_ret2
                exact ⟨ret_ib (by rw [unhide he]) (by rw [unhide he]), unhide HB⟩
              · have he : Hid (r = (z, true)) := (unhide hr2).trans (if_pos ⟨by
                  have := unhide HQ
                  rw [unhide GT, Lib.toList_data, Lib.toList_data] at this
                  exact beq_iff_eq.1 this, by omega, by omega⟩)
                go_wp2_with fail
                go_ret2
                exact ⟨ret_ib (by rw [unhide he]) (by rw [unhide he]), unhide HB⟩

set_option maxHeartbeats 1000000 in
theorem rvalue_any (s : ByteArray) (w : World) (hs : s.size ≤ 281474976710656) :
    Calls Tryd.prog 23 #[.string s] w fun e w' => e = .returned (.bool (valueB s.data.toList)) ∧ Below w.heap.size w w' := by
  obtain ⟨r, hr⟩ : ∃ r, r = valueB s.data.toList := ⟨_, rfl⟩
  rw [← hr]
  have HR := hide hr
  have HS := hide1 (Nat.le_trans hs (by decide) : s.size ≤ maxLen)
  clear hr hs
  obtain ⟨b, hb⟩ : ∃ b, b = nameB s.data.toList := ⟨_, rfl⟩
  obtain ⟨p, hp⟩ : ∃ p, p = numR s.data.toList := ⟨_, rfl⟩
  have hf : Hid (r = (b || p.2)) := (unhide HR).trans (by
    rw [hb, hp]; unfold valueB numR; cases numO s.data.toList <;> rfl)
  have hB := hide hb
  have hP := hide hp
  clear hb hp HR
  obtain ⟨z, q⟩ := p
  go_enter Tryd.func23, Tryd.ntmps23
  go_wp2_with fail
  refine (rname_any s _ (unhide1 HS)).mono ?_
  rintro e w1 ⟨he, hw1⟩
  rw [← unhide hB] at he
  subst he
  obtain rfl := hw1.symm
  clear hw1
  go_wp2_with fail
  refine (rnumber_any s _ (unhide1 HS)).mono ?_
  rintro e w2 ⟨he, hw2⟩
  rw [← unhide hP] at he
  subst he
  have HB := hide hw2
  clear hw2
  cases b
  all_goals
    go_wp2_with fail
    go_ret
    exact ⟨ret_bool (unhide hf).symm, unhide HB⟩

end Go.Proofs.YtnkcbmlobikjkabDoor
