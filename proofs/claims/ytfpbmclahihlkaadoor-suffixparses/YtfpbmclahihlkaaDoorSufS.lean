/- Layer 2: contract of the document's ParseMoney. -/
import Derived.Test.YtfpbmclahihlkaaDoorSufR
namespace Go.Proofs.YtfpbmclahihlkaaDoor
open Go.RowKit Suf

/-- What the first i of six digits say, where a text is filled up with noughts. -/
def fill (R : ByteArray) (i : Nat) : Nat := val ((R.data.toList ++ List.replicate (6 - R.size) 48).take i)
def fillOk (R : ByteArray) (i : Nat) : Prop := ((R.data.toList ++ List.replicate (6 - R.size) 48).take i).all dig = true
theorem fill_len (R : ByteArray) (h : R.size ≤ 6) : (R.data.toList ++ List.replicate (6 - R.size) (48 : UInt8)).length = 6 := by
  rw [List.length_append, List.length_replicate, ← size_list]; omega
theorem take_one (l : List UInt8) (k : Nat) (h : k < l.length) : l.take (k + 1) = l.take k ++ [l[k]] := List.take_succ_eq_append_getElem h
theorem fill_in (R : ByteArray) (i : Nat) (h6 : R.size ≤ 6) (h : i < R.size) : fill R (i + 1) = fill R i * 10 + dv R[i] ∧ (fillOk R i → dig R[i] = true → fillOk R (i + 1)) := by
  have hl := fill_len R h6
  have e : (R.data.toList ++ List.replicate (6 - R.size) (48 : UInt8))[i]'(by omega) = R[i] := by
    rw [List.getElem_append_left (by rw [← size_list]; exact h)]; rfl
  unfold fill fillOk
  rw [take_one _ i (by omega), e, val_snoc]
  exact ⟨rfl, fun h1 h2 => by rw [List.all_append, h1]; simp [h2]⟩
theorem fill_out (R : ByteArray) (i : Nat) (h6 : R.size ≤ 6) (h : R.size ≤ i) (hi : i < 6) : fill R (i + 1) = fill R i * 10 ∧ (fillOk R i → fillOk R (i + 1)) := by
  have hl := fill_len R h6
  have e : (R.data.toList ++ List.replicate (6 - R.size) (48 : UInt8))[i]'(by omega) = 48 := by
    rw [List.getElem_append_right (by rw [← size_list]; exact h), List.getElem_replicate]
  unfold fill fillOk
  rw [take_one _ i (by omega), e, val_snoc]
  exact ⟨by show _ + 0 = _; omega, fun h1 => by rw [List.all_append, h1]; rfl⟩
theorem fill_bound (R : ByteArray) (i : Nat) (h6 : R.size ≤ 6) (h : fillOk R i) : fill R i < 1000000 := by
  have := val_bound _ h
  rw [List.length_take, fill_len R h6] at this
  exact Nat.lt_of_lt_of_le this (Nat.le_trans (Nat.pow_le_pow_right (by omega) (Nat.min_le_right i 6)) (by decide))
theorem fill_full (R : ByteArray) (h6 : R.size ≤ 6) : fill R 6 = Suf.part R.data.toList ∧ (fillOk R 6 → R.data.toList.all dig = true) := by
  have hl := fill_len R h6
  unfold fill fillOk
  rw [List.take_of_length_le (by omega)]
  exact ⟨by unfold Suf.part; rw [← size_list], fun h => by rw [List.all_append, Bool.and_eq_true] at h; exact h.1⟩
theorem money_ok (n v : Nat) (h : n * 1000000 + v ≤ 1125899906842624) : times n 1000000 = ((n : Int) * 1000000, 0) ∧ money n v = ((n : Int) * 1000000 + v, 0) := by
  unfold Suf.times money
  have h1 : n * 1000000 ≤ 1125899906842624 := Nat.le_trans (Nat.le_add_right _ _) h
  rw [if_pos h1, if_pos h]; exact ⟨by congr 1, by congr 1⟩
theorem money_more (n v : Nat) (h : ¬ n * 1000000 + v ≤ 1125899906842624) (h1 : n * 1000000 ≤ 1125899906842624) : times n 1000000 = ((n : Int) * 1000000, 0) ∧ money n v = (0, 10) := by
  unfold Suf.times money
  rw [if_pos h1, if_neg h]; exact ⟨by congr 1, rfl⟩

/-- Where the first point of a text is. -/
theorem point_at (s : ByteArray) : (∃ p, ∃ h : p < s.size, s[p] = 46 ∧ (∀ j, ∀ h : j < p, ¬ s[j]'(by omega) = 46)) ∨ (∀ j, ∀ h : j < s.size, ¬ s[j] = 46) := by
  have main : ∀ n, n ≤ s.size → (∃ p, ∃ h : p < s.size, s[p] = 46 ∧ (∀ j, ∀ h : j < p, ¬ s[j]'(by omega) = 46)) ∨ (∀ j, ∀ hn : j < n, ∀ h : j < s.size, ¬ s[j] = 46) := by
    intro n
    induction n with
    | zero => intro _; exact Or.inr fun j hj => by omega
    | succ n ih =>
      intro hn
      rcases ih (by omega) with h | h
      · exact Or.inl h
      · by_cases c : s[n] = 46
        · exact Or.inl ⟨n, by omega, c, fun j hj => h j hj (by omega)⟩
        · exact Or.inr fun j hj hs => by
            by_cases e : j = n
            · subst e; exact c
            · exact h j (by omega) hs
  rcases main s.size (Nat.le_refl _) with h | h
  · exact Or.inl h
  · exact Or.inr fun j hj => h j hj hj
theorem mem_get (s : ByteArray) (c : UInt8) (h : c ∈ s.data.toList) : ∃ j, ∃ hj : j < s.size, s[j] = c := by
  obtain ⟨j, hj, e⟩ := List.getElem_of_mem h
  exact ⟨j, by rw [size_list]; exact hj, e⟩
theorem pMoney_none (s : ByteArray) (h : ∀ j, ∀ h : j < s.size, ¬ s[j] = 46) : pMoney s.data.toList = if digs s.data.toList then money (val s.data.toList) 0 else (0, 20) := by
  have hp : pointed s.data.toList = false := by
    unfold pointed
    cases hc : s.data.toList.contains 46 with
    | false => rfl
    | true =>
      obtain ⟨j, hj, e⟩ := mem_get s 46 (by simpa using hc)
      exact absurd e (h j hj)
  unfold pMoney; rw [hp, if_neg (by decide), form_eq]
theorem split_at (s : ByteArray) (p : Nat) (h : p < s.size) (hp : s[p] = 46) : s.data.toList = (s.extract 0 p).data.toList ++ 46 :: (s.extract (p + 1) s.size).data.toList := by
  have hlen : p < s.data.toList.length := by rw [← size_list]; exact h
  have e1 : (s.extract (p + 1) s.size).data.toList = s.data.toList.drop (p + 1) := by
    rw [ByteArray.data_extract, Array.toList_extract, List.extract_eq_take_drop, List.take_of_length_le]
    rw [List.length_drop, ← size_list]; exact Nat.le_refl _
  have e2 : s.data.toList[p] = 46 := hp
  rw [extract_take, e1, ← e2, List.getElem_cons_drop, List.take_append_drop]
theorem pMoney_point (s : ByteArray) (p : Nat) (h : p < s.size) (hp : s[p] = 46) (hb : ∀ j, ∀ h : j < p, ¬ s[j]'(by omega) = 46) (A R : ByteArray) (hA : A = s.extract 0 p) (hR : R = s.extract (p + 1) s.size) :
    pMoney s.data.toList = if digs A.data.toList && (decide (1 ≤ R.size ∧ R.size ≤ 6) && R.data.toList.all dig) then money (val A.data.toList) (Suf.part R.data.toList) else (0, 20) := by
  have e := split_at s p h hp
  rw [← hA, ← hR] at e
  have hn : ∀ c ∈ A.data.toList, (c != 46) = true := by
    intro c hc
    obtain ⟨j, hj, ej⟩ := mem_get A c hc
    subst hA
    have hj2 : j < p := by rw [ByteArray.size_extract] at hj; omega
    have : s[j] = c := by rw [← ej, ByteArray.getElem_extract]; simp
    rw [← this]; exact bne_iff_ne.2 (hb j hj2)
  have w1 : whole (A.data.toList ++ 46 :: R.data.toList) = A.data.toList := by
    unfold whole; rw [List.takeWhile_append_of_pos hn, List.takeWhile_cons]; simp
  have w2 : behind (A.data.toList ++ 46 :: R.data.toList) = R.data.toList := by
    unfold behind; rw [List.dropWhile_append_of_pos hn, List.dropWhile_cons]; simp
  rw [e]
  unfold pMoney
  rw [pointed_at, w1, w2, if_pos rfl, ← size_list, form_eq]
theorem eq46 (c : UInt8) : (c = 46) = ((c.toNat : Int) = 46) := propext (u8_eq c 46 (by omega))

set_option maxRecDepth 100000 in
set_option maxHeartbeats 4000000 in
theorem rparseMoney_none (s : ByteArray) (w : World) (hs : s.size ≤ maxLen) (hnp : ∀ j, ∀ h : j < s.size, ¬ s[j] = 46) :
    Calls Tryd.prog 15 #[.string s] w fun e w' => e = .returned (.tuple #[.int .i64 (pMoney s.data.toList).1, .int .i64 (pMoney s.data.toList).2]) ∧ w' = w := by
  have hP := pMoney_none s hnp
  obtain ⟨PM, hPM⟩ : ∃ P, P = pMoney s.data.toList := ⟨_, rfl⟩
  rw [← hPM] at hP ⊢
  clear hPM
  have HNP := hide hnp
  obtain ⟨A, hA⟩ : ∃ A, A = s.extract 0 s.size := ⟨_, rfl⟩
  have hAl : A.data.toList = s.data.toList := by rw [hA, extract_take, List.take_of_length_le (by rw [← size_list]; exact Nat.le_refl _)]
  have hAs : Hid (A.size ≤ maxLen) := by rw [hA]; exact extract_le s _ hs
  unfold maxLen at hs
  have PYES : Hid (digs A.data.toList = true → PM = money (val A.data.toList) 0) := fun h => by
    rw [hP, ← hAl, if_pos h]
  have PNA : Hid (digs A.data.toList = false → PM = (0, 20)) := fun h => by rw [hP, ← hAl, if_neg (by rw [h]; decide)]
  have HA := hide hA
  clear hP hnp hA hAl
  go_enter Tryd.func15, Tryd.ntmps15
  go_wp2_with fail
  go_loop [4, 5] (fun q i => ∃ k : Nat, k ≤ s.size ∧ i = .int .i64 k ∧ q = .int .i64 s.size) (fun _ i => s.size - (intOf i).toNat)
  case atStart => exact ⟨0, Nat.zero_le _, rfl, rfl⟩
  case round =>
    obtain ⟨k, hk, rfl, rfl⟩ := hrel
    by_cases hlt : k < s.size
    · have hne : ¬ (s[k].toNat : Int) = 46 := by rw [← eq46]; exact unhide HNP k hlt
      go_wp2_with fail
      go_round
      case rel => exact ⟨k + 1, by omega, by go_num, rfl⟩
      case measure => simp [intOf]; omega
    · go_wp2_with fail
      have HA2 := unhide HA
      first | rw [← HA2] | (rw [ByteArray.extract_zero_size] at HA2; rw [← HA2])
      clear HA2
      refine (digits_any A _ (unhide hAs)).mono ?_
      rintro e w2 ⟨⟨hd, he⟩ | ⟨hd, he⟩, rfl⟩
      · have hb := digs_small _ hd
        have hpy := hide (unhide PYES hd)
        obtain ⟨n, hn⟩ : ∃ n, n = val A.data.toList := ⟨_, rfl⟩
        rw [← hn] at he hb hpy
        clear hn hd PYES PNA
        subst he
        go_wp2_with fail
        go_loop [9, 10] (fun t i => ∃ k : Nat, k ≤ 6 ∧ i = .int .i64 k ∧ t = .int .i64 0) (fun _ i => 6 - (intOf i).toNat)
        case atStart => exact ⟨0, by omega, rfl, rfl⟩
        case round =>
          obtain ⟨k, hk, rfl, rfl⟩ := hrel
          by_cases hk6 : k < 6
          · go_wp2_with fail
            go_round
            case rel => exact ⟨k + 1, by omega, by go_num, rfl⟩
            case measure => simp [intOf]; omega
          · obtain rfl : k = 6 := by omega
            by_cases hm : n * 1000000 ≤ 1125899906842624
            · obtain ⟨m1, m2⟩ := money_ok n 0 (by rw [Nat.add_zero]; exact hm)
              have M1 := hide m1
              have M2 := hide ((unhide hpy).trans m2)
              clear m1 m2 hpy
              go_wp2_with (go_at_call 32; refine (rtimes6_any _ _ hb).mono ?_; rintro e w' ⟨he, rfl⟩; rw [unhide M1] at he; subst he)
              go_ret2
              exact ⟨ret_p (by rw [unhide M2]; simp), rfl⟩
            · obtain ⟨m1, m2⟩ := money_over n 0 (by unfold Suf.times; rw [if_neg hm]; decide)
              have M1 := hide m2
              have M2 := hide ((unhide hpy).trans m1)
              clear m1 m2 hpy
              go_wp2_with (go_at_call 32; refine (rtimes6_any _ _ hb).mono ?_; rintro e w' ⟨he, rfl⟩; rw [unhide M1] at he; subst he)
              go_ret2
              exact ⟨ret_p (unhide M2), rfl⟩
      · have hpn := hide (unhide PNA hd)
        clear hd PYES PNA
        subst he
        go_wp2_with fail
        go_ret2
        exact ⟨ret_p (unhide hpn), rfl⟩

set_option maxRecDepth 100000 in
set_option maxHeartbeats 4000000 in
theorem rparseMoney_point (s : ByteArray) (w : World) (hs : s.size ≤ maxLen) (p : Nat) (hp : p < s.size) (hpp : s[p] = 46) (hb46 : ∀ j, ∀ h : j < p, ¬ s[j]'(by omega) = 46) :
    Calls Tryd.prog 15 #[.string s] w fun e w' => e = .returned (.tuple #[.int .i64 (pMoney s.data.toList).1, .int .i64 (pMoney s.data.toList).2]) ∧ w' = w := by
  obtain ⟨A, hA⟩ : ∃ A, A = s.extract 0 p := ⟨_, rfl⟩
  obtain ⟨R, hR⟩ : ∃ R, R = s.extract (p + 1) s.size := ⟨_, rfl⟩
  have hP := pMoney_point s p hp hpp hb46 A R hA hR
  obtain ⟨PM, hPM⟩ : ∃ P, P = pMoney s.data.toList := ⟨_, rfl⟩
  rw [← hPM] at hP ⊢
  clear hPM
  have HNP := hide hb46
  have hpp2 : (s[p].toNat : Int) = 46 := by rw [← eq46]; exact hpp
  have hAs : Hid (A.size ≤ maxLen) := by rw [hA]; exact extract_le s _ hs
  have HRs : Hid (R.size = s.size - (p + 1)) := by rw [hR, ByteArray.size_extract]; simp [Hid]
  unfold maxLen at hs
  have HA := hide hA
  have HR := hide hR
  have HPP := hide hpp2
  clear hA hR hb46 hpp hpp2
  by_cases hlen : 1 ≤ R.size ∧ R.size ≤ 6
  · have hR6 : R.size ≤ 6 := hlen.2
    have hR1 : 1 ≤ R.size := hlen.1
    have PYES : Hid (digs A.data.toList = true → R.data.toList.all dig = true → PM = money (val A.data.toList) (Suf.part R.data.toList)) := fun h h2 => by
      rw [hP, if_pos (by rw [h, h2, decide_eq_true hlen]; rfl)]
    have PNO : Hid (R.data.toList.all dig = false → PM = (0, 20)) := fun h => by rw [hP, if_neg (by rw [h]; simp)]
    have PNA : Hid (digs A.data.toList = false → PM = (0, 20)) := fun h => by rw [hP, if_neg (by rw [h]; simp)]
    clear hP hlen
    go_enter Tryd.func15, Tryd.ntmps15
    go_wp2_with fail
    go_loop [4, 5] (fun q i => ∃ k : Nat, k ≤ p ∧ i = .int .i64 k ∧ q = .int .i64 s.size) (fun _ i => s.size - (intOf i).toNat)
    case atStart => exact ⟨0, Nat.zero_le _, rfl, rfl⟩
    case round =>
      obtain ⟨k, hk, rfl, rfl⟩ := hrel
      by_cases hlt : k < p
      · have hne : ¬ (s[k].toNat : Int) = 46 := by rw [← eq46]; exact unhide HNP k hlt
        go_wp2_with fail
        go_round
        case rel => exact ⟨k + 1, by omega, by go_num, rfl⟩
        case measure => simp [intOf]; omega
      · obtain rfl : k = p := by omega
        have hpp := unhide HPP
        go_wp2_with fail
        rw [← unhide HA]
        have hRR := (unhide HR).symm
        refine (digits_any A _ (unhide hAs)).mono ?_
        rintro e w2 ⟨⟨hd, he⟩ | ⟨hd, he⟩, rfl⟩
        · have hb := digs_small _ hd
          have PY : Hid (R.data.toList.all dig = true → PM = money (val A.data.toList) (Suf.part R.data.toList)) := fun h => unhide PYES hd h
          have PN : Hid (R.data.toList.all dig = false → PM = (0, 20)) := fun h => unhide PNO h
          obtain ⟨n, hn⟩ : ∃ n, n = val A.data.toList := ⟨_, rfl⟩
          rw [← hn] at he hb PY
          have HBN := hide hb
          clear hb
          clear hn hd PYES PNO PNA
          subst he
          go_wp2_with fail
          clear hRR hpp
          go_loop [9, 10] (fun t i => ∃ k : Nat, k ≤ 6 ∧ i = .int .i64 k ∧ t = .int .i64 (fill R k : Nat) ∧ Hid (fillOk R k)) (fun _ i => 6 - (intOf i).toNat)
          case atStart => exact ⟨0, by omega, rfl, rfl, rfl⟩
          case round =>
            obtain ⟨i, hi, rfl, rfl, hok⟩ := hrel
            clear hk hlt HNP HRs HA HR HPP hAs hp hs
            try (rename w2 = w2 => hww; clear hww)
            by_cases hk6 : i < 6
            · by_cases hin : i < R.size
              · have hfi := hide (fill_in R i hR6 hin)
                cases hdg : dig R[i] with
                | true =>
                  have hok2 := hide ((unhide hfi).2 (unhide hok) hdg)
                  obtain ⟨hd2, h0, h57⟩ := dv_int R[i] hdg
                  have HD := hide hd2
                  have hfx := hide (unhide hfi).1
                  clear hdg hd2 hfi
                  go_wp2_with fail
                  go_round
                  case rel => exact ⟨i + 1, by omega, by go_num, by
                    have e1 := unhide hfx
                    have e2 := unhide HD
                    rw [e1]
                    have e3 := fill_bound R i hR6 (unhide hok)
                    first | (congr 1; unfold wrap64; omega) | (congr 1; omega) | trace_state, hok2⟩
                  case measure => simp [intOf]; omega
                | false =>
                  have hpn : Hid (PM = (0, 20)) := unhide PN (by
                    cases ha : R.data.toList.all dig with
                    | false => rfl
                    | true => have := all_get R i hin ha; rw [hdg] at this; cases this)
                  rcases dig_out R[i] hdg with ho | ⟨ho1, ho2⟩
                  · clear hdg hfi
                    go_wp2_with fail
                    go_ret2
                    exact ⟨ret_p (unhide hpn), rfl⟩
                  · clear hdg hfi
                    go_wp2_with fail
                    go_ret2
                    exact ⟨ret_p (unhide hpn), rfl⟩
              · have hfi := hide (fill_out R i hR6 (by omega) hk6)
                have hok2 := hide ((unhide hfi).2 (unhide hok))
                have hfx := hide (unhide hfi).1
                clear hfi
                go_wp2_with fail
                go_round
                case rel => exact ⟨i + 1, by omega, by go_num, by rw [unhide hfx]; have e3 := fill_bound R i hR6 (unhide hok); first | (congr 1; unfold wrap64; omega) | (congr 1; omega) | trace_state, hok2⟩
                case measure => simp [intOf]; omega
            · obtain rfl : i = 6 := by omega
              have hpy : Hid (PM = money n (fill R 6)) := by
                have hff := fill_full R hR6
                show _ = _; rw [hff.1]; exact unhide PY (hff.2 (unhide hok))
              have hfb := fill_bound R 6 hR6 (unhide hok)
              have hf1 : (0 : Int) ≤ 1125899906842624 - (fill R 6 : Int) := by omega
              clear PY PN hok hR6 hR1
              generalize fill R 6 = v at *
              by_cases hm : n * 1000000 + v ≤ 1125899906842624
              · obtain ⟨m1, m2⟩ := money_ok n v hm
                have M1 := hide m1
                have M2 := hide ((unhide hpy).trans m2)
                have ht : (n : Int) * 1000000 ≤ 1125899906842624 - (v : Int) := by omega
                clear m1 m2 hpy hm hfb
                go_wp2_with (go_at_call 32; refine (rtimes6_any _ _ (unhide HBN)).mono ?_; rintro e w' ⟨he, rfl⟩; rw [unhide M1] at he; subst he)
                go_ret2
                exact ⟨ret_p (unhide M2), rfl⟩
              · by_cases hm1 : n * 1000000 ≤ 1125899906842624
                · obtain ⟨m1, m2⟩ := money_more n v hm hm1
                  have M1 := hide m1
                  have M2 := hide ((unhide hpy).trans m2)
                  have ht : 1125899906842624 - (v : Int) < (n : Int) * 1000000 := by omega
                  clear m1 m2 hpy hm hm1 hfb
                  go_wp2_with (go_at_call 32; refine (rtimes6_any _ _ (unhide HBN)).mono ?_; rintro e w' ⟨he, rfl⟩; rw [unhide M1] at he; subst he)
                  go_ret2
                  exact ⟨ret_p (unhide M2), rfl⟩
                · obtain ⟨m1, m2⟩ := money_over n v (by unfold Suf.times; rw [if_neg hm1]; decide)
                  have M1 := hide m2
                  have M2 := hide ((unhide hpy).trans m1)
                  clear m1 m2 hpy hm hm1 hfb
                  go_wp2_with (go_at_call 32; refine (rtimes6_any _ _ (unhide HBN)).mono ?_; rintro e w' ⟨he, rfl⟩; rw [unhide M1] at he; subst he)
                  go_ret2
                  exact ⟨ret_p (unhide M2), rfl⟩
        · have hpn := hide (unhide PNA hd)
          clear hd PYES PNO PNA
          subst he
          go_wp2_with fail
          go_ret2
          exact ⟨ret_p (unhide hpn), rfl⟩
  · have hPN : Hid (PM = (0, 20)) := by
      show _ = _; rw [hP, if_neg (by rw [decide_eq_false hlen]; simp)]
    have hbad : R.size < 1 ∨ (1 ≤ R.size ∧ 6 < R.size) := by omega
    clear hP hlen
    go_enter Tryd.func15, Tryd.ntmps15
    go_wp2_with fail
    go_loop [4, 5] (fun q i => ∃ k : Nat, k ≤ p ∧ i = .int .i64 k ∧ q = .int .i64 s.size) (fun _ i => s.size - (intOf i).toNat)
    case atStart => exact ⟨0, Nat.zero_le _, rfl, rfl⟩
    case round =>
      obtain ⟨k, hk, rfl, rfl⟩ := hrel
      by_cases hlt : k < p
      · have hne : ¬ (s[k].toNat : Int) = 46 := by rw [← eq46]; exact unhide HNP k hlt
        go_wp2_with fail
        go_round
        case rel => exact ⟨k + 1, by omega, by go_num, rfl⟩
        case measure => simp [intOf]; omega
      · obtain rfl : k = p := by omega
        have hpp := unhide HPP
        go_wp2_with fail
        rw [← unhide HA]
        have hRR := (unhide HR).symm
        refine (digits_any A _ (unhide hAs)).mono ?_
        rintro e w2 ⟨⟨hd, he⟩ | ⟨hd, he⟩, rfl⟩
        · obtain ⟨n, hn⟩ : ∃ n, n = val A.data.toList := ⟨_, rfl⟩
          rw [← hn] at he
          clear hn hd
          subst he
          rcases hbad with hbad | ⟨hbad1, hbad⟩
          · go_wp2_with fail
            go_ret2
            exact ⟨ret_p (unhide hPN), rfl⟩
          · go_wp2_with fail
            go_ret2
            exact ⟨ret_p (unhide hPN), rfl⟩
        · clear hd
          subst he
          rcases hbad with hbad | ⟨hbad1, hbad⟩
          · go_wp2_with fail
            go_ret2
            exact ⟨ret_p (unhide hPN), rfl⟩
          · go_wp2_with fail
            go_ret2
            exact ⟨ret_p (unhide hPN), rfl⟩

theorem rparseMoney_any (s : ByteArray) (w : World) (hs : s.size ≤ maxLen) :
    Calls Tryd.prog 15 #[.string s] w fun e w' => e = .returned (.tuple #[.int .i64 (pMoney s.data.toList).1, .int .i64 (pMoney s.data.toList).2]) ∧ w' = w := by
  rcases point_at s with ⟨p, hp, h1, h2⟩ | h
  · exact rparseMoney_point s w hs p hp h1 h2
  · exact rparseMoney_none s w hs h

end Go.Proofs.YtfpbmclahihlkaaDoor
