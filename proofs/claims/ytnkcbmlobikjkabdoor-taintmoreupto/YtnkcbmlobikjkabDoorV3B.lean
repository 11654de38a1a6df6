/- Layer 3: contracts of Name, Number, Value, between. -/
import Derived.Test.YtnkcbmlobikjkabDoorV3A
import Derived.Lib.AtoiErrMem
namespace Go.Proofs.YtnkcbmlobikjkabDoor
open Go.RowKit Suf Val

theorem at_list (s : ByteArray) (k : Nat) (h : k < s.size) : s.data.toList[k]? = some s[k] := by
  rw [List.getElem?_eq_getElem (by simpa using h)]; rfl
theorem all_snoc (p : UInt8 → Bool) (s : ByteArray) (k : Nat) (h : k < s.size) : (s.data.toList.take (k + 1)).all p = ((s.data.toList.take k).all p && p s[k]) := by
  rw [List.take_add_one, at_list s k h, List.all_append]; simp
theorem all_not (p : UInt8 → Bool) (s : ByteArray) (k : Nat) (h : k < s.size) (hp : p s[k] = false) : s.data.toList.all p = false := by
  cases hc : s.data.toList.all p with
  | false => rfl
  | true =>
    have := List.all_eq_true.1 hc s[k] (List.mem_of_getElem? (at_list s k h))
    rw [hp] at this; cases this
theorem head_at (s : ByteArray) (hs : 0 < s.size) : ∃ l, s.data.toList = s[0] :: l := by
  have e := at_list s 0 hs
  cases hl : s.data.toList with
  | nil => rw [hl] at e; cases e
  | cons c l => rw [hl] at e; injection e with e; exact ⟨l, by rw [e]⟩
theorem name_of (s : ByteArray) (hs : 0 < s.size) (h16 : s.size ≤ 16) : nameB s.data.toList = (low s[0] && s.data.toList.all nameC) := by
  obtain ⟨l, hl⟩ := head_at s hs
  unfold nameB
  rw [decide_eq_true (by rw [← size_list]; omega), Bool.true_and, hl]
theorem name_short (s : ByteArray) (h : ¬ 0 < s.size ∨ 16 < s.size) : nameB s.data.toList = false := by
  unfold nameB; rw [decide_eq_false (by rw [← size_list]; omega)]; rfl

set_option maxHeartbeats 1000000 in
theorem name_any (s : ByteArray) (w : World) (hs : s.size ≤ maxLen) :
    Calls Tryd.prog 17 #[.string s] w fun e w' => e = .returned (.bool (nameB s.data.toList)) ∧ w' = w := by
  obtain ⟨r, hr⟩ : ∃ r, r = nameB s.data.toList := ⟨_, rfl⟩
  rw [← hr]
  have HR := hide hr
  clear hr
  unfold maxLen at hs
  by_cases h1 : s.size < 1
  · have hf : Hid (r = false) := (unhide HR).trans (name_short s (by omega))
    go_enter Tryd.func17, Tryd.ntmps17
    go_wp2_with fail
    go_ret
    exact ⟨ret_bool (unhide hf).symm, rfl⟩
  · by_cases h16 : 16 < s.size
    · have hf : Hid (r = false) := (unhide HR).trans (name_short s (by omega))
      go_enter Tryd.func17, Tryd.ntmps17
      go_wp2_with fail
      go_ret
      exact ⟨ret_bool (unhide hf).symm, rfl⟩
    · have hz : 0 < s.size := by omega
      have hn := hide ((unhide HR).trans (name_of s hz (by omega)))
      clear HR
      obtain ⟨b, hb⟩ : ∃ b, b = low s[0] := ⟨_, rfl⟩
      have hB := hide hb
      clear hb
      have c1 : ∀ W, Calls Tryd.prog 25 #[.int .u8 s[0].toNat] W fun e w' => e = .returned (.bool b) ∧ w' = W := fun W => (unhide hB) ▸ isLetter_any s[0] W
      have h1' : ¬ (s.size : Int) < 1 := by omega
      have h16' : ¬ 16 < (s.size : Int) := by omega
      cases b
      · have hf : Hid (r = false) := (unhide hn).trans (by rw [(unhide hB).symm]; rfl)
        go_enter Tryd.func17, Tryd.ntmps17
        go_wp2_with (go_at_call 25; refine (c1 _).mono ?_; rintro e w' ⟨rfl, rfl⟩)
        go_ret
        exact ⟨ret_bool (unhide hf).symm, rfl⟩
      · have hf : Hid (r = s.data.toList.all nameC) := (unhide hn).trans (by rw [(unhide hB).symm]; rfl)
        clear hn
        have hs16 : s.size ≤ 16 := by omega
        go_enter Tryd.func17, Tryd.ntmps17
        go_wp2_with (go_at_call 25; refine (c1 _).mono ?_; rintro e w' ⟨rfl, rfl⟩)
        go_loop [20] (fun i => ∃ k : Nat, k ≤ s.size ∧ i = .int .i64 k ∧ Hid ((s.data.toList.take k).all nameC = true)) (fun i => s.size - (intOf i).toNat)
        case atStart => exact ⟨0, Nat.zero_le _, rfl, rfl⟩
        case round =>
          obtain ⟨k, hk, rfl, hall⟩ := hrel
          by_cases hlt : k < s.size
          · obtain ⟨q, hq⟩ : ∃ q, q = nameC s[k] := ⟨_, rfl⟩
            have hQ := hide hq
            clear hq
            have c2 : ∀ W, Calls Tryd.prog 26 #[.int .u8 s[k].toNat] W fun e w' => e = .returned (.bool q) ∧ w' = W := fun W => (unhide hQ) ▸ inName_any s[k] W
            cases q
            · have hn2 : Hid (r = false) := (unhide hf).trans (all_not nameC s k hlt (unhide hQ).symm)
              go_wp2_with (go_at_call 26; refine (c2 _).mono ?_; rintro e w' ⟨rfl, rfl⟩)
              go_ret
              exact ⟨ret_bool (unhide hn2).symm, rfl⟩
            · have ha2 : Hid ((s.data.toList.take (k + 1)).all nameC = true) := by
                show _ = _
                rw [all_snoc nameC s k hlt, unhide hall, (unhide hQ).symm]; rfl
              go_wp2_with (go_at_call 26; refine (c2 _).mono ?_; rintro e w' ⟨rfl, rfl⟩)
              go_round
              case rel => exact ⟨k + 1, by omega, by go_num, ha2⟩
              case measure => simp [intOf]; omega
          · obtain rfl : k = s.size := by omega
            have hn2 : Hid (r = true) := (unhide hf).trans (by rw [← unhide hall, List.take_of_length_le (by rw [← size_list]; exact Nat.le_refl _)])
            go_wp2_with fail
            go_ret
            exact ⟨ret_bool (unhide hn2).symm, rfl⟩

/-- A number that is one's digits, and whether. -/
def numR (s : Txt) : Int × Bool := match numO s with | some n => (n, true) | none => (0, false)
theorem numR_some {s : Txt} {n : Int} (h : numO s = some n) : numR s = (n, true) := by unfold numR; rw [h]
theorem numR_none {s : Txt} (h : numO s = none) : numR s = (0, false) := by unfold numR; rw [h]
theorem val_parse : ∀ (l : List UInt8) (acc : Nat), l.all dig = true → valFrom acc l ≤ 9223372036854775808 → Lib.parseUintM (2 ^ 64 - 1) acc l = .ok (valFrom acc l)
  | [], _, _, _ => rfl
  | c :: l, acc, h, hv => by
    rw [List.all_cons, Bool.and_eq_true] at h
    have hd := h.1
    unfold dig at hd; rw [decide_eq_true_eq] at hd
    have hmono : ∀ (l : List UInt8) (a : Nat), a ≤ valFrom a l := by
      intro l
      induction l with
      | nil => exact fun a => Nat.le_refl _
      | cons c l ih => exact fun a => Nat.le_trans (by omega) (ih (a * 10 + dv c))
    have h2 : acc * 10 + dv c ≤ 9223372036854775808 := Nat.le_trans (hmono l _) hv
    have h3 : dv c = c.toNat - 48 := rfl
    unfold Lib.parseUintM
    rw [if_pos hd, if_neg (by omega), if_neg (by rw [← h3]; omega), ← h3]
    exact val_parse l _ h.2 hv
theorem dec_pos (n : Nat) : ∃ c l, dec n = c :: l ∧ dig c = true := by
  have hp := decFuel_pos 19 n
  have ha := decFuel_all 20 n
  cases hd : dec n with
  | nil =>
    have : (decFuel (19 + 1) n) = [] := hd
    rw [this] at hp; simp at hp
  | cons c l => exact ⟨c, l, rfl, List.all_eq_true.1 ha c (by show c ∈ dec n; rw [hd]; simp)⟩
theorem parse_dec (n : Nat) (h : n ≤ 2147483648) : Lib.parseUintB 64 (dec n) = .ok n := by
  obtain ⟨c, l, e, _⟩ := dec_pos n
  unfold Lib.parseUintB
  rw [if_neg (by rw [e]; simp)]
  have hv : val (dec n) = n := dec_val n (Nat.lt_of_le_of_lt h (by decide))
  have := val_parse (dec n) 0 (decFuel_all 20 n) (by show val (dec n) ≤ _; omega)
  rw [this]; show Lib.NumEnd.ok (val (dec n)) = _; rw [hv]
theorem parse_decZ (n : Int) (h0 : -2147483648 ≤ n) (h1 : n ≤ 2147483648) : Lib.parseIntB 64 (decZ n) = .ok n := by
  unfold decZ
  by_cases hn : n < 0
  · rw [if_pos hn]
    have := parse_dec n.natAbs (by omega)
    show (match Lib.parseUintB 64 (if (45 : UInt8).toNat = 43 ∨ (45 : UInt8).toNat = 45 then dec n.natAbs else 45 :: dec n.natAbs) with | .syntax => _ | .range => _ | .ok u => _) = _
    rw [if_pos (by decide), this]
    show (if ¬ (45 : UInt8).toNat = 45 ∧ 2 ^ 63 ≤ n.natAbs then _ else if (45 : UInt8).toNat = 45 ∧ 2 ^ 63 < n.natAbs then _ else Lib.NumEnd.ok (if (45 : UInt8).toNat = 45 then -(n.natAbs : Int) else n.natAbs)) = _
    rw [if_neg (fun c => c.1 (by decide)), if_neg (fun c => by have := c.2; omega), if_pos (by decide)]
    congr 1; omega
  · rw [if_neg hn]
    have := parse_dec n.natAbs (by omega)
    obtain ⟨c, l, e, hd⟩ := dec_pos n.natAbs
    unfold dig at hd; rw [decide_eq_true_eq] at hd
    rw [e] at this ⊢
    show (match Lib.parseUintB 64 (if c.toNat = 43 ∨ c.toNat = 45 then l else c :: l) with | .syntax => _ | .range => _ | .ok u => _) = _
    rw [if_neg (by omega), this]
    show (if ¬ c.toNat = 45 ∧ 2 ^ 63 ≤ n.natAbs then _ else if c.toNat = 45 ∧ 2 ^ 63 < n.natAbs then _ else Lib.NumEnd.ok (if c.toNat = 45 then -(n.natAbs : Int) else n.natAbs)) = _
    rw [if_neg (fun c => by have := c.2; omega), if_neg (fun c => by have := c.2; omega), if_neg (by omega)]
    congr 1; omega
theorem num_parse {s : Txt} {n : Int} (h : numO s = some n) : Lib.parseIntB 64 s = .ok n := by
  obtain ⟨rfl, h0, h1⟩ := (numO_iff s n).1 h
  exact parse_decZ n h0 h1
theorem num_not {s : Txt} {n : Int} (hp : Lib.parseIntB 64 s = .ok n) (h : farB n = true ∨ ¬ decZ n = s) : numO s = none := by
  cases hn : numO s with
  | none => rfl
  | some m =>
    have := num_parse hn
    rw [hp] at this
    injection this with e
    subst e
    obtain ⟨e, h0, h1⟩ := (numO_iff s n).1 hn
    rcases h with h | h
    · unfold farB at h; simp at h; omega
    · exact absurd e h
theorem num_bad {s : Txt} (h : Lib.parseIntB 64 s = .syntax ∨ Lib.parseIntB 64 s = .range) : numO s = none := by
  cases hn : numO s with
  | none => rfl
  | some m =>
    have := num_parse hn
    rcases h with h | h <;> rw [h] at this <;> cases this

set_option maxHeartbeats 1000000 in
theorem number_any (s : ByteArray) (w : World) (hs : s.size ≤ 281474976710656) (hL : Laid w) :
    Calls Tryd.prog 27 #[.string s] w fun e w' => e = .returned (.tuple #[.int .i64 (numR s.data.toList).1, .bool (numR s.data.toList).2]) ∧ Below w.heap.size w w' := by
  obtain ⟨r, hr⟩ : ∃ r, r = numR s.data.toList := ⟨_, rfl⟩
  rw [← hr]
  have HR := hide hr
  have HL := hide hL
  have HS := hide1 hs
  clear hr hL hs
  cases hp : Lib.parseIntB 64 s.data.toList with
  | «syntax» =>
    have he := hide ((unhide HR).trans (numR_none (num_bad (Or.inl hp))))
    obtain ⟨ev, hc, hv⟩ := (unhide HL).1
    have HC := hide hc
    have HP := hide hp
    clear hc hp
    go_enter Tryd.func27, Tryd.ntmps27
    go_wp2_with fail
    refine (Tryd.strconv_ParseInt_10_at64_syntax s (unhide1 HS) (unhide HP) ev _ (unhide HC) hv).mono ?_
    rintro e w1 ⟨N, rfl, _, _, hw1⟩
    have HB := hide hw1
    clear hw1
    go_wp2_with fail
    go_ret2
    exact ⟨ret_ib (by rw [unhide he]) (by rw [unhide he]), unhide HB⟩
  | range =>
    have he := hide ((unhide HR).trans (numR_none (num_bad (Or.inr hp))))
    obtain ⟨ev, hc, hv⟩ := (unhide HL).2.1
    have HC := hide hc
    have HP := hide hp
    clear hc hp
    go_enter Tryd.func27, Tryd.ntmps27
    go_wp2_with fail
    refine (Tryd.strconv_ParseInt_10_at64_range s (unhide1 HS) (unhide HP) ev _ (unhide HC) hv).mono ?_
    rintro e w1 ⟨N, rfl, _, _, hw1⟩
    have HB := hide hw1
    clear hw1
    go_wp2_with fail
    go_ret2
    exact ⟨ret_ib (by rw [unhide he]) (by rw [unhide he]), unhide HB⟩
  | ok v =>
    have HP := hide hp
    have hS2 := hide (show s.size ≤ 9223372036854775806 from Nat.le_trans (unhide1 HS) (by decide))
    obtain ⟨b, hb⟩ : ∃ b, b = farB v := ⟨_, rfl⟩
    have hB := hide hb
    have c1 : ∀ W, Calls Tryd.prog 35 #[.int .i64 v] W fun e w' => e = .returned (.bool b) ∧ w' = W := fun W => hb ▸ tooFar_any v W
    clear hp hb
    cases b
    · have hv0 : -2147483648 ≤ v ∧ v ≤ 2147483648 := by
        have := unhide hB
        unfold farB at this; simp at this; omega
      have H0 := hide1 (show -9223372036854775808 ≤ v by omega)
      have H1 := hide1 (show v ≤ 9223372036854775807 by omega)
      obtain ⟨T, hT⟩ : ∃ T : ByteArray, T = ⟨(decZ v).toArray⟩ := ⟨_, rfl⟩
      have GT := hide hT
      clear hT
      obtain ⟨q, hq⟩ : ∃ q, (T.toList == s.toList) = q := ⟨_, rfl⟩
      have HQ := hide hq
      have h9 := hide1 hv0
      clear hv0
      cases q
      all_goals
        go_enter Tryd.func27, Tryd.ntmps27
        go_wp2_with fail
        refine (Tryd.strconv_ParseInt_10_at64_ok s (unhide hS2) v (unhide HP) _).mono ?_
        rintro e w1 ⟨rfl, hw1⟩
        have HB : Hid (Below w.heap.size w w1) := by
          rcases hw1 with h | ⟨t, h⟩
          · rw [h]; exact Below.refl _ _
          · rw [h]; exact Lib.bytesWorld_below w _ t
        clear hw1
        go_wp2_with (go_at_call 35; refine (c1 _).mono ?_; rintro e w' ⟨rfl, rfl⟩)
        refine (text_any v _ (unhide1 H0) (unhide1 H1) ((unhide HL).below (unhide HB))).mono ?_
        rintro e w2 ⟨he, hw2⟩
        rw [← unhide GT] at he
        subst he
        have HB2 := hide (chain (unhide HB) hw2)
        clear hw2 HB
        go_wp2_with fail
        go_ret2
      · have he := (unhide HR).trans (numR_none (num_not (unhide HP) (Or.inr fun c => by
          have := unhide HQ
          rw [unhide GT, Lib.toList_data, Lib.toList_data] at this
          exact absurd c (beq_eq_false_iff_ne.1 this))))
        exact ⟨ret_ib (by rw [he]) (by rw [he]), unhide HB2⟩
      · have he := (unhide HR).trans (numR_some ((numO_iff s.data.toList v).2 ⟨by
          have := unhide HQ
          rw [unhide GT, Lib.toList_data, Lib.toList_data] at this
          exact beq_iff_eq.1 this, (unhide1 h9).1, (unhide1 h9).2⟩))
        exact ⟨ret_ib (by rw [he]) (by rw [he]), unhide HB2⟩
    · have he := hide ((unhide HR).trans (numR_none (num_not (unhide HP) (Or.inl (unhide hB).symm))))
      go_enter Tryd.func27, Tryd.ntmps27
      go_wp2_with fail
      refine (Tryd.strconv_ParseInt_10_at64_ok s (unhide hS2) v (unhide HP) _).mono ?_
      rintro e w1 ⟨rfl, hw1⟩
      have HB : Hid (Below w.heap.size w w1) := by
        rcases hw1 with h | ⟨t, h⟩
        · rw [h]; exact Below.refl _ _
        · rw [h]; exact Lib.bytesWorld_below w _ t
      clear hw1
      go_wp2_with (go_at_call 35; refine (c1 _).mono ?_; rintro e w' ⟨rfl, rfl⟩)
      go_ret2
      exact ⟨ret_ib (by rw [unhide he]) (by rw [unhide he]), unhide HB⟩

end Go.Proofs.YtnkcbmlobikjkabDoor
