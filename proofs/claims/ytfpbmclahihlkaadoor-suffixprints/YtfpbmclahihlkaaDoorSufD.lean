/- Layer 2: contracts of leading and shifted. -/
import Derived.Test.YtfpbmclahihlkaaDoorSufC
import Derived.Test.YtfpbmclahihlkaaDoorSufM
namespace Go.Proofs.YtfpbmclahihlkaaDoor
open Go.RowKit Suf

theorem tw_stop : ∀ (l : List UInt8) (k : Nat), (l.take k).all dig = true → (∀ h : k < l.length, dig l[k] = false) → lead l = l.take k
  | [], k, _, _ => by simp [lead]
  | c :: l, 0, _, h => by
    have := h (by simp)
    simp only [List.getElem_cons_zero] at this
    simp [lead, this]
  | c :: l, k + 1, ha, h => by
    rw [List.take_succ_cons, List.all_cons, Bool.and_eq_true] at ha
    have ih := tw_stop l k ha.2 (fun hk => by have := h (by simpa using hk); simpa using this)
    unfold lead at ih ⊢
    rw [List.takeWhile_cons, ha.1, List.take_succ_cons, if_pos rfl, ih]
theorem lead_stop (s : ByteArray) (k : Nat) (hk : k ≤ s.size) (ha : (s.data.toList.take k).all dig = true) (h : ∀ h : k < s.size, dig s[k] = false) :
    lead s.data.toList = s.data.toList.take k ∧ (lead s.data.toList).length = k := by
  have e := tw_stop s.data.toList k ha (fun hk => h (by simpa using hk))
  refine ⟨e, ?_⟩
  rw [e, List.length_take]; simp; omega
theorem all_snoc (s : ByteArray) (k : Nat) (h : k < s.size) (ha : (s.data.toList.take k).all dig = true) (hd : dig s[k] = true) : (s.data.toList.take (k + 1)).all dig = true := by
  rw [take_snoc8 s k h, List.all_append, ha]; simp [hd]
theorem extract_take (s : ByteArray) (k : Nat) : (s.extract 0 k).data.toList = s.data.toList.take k := by
  rw [ByteArray.data_extract, Array.toList_extract]; simp
theorem digs_take (s : ByteArray) (k : Nat) (h : k ≤ s.size) (ha : (s.data.toList.take k).all dig = true) :
    digs (s.data.toList.take k) = decide (1 ≤ k ∧ k ≤ 18 ∧ (k = 1 ∨ ¬ (s.data.toList.take k).head? = some 48)) := by
  unfold digs
  rw [ha, Bool.and_true, List.length_take]
  have : min k s.data.toList.length = k := by simp; omega
  rw [this]
theorem head_take (s : ByteArray) (k : Nat) (h : 0 < k) (hs : 0 < s.size) : (s.data.toList.take k).head? = some s[0] := by
  obtain ⟨j, rfl⟩ : ∃ j, k = j + 1 := ⟨k - 1, by omega⟩
  have e : s.data.toList[0]? = some s[0] := by rw [List.getElem?_eq_getElem (by simpa using hs)]; rfl
  rw [List.head?_take, if_neg (by omega), List.head?_eq_getElem?, e]
theorem u8_eq (c : UInt8) (n : Nat) (hn : n < 256) : c = UInt8.ofNat n ↔ (c.toNat : Int) = n := by
  constructor
  · rintro rfl; rw [UInt8.toNat_ofNat']; omega
  · intro h; apply UInt8.toNat_inj.1; rw [UInt8.toNat_ofNat']; omega

set_option maxHeartbeats 1000000 in
theorem leading_any (s : ByteArray) (w : World) (hs : s.size ≤ maxLen) :
    Calls Tryd.prog 22 #[.string s] w fun e w' => (digs (lead s.data.toList) = true ∧ e = .returned (.tuple #[.int .i64 (val (lead s.data.toList) : Nat), .string (s.extract (lead s.data.toList).length s.size), .bool true])
      ∨ digs (lead s.data.toList) = false ∧ e = .returned (.tuple #[.int .i64 0, .string ⟨#[]⟩, .bool false])) ∧ Below w.heap.size w w' := by
  unfold maxLen at hs
  go_enter Tryd.func22, Tryd.ntmps22
  go_wp2
  go_loop [5] (fun i => ∃ k : Nat, k ≤ s.size ∧ i = .int .i64 k ∧ Hid ((s.data.toList.take k).all dig = true)) (fun i => s.size - (intOf i).toNat)
  case atStart => exact ⟨0, Nat.zero_le _, rfl, rfl⟩
  case round =>
    obtain ⟨k, hk, rfl, hall⟩ := hrel
    have goOn : (∃ h : k < s.size, dig s[k] = true) ∨ ∀ h : k < s.size, dig s[k] = false := by
      by_cases h : k < s.size
      · cases hd : dig s[k]
        · exact Or.inr fun _ => hd
        · exact Or.inl ⟨h, hd⟩
      · exact Or.inr fun h' => absurd h' h
    rcases goOn with ⟨hlt, hd⟩ | hstop
    · have hn := hide (all_snoc s k hlt (unhide hall) hd)
      go_wp2_with (go_at_call 38; refine (isDigit_any _ _).mono ?_; rintro e w' ⟨rfl, rfl⟩)
      go_round
      case rel => exact ⟨k + 1, by omega, by go_num, hn⟩
      case measure => simp [intOf]; omega
    · obtain ⟨he, hl⟩ := lead_stop s k hk (unhide hall) hstop
      have HD := hide (digs_take s k hk (unhide hall))
      have HE := hide he
      have HL := hide hl
      clear he hl
      have hstop2 : k < s.size ∧ Hid (∀ h : k < s.size, dig s[k] = false) ∨ ¬ k < s.size := by
        by_cases h : k < s.size
        · exact Or.inl ⟨h, hstop⟩
        · exact Or.inr h
      have fin_no : digs (s.data.toList.take k) = false → digs (lead s.data.toList) = false := fun h => by rw [unhide HE]; exact h
      have fin_yes : digs (s.data.toList.take k) = true → digs (lead s.data.toList) = true := fun h => by rw [unhide HE]; exact h
      have FN := hide fin_no
      have FY := hide fin_yes
      clear fin_no fin_yes hstop
      by_cases h0 : k = 0
      · subst h0
        have hno := hide (unhide FN (by rw [unhide HD]; rfl))
        rcases hstop2 with ⟨hlt, hd0⟩ | hge
        · have hd := unhide hd0 hlt
          go_wp2_with (go_at_call 38; refine (isDigit_any _ _).mono ?_; rintro e w' ⟨rfl, rfl⟩)
          go_ret3
          exact ⟨Or.inr ⟨unhide hno, rfl⟩, Below.refl _ _⟩
        · go_wp2_with (go_at_call 38; refine (isDigit_any _ _).mono ?_; rintro e w' ⟨rfl, rfl⟩)
          go_ret3
          exact ⟨Or.inr ⟨unhide hno, rfl⟩, Below.refl _ _⟩
      · by_cases h18 : 18 < k
        · have hno := hide (unhide FN (by rw [unhide HD]; exact decide_eq_false (by omega)))
          rcases hstop2 with ⟨hlt, hd0⟩ | hge
          · have hd := unhide hd0 hlt
            go_wp2_with (go_at_call 38; refine (isDigit_any _ _).mono ?_; rintro e w' ⟨rfl, rfl⟩)
            go_ret3
            exact ⟨Or.inr ⟨unhide hno, rfl⟩, Below.refl _ _⟩
          · go_wp2_with (go_at_call 38; refine (isDigit_any _ _).mono ?_; rintro e w' ⟨rfl, rfl⟩)
            go_ret3
            exact ⟨Or.inr ⟨unhide hno, rfl⟩, Below.refl _ _⟩
        · have hz : 0 < s.size := by omega
          have hh := hide (head_take s k (by omega) hz)
          have h48 := u8_eq s[0] 48 (by omega)
          by_cases hc : (s[0].toNat : Int) = 48 ∧ 1 < k
          · have hno := hide (unhide FN (by
              rw [unhide HD, unhide hh]; refine decide_eq_false ?_
              have : s[0] = 48 := h48.2 hc.1
              rw [this]; simp; omega))
            obtain ⟨hc1, hc2⟩ := hc
            clear h48
            rcases hstop2 with ⟨hlt, hd0⟩ | hge
            · have hd := unhide hd0 hlt
              go_wp2_with (go_at_call 38; refine (isDigit_any _ _).mono ?_; rintro e w' ⟨rfl, rfl⟩)
              go_ret3
              exact ⟨Or.inr ⟨unhide hno, rfl⟩, Below.refl _ _⟩
            · go_wp2_with (go_at_call 38; refine (isDigit_any _ _).mono ?_; rintro e w' ⟨rfl, rfl⟩)
              go_ret3
              exact ⟨Or.inr ⟨unhide hno, rfl⟩, Below.refl _ _⟩
          · have hyes := hide (unhide FY (by
              rw [unhide HD, unhide hh]; refine decide_eq_true ⟨by omega, by omega, ?_⟩
              by_cases h1 : k = 1
              · exact Or.inl h1
              · right; intro c
                have c' : s[0] = 48 := by simpa using c
                exact hc ⟨h48.1 c', by omega⟩))
            have hsz : (s.extract 0 k).size ≤ 18 := by rw [ByteArray.size_extract]; omega
            have hda : (s.extract 0 k).data.toList.all dig = true := by rw [extract_take]; exact unhide hall
            have HV : Hid (val (s.extract 0 k).data.toList = val (lead s.data.toList)) := by
              show _ = _; rw [extract_take, unhide HE]
            have HSZ := hide hsz
            have HDA := hide hda
            clear h48 hsz hda
            have hc2 : ¬ (s[0].toNat : Int) = 48 ∨ ¬ 1 < k := by
              by_cases h : (s[0].toNat : Int) = 48
              · right; intro c; exact hc ⟨h, c⟩
              · exact Or.inl h
            clear hc
            have fin : ∀ n, Calls Tryd.prog 39 #[.string (s.extract 0 k)] n fun e w' => e = .returned (.int .i64 (val (s.extract 0 k).data.toList : Nat)) ∧ w' = n := fun n => number_any _ _ (unhide HSZ) (unhide HDA)
            have FIN := hide fin
            clear fin
            have hend : Hid (∀ q, Ending.returned (.tuple #[.int .i64 (val (s.extract 0 k).data.toList : Nat), .string (s.extract k s.size), .bool true]) = q → digs (lead s.data.toList) = true ∧ q = .returned (.tuple #[.int .i64 (val (lead s.data.toList) : Nat), .string (s.extract (lead s.data.toList).length s.size), .bool true])) := by
              rintro q rfl; exact ⟨unhide hyes, by rw [unhide HV, unhide HL]⟩
            have hstop3 : (k < s.size ∧ Hid (∀ h : k < s.size, dig s[k] = false)) ∧ ¬ (s[0].toNat : Int) = 48 ∨ (k < s.size ∧ Hid (∀ h : k < s.size, dig s[k] = false)) ∧ ¬ 1 < k ∨ ¬ k < s.size ∧ ¬ (s[0].toNat : Int) = 48 ∨ ¬ k < s.size ∧ ¬ 1 < k := by
              rcases hstop2 with h | h <;> rcases hc2 with g | g
              · exact Or.inl ⟨h, g⟩
              · exact Or.inr (Or.inl ⟨h, g⟩)
              · exact Or.inr (Or.inr (Or.inl ⟨h, g⟩))
              · exact Or.inr (Or.inr (Or.inr ⟨h, g⟩))
            clear hstop2 hc2 HD HE HL FN FY hyes HV HSZ HDA
            have hk0 : ((k : Int) == 0) = false := beq_eq_false_iff_ne.2 (by omega)
            have hk18 : ¬ 18 < (k : Int) := by omega
            rcases hstop3 with ⟨⟨hlt, hd0⟩, hc2⟩ | ⟨⟨hlt, hd0⟩, hc2⟩ | ⟨hge, hc2⟩ | ⟨hge, hc2⟩
            · have hd := unhide hd0 hlt
              clear hd0
              go_wp2_with (go_at_call 38; refine (isDigit_any _ _).mono ?_; rintro e w' ⟨rfl, rfl⟩)
              go_quiet ((go_at_call 39; exact Calls.quiet_of_same (unhide FIN _)))
              go_wp2
              go_ret3
              exact ⟨Or.inl (unhide hend _ rfl), below_drewN (Below.refl _ _) _⟩
            · have hd := unhide hd0 hlt
              clear hd0 hk0 hk18
              obtain rfl : k = 1 := by omega
              go_wp2_with (go_at_call 38; refine (isDigit_any _ _).mono ?_; rintro e w' ⟨rfl, rfl⟩)
              all_goals
                go_quiet ((go_at_call 39; exact Calls.quiet_of_same (unhide FIN _)))
                go_wp2
                go_ret3
                exact ⟨Or.inl (unhide hend _ rfl), below_drewN (Below.refl _ _) _⟩
            · go_wp2_with (go_at_call 38; refine (isDigit_any _ _).mono ?_; rintro e w' ⟨rfl, rfl⟩)
              go_quiet ((go_at_call 39; exact Calls.quiet_of_same (unhide FIN _)))
              go_wp2
              go_ret3
              exact ⟨Or.inl (unhide hend _ rfl), below_drewN (Below.refl _ _) _⟩
            · clear hk0 hk18
              obtain rfl : k = 1 := by omega
              go_wp2_with (go_at_call 38; refine (isDigit_any _ _).mono ?_; rintro e w' ⟨rfl, rfl⟩)
              all_goals
                go_quiet ((go_at_call 39; exact Calls.quiet_of_same (unhide FIN _)))
                go_wp2
                go_ret3
                exact ⟨Or.inl (unhide hend _ rfl), below_drewN (Below.refl _ _) _⟩

end Go.Proofs.YtfpbmclahihlkaaDoor
