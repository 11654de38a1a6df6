/- Names, for a layer that leans on nothing else of layer 3: contracts of isLetter, inName, Name, and the document's Name (as V3A, V3B, V3V have them). -/
import Derived.Test.YtcpgodkgdceocaaKitA
import Derived.Test.YtcpgodkgdceocaaTxtA
import Derived.Test.YtcpgodkgdceocaaValE
import Derived.WalkSmall
namespace Go.Proofs.Ytcpgodkgdceocaa
open Go.RowKit Suf Val

theorem isLetter_any (c : UInt8) (w : World) : Calls Try.prog 40 #[.int .u8 c.toNat] w fun e w' => e = .returned (.bool (low c)) ∧ w' = w := by
  obtain ⟨r, hr⟩ : ∃ r, r = low c := ⟨_, rfl⟩
  rw [← hr]
  have HR := hide hr
  clear hr
  by_cases h0 : 97 ≤ (c.toNat : Int)
  all_goals
    go_enter Try.func40, Try.ntmps40
    go_wp2_with fail
    go_ret
    refine ⟨ret_bool ?_, rfl⟩
    rw [unhide HR, Bool.eq_iff_iff]; simp [low]; omega
theorem u8_eq (c : UInt8) (k : Nat) (hk : k < 256) : c = UInt8.ofNat k ↔ (c.toNat : Int) = k := by
  constructor
  · rintro rfl; rw [UInt8.toNat_ofNat']; omega
  · intro h
    apply UInt8.toNat_inj.1
    rw [UInt8.toNat_ofNat']; omega
theorem nameC_of (c : UInt8) : nameC c = (low c || decide (48 ≤ (c.toNat : Int) ∧ (c.toNat : Int) ≤ 57) || ((c.toNat : Int) == 46) || ((c.toNat : Int) == 45)) := by
  have e1 : (c == 46) = ((c.toNat : Int) == 46) := by rw [Bool.eq_iff_iff, beq_iff_eq, beq_iff_eq]; exact u8_eq c 46 (by omega)
  have e2 : (c == 45) = ((c.toNat : Int) == 45) := by rw [Bool.eq_iff_iff, beq_iff_eq, beq_iff_eq]; exact u8_eq c 45 (by omega)
  have e3 : dig c = decide (48 ≤ (c.toNat : Int) ∧ (c.toNat : Int) ≤ 57) := by unfold dig; rw [decide_eq_decide]; omega
  unfold nameC; rw [e1, e2, e3]
theorem inName_any (c : UInt8) (w : World) : Calls Try.prog 41 #[.int .u8 c.toNat] w fun e w' => e = .returned (.bool (nameC c)) ∧ w' = w := by
  have hn := hide (nameC_of c)
  obtain ⟨r, hr⟩ : ∃ r, r = nameC c := ⟨_, rfl⟩
  rw [← hr]
  have HR := hide hr
  clear hr
  obtain ⟨b, hb⟩ : ∃ b, b = low c := ⟨_, rfl⟩
  have hB := hide hb
  clear hb
  have c1 : ∀ W, Calls Try.prog 40 #[.int .u8 c.toNat] W fun e w' => e = .returned (.bool b) ∧ w' = W := fun W => (unhide hB) ▸ isLetter_any c W
  cases b
  · have HF : Hid (nameC c = (false || decide (48 ≤ (c.toNat : Int) ∧ (c.toNat : Int) ≤ 57) || ((c.toNat : Int) == 46) || ((c.toNat : Int) == 45))) := (unhide hn).trans (by rw [(unhide hB).symm])
    clear hn hB
    by_cases h0 : 48 ≤ (c.toNat : Int)
    · by_cases h1 : (c.toNat : Int) ≤ 57
      all_goals
        go_enter Try.func41, Try.ntmps41
        go_wp2_with (go_at_call 40; refine (c1 _).mono ?_; rintro e w' ⟨rfl, rfl⟩)
        all_goals
          go_ret
          refine ⟨ret_bool ?_, rfl⟩
          rw [unhide HR, unhide HF, Bool.eq_iff_iff]; simp; omega
    · go_enter Try.func41, Try.ntmps41
      go_wp2_with (go_at_call 40; refine (c1 _).mono ?_; rintro e w' ⟨rfl, rfl⟩)
      all_goals
        go_ret
        refine ⟨ret_bool ?_, rfl⟩
        rw [unhide HR, unhide HF, Bool.eq_iff_iff]; simp; omega
  · go_enter Try.func41, Try.ntmps41
    go_wp2_with (go_at_call 40; refine (c1 _).mono ?_; rintro e w' ⟨rfl, rfl⟩)
    go_ret
    refine ⟨ret_bool ?_, rfl⟩
    rw [unhide HR, unhide hn, (unhide hB).symm]; rfl
theorem at_list (s : ByteArray) (k : Nat) (h : k < s.size) : s.data.toList[k]? = some s[k] := by
  rw [List.getElem?_eq_getElem (by simpa using h)]; rfl
theorem all_snoc (p : UInt8 → Bool) (s : ByteArray) (k : Nat) (h : k < s.size) : (s.data.toList.take (k + 1)).all p = ((s.data.toList.take k).all p && p s[k]) := by
  rw [List.take_add_one, at_list s k h, List.all_append]; simp
theorem all_not (p : UInt8 → Bool) (s : ByteArray) (k : Nat) (h : k < s.size) (hp : p s[k] = false) : s.data.toList.all p = false := by
  cases hc : s.data.toList.all p with
  | false => rfl
  | true =>
    have := List.all_eq_true.1 hc s[k] (List.mem_of_getElem? (at_list s k h))
    rw [hp] at this; cases this
theorem head_at (s : ByteArray) (hs : 0 < s.size) : ∃ l, s.data.toList = s[0] :: l := by
  have e := at_list s 0 hs
  cases hl : s.data.toList with
  | nil => rw [hl] at e; cases e
  | cons c l => rw [hl] at e; injection e with e; exact ⟨l, by rw [e]⟩
theorem name_of (s : ByteArray) (hs : 0 < s.size) (h16 : s.size ≤ 16) : nameB s.data.toList = (low s[0] && s.data.toList.all nameC) := by
  obtain ⟨l, hl⟩ := head_at s hs
  unfold nameB
  rw [decide_eq_true (by rw [← size_list]; omega), Bool.true_and, hl]
theorem name_short (s : ByteArray) (h : ¬ 0 < s.size ∨ 16 < s.size) : nameB s.data.toList = false := by
  unfold nameB; rw [decide_eq_false (by rw [← size_list]; omega)]; rfl

set_option maxHeartbeats 1000000 in
theorem name_any (s : ByteArray) (w : World) (hs : s.size ≤ maxLen) :
    Calls Try.prog 34 #[.string s] w fun e w' => e = .returned (.bool (nameB s.data.toList)) ∧ w' = w := by
  obtain ⟨r, hr⟩ : ∃ r, r = nameB s.data.toList := ⟨_, rfl⟩
  rw [← hr]
  have HR := hide hr
  clear hr
  unfold maxLen at hs
  by_cases h1 : s.size < 1
  · have hf : Hid (r = false) := (unhide HR).trans (name_short s (by omega))
    go_enter Try.func34, Try.ntmps34
    go_wp2_with fail
    go_ret
    exact ⟨ret_bool (unhide hf).symm, rfl⟩
  · by_cases h16 : 16 < s.size
    · have hf : Hid (r = false) := (unhide HR).trans (name_short s (by omega))
      go_enter Try.func34, Try.ntmps34
      go_wp2_with fail
      go_ret
      exact ⟨ret_bool (unhide hf).symm, rfl⟩
    · have hz : 0 < s.size := by omega
      have hn := hide ((unhide HR).trans (name_of s hz (by omega)))
      clear HR
      obtain ⟨b, hb⟩ : ∃ b, b = low s[0] := ⟨_, rfl⟩
      have hB := hide hb
      clear hb
      have c1 : ∀ W, Calls Try.prog 40 #[.int .u8 s[0].toNat] W fun e w' => e = .returned (.bool b) ∧ w' = W := fun W => (unhide hB) ▸ isLetter_any s[0] W
      have h1' : ¬ (s.size : Int) < 1 := by omega
      have h16' : ¬ 16 < (s.size : Int) := by omega
      cases b
      · have hf : Hid (r = false) := (unhide hn).trans (by rw [(unhide hB).symm]; rfl)
        go_enter Try.func34, Try.ntmps34
        go_wp2_with (go_at_call 40; refine (c1 _).mono ?_; rintro e w' ⟨rfl, rfl⟩)
        go_ret
        exact ⟨ret_bool (unhide hf).symm, rfl⟩
      · have hf : Hid (r = s.data.toList.all nameC) := (unhide hn).trans (by rw [(unhide hB).symm]; rfl)
        clear hn
        have hs16 : s.size ≤ 16 := by omega
        go_enter Try.func34, Try.ntmps34
        go_wp2_with (go_at_call 40; refine (c1 _).mono ?_; rintro e w' ⟨rfl, rfl⟩)
        go_loop [20] (fun i => ∃ k : Nat, k ≤ s.size ∧ i = .int .i64 k ∧ Hid ((s.data.toList.take k).all nameC = true)) (fun i => s.size - (intOf i).toNat)
        case atStart => exact ⟨0, Nat.zero_le _, rfl, rfl⟩
        case round =>
          obtain ⟨k, hk, rfl, hall⟩ := hrel
          by_cases hlt : k < s.size
          · obtain ⟨q, hq⟩ : ∃ q, q = nameC s[k] := ⟨_, rfl⟩
            have hQ := hide hq
            clear hq
            have c2 : ∀ W, Calls Try.prog 41 #[.int .u8 s[k].toNat] W fun e w' => e = .returned (.bool q) ∧ w' = W := fun W => (unhide hQ) ▸ inName_any s[k] W
            cases q
            · have hn2 : Hid (r = false) := (unhide hf).trans (all_not nameC s k hlt (unhide hQ).symm)
              go_wp2_with (go_at_call 41; refine (c2 _).mono ?_; rintro e w' ⟨rfl, rfl⟩)
              go_ret
              exact ⟨ret_bool (unhide hn2).symm, rfl⟩
            · have ha2 : Hid ((s.data.toList.take (k + 1)).all nameC = true) := by
                show _ = _
                rw [all_snoc nameC s k hlt, unhide hall, (unhide hQ).symm]; rfl
              go_wp2_with (go_at_call 41; refine (c2 _).mono ?_; rintro e w' ⟨rfl, rfl⟩)
              go_round
              case rel => exact ⟨k + 1, by omega, by go_num, ha2⟩
              case measure => simp [intOf]; omega
          · obtain rfl : k = s.size := by omega
            have hn2 : Hid (r = true) := (unhide hf).trans (by rw [← unhide hall, List.take_of_length_le (by rw [← size_list]; exact Nat.le_refl _)])
            go_wp2_with fail
            go_ret
            exact ⟨ret_bool (unhide hn2).symm, rfl⟩

theorem nameC_int (c : UInt8) : nameC c = ((decide (97 ≤ (c.toNat : Int) ∧ (c.toNat : Int) ≤ 122)) || decide (48 ≤ (c.toNat : Int) ∧ (c.toNat : Int) ≤ 57) || ((c.toNat : Int) == 46) || ((c.toNat : Int) == 45)) := by
  rw [nameC_of]
  congr 3
  unfold low; rw [decide_eq_decide]; omega
theorem kinds_of (c : UInt8) : (nameC c = true ∧ ((97 ≤ (c.toNat : Int) ∧ (c.toNat : Int) ≤ 122) ∨ ((c.toNat : Int) < 97 ∧ 48 ≤ (c.toNat : Int) ∧ (c.toNat : Int) ≤ 57) ∨ ((c.toNat : Int) < 97 ∧ (c.toNat : Int) < 48 ∧ ((c.toNat : Int) != 46) = false) ∨ ((c.toNat : Int) < 97 ∧ (c.toNat : Int) < 48 ∧ ((c.toNat : Int) != 46) = true ∧ ((c.toNat : Int) != 45) = false)))
    ∨ (nameC c = false ∧ ((c.toNat : Int) != 46) = true ∧ ((c.toNat : Int) != 45) = true ∧ (((c.toNat : Int) < 97 ∧ (c.toNat : Int) < 48) ∨ ((c.toNat : Int) < 97 ∧ 48 ≤ (c.toNat : Int) ∧ 57 < (c.toNat : Int)) ∨ (97 ≤ (c.toNat : Int) ∧ 122 < (c.toNat : Int) ∧ 48 ≤ (c.toNat : Int) ∧ 57 < (c.toNat : Int)))) := by
  have hc := nameC_int c
  cases hn : nameC c with
  | true =>
    left
    refine ⟨rfl, ?_⟩
    rw [hn] at hc
    have hc := hc.symm
    simp only [Bool.or_eq_true, decide_eq_true_eq, beq_iff_eq] at hc
    simp only [bne_eq_false_iff_eq, bne_iff_ne]
    omega
  | false =>
    right
    rw [hn] at hc
    have hc := hc.symm
    simp only [Bool.or_eq_false_iff, decide_eq_false_iff_not, beq_eq_false_iff_ne] at hc
    simp only [bne_iff_ne]
    refine ⟨trivial, ?_⟩
    omega

set_option maxHeartbeats 2000000 in
theorem rname_any (s : ByteArray) (w : World) (hs : s.size ≤ maxLen) :
    Calls Try.prog 37 #[.string s] w fun e w' => e = .returned (.bool (nameB s.data.toList)) ∧ w' = w := by
  obtain ⟨r, hr⟩ : ∃ r, r = nameB s.data.toList := ⟨_, rfl⟩
  rw [← hr]
  have HR := hide hr
  clear hr
  unfold maxLen at hs
  by_cases h1 : s.size < 1
  · have hf : Hid (r = false) := (unhide HR).trans (name_short s (by omega))
    go_enter Try.func37, Try.ntmps37
    go_wp2_with fail
    go_ret
    exact ⟨ret_bool (unhide hf).symm, rfl⟩
  · by_cases h16 : 16 < s.size
    · have hf : Hid (r = false) := (unhide HR).trans (name_short s (by omega))
      go_enter Try.func37, Try.ntmps37
      go_wp2_with fail
      go_ret
      exact ⟨ret_bool (unhide hf).symm, rfl⟩
    · have hz : 0 < s.size := by omega
      have hn := hide ((unhide HR).trans (name_of s hz (by omega)))
      clear HR
      have h1' : ¬ (s.size : Int) < 1 := by omega
      have h16' : ¬ 16 < (s.size : Int) := by omega
      by_cases hl0 : (s[0].toNat : Int) < 97
      · have hf : Hid (r = false) := (unhide hn).trans (by rw [show low s[0] = false by unfold low; rw [decide_eq_false_iff_not]; omega]; rfl)
        go_enter Try.func37, Try.ntmps37
        go_wp2_with fail
        go_ret
        exact ⟨ret_bool (unhide hf).symm, rfl⟩
      by_cases hl1 : 122 < (s[0].toNat : Int)
      · have hf : Hid (r = false) := (unhide hn).trans (by rw [show low s[0] = false by unfold low; rw [decide_eq_false_iff_not]; omega]; rfl)
        go_enter Try.func37, Try.ntmps37
        go_wp2_with fail
        go_ret
        exact ⟨ret_bool (unhide hf).symm, rfl⟩
      have hf : Hid (r = s.data.toList.all nameC) := (unhide hn).trans (by rw [show low s[0] = true by unfold low; rw [decide_eq_true_eq]; omega]; rfl)
      clear hn
      have hs16 : s.size ≤ 16 := by omega
      go_enter Try.func37, Try.ntmps37
      go_wp2_with fail
      go_loop [3] (fun i => ∃ k : Nat, k ≤ s.size ∧ i = .int .i64 k ∧ Hid ((s.data.toList.take k).all nameC = true)) (fun i => s.size - (intOf i).toNat)
      case atStart => exact ⟨0, Nat.zero_le _, rfl, rfl⟩
      case round =>
        obtain ⟨k, hk, rfl, hall⟩ := hrel
        by_cases hlt : k < s.size
        · rcases kinds_of s[k] with ⟨hq, hc⟩ | ⟨hq, e1, e2, hc⟩
          · have ha2 : Hid ((s.data.toList.take (k + 1)).all nameC = true) := by
              show _ = _
              rw [all_snoc nameC s k hlt, unhide hall, hq]; rfl
            clear hq
            rcases hc with ⟨c1, c2⟩ | ⟨c1, c2, c3⟩ | ⟨c1, c2, c3⟩ | ⟨c1, c2, c3, c4⟩
            all_goals
              go_wp2_with fail
              go_round
              case rel => exact ⟨k + 1, by omega, by go_num, ha2⟩
              case measure => simp [intOf]; omega
          · have hn2 : Hid (r = false) := (unhide hf).trans (all_not nameC s k hlt hq)
            clear hq
            rcases hc with ⟨c1, c2⟩ | ⟨c1, c2, c3⟩ | ⟨c1, c2, c3, c4⟩
            all_goals
              go_wp2_with fail
              go_ret
              exact ⟨ret_bool (unhide hn2).symm, rfl⟩
        · obtain rfl : k = s.size := by omega
          have hn2 : Hid (r = true) := (unhide hf).trans (by rw [← unhide hall, List.take_of_length_le (by rw [← size_list]; exact Nat.le_refl _)])
          go_wp2_with fail
          go_ret
          exact ⟨ret_bool (unhide hn2).symm, rfl⟩

end Go.Proofs.Ytcpgodkgdceocaa
