/- Layer 2: contracts of the document's answer: without, Digits, times, power, ends. -/
import Derived.Test.YtfpbmclahihlkaaDoorSufL
namespace Go.Proofs.YtfpbmclahihlkaaDoor
open Go.RowKit Suf

/-- A text that ends with another one is taken apart. -/
theorem ends_iff (s e : ByteArray) : endsW s.data.toList e.data.toList = true ↔ e.size ≤ s.size ∧ (s.extract (s.size - e.size) s.size).data.toList = e.data.toList := by
  unfold endsW
  rw [decide_eq_true_eq, ← size_list, ← size_list, ByteArray.data_extract, Array.toList_extract, List.extract_eq_take_drop, List.take_of_length_le (by rw [List.length_drop, ← size_list]; exact Nat.le_refl _)]
theorem front_take (s e : ByteArray) : (s.extract 0 (s.size - e.size)).data.toList = front s.data.toList e.data.toList := by
  rw [extract_take]; unfold front; rw [← size_list, ← size_list]

set_option maxHeartbeats 1000000 in
theorem without_any (s e : ByteArray) (w : World) (hs : s.size ≤ maxLen) (he : e.size ≤ maxLen) :
    Calls Tryd.prog 30 #[.string s, .string e] w fun r w' => (endsW s.data.toList e.data.toList = true ∧ r = .returned (.tuple #[.string (s.extract 0 (s.size - e.size)), .bool true])
      ∨ endsW s.data.toList e.data.toList = false ∧ r = .returned (.tuple #[.string s, .bool false])) ∧ w' = w := by
  unfold maxLen at hs he
  have hi := ends_iff s e
  by_cases hle : e.size ≤ s.size
  · obtain ⟨k, hkk⟩ : ∃ k, s.size - e.size = k := ⟨_, rfl⟩
    have hsub : ((s.size : Int) - (e.size : Int)) = (k : Int) := by omega
    have hk : k ≤ s.size := by omega
    have hk0 : ¬ (k : Int) < 0 := by omega
    rw [hkk] at hi ⊢
    clear hkk
    obtain ⟨R, hR⟩ : ∃ R, R = s.extract k s.size := ⟨_, rfl⟩
    rw [← hR] at hi
    by_cases hr : R.data.toList = e.data.toList
    · have hy := hide (hi.2 ⟨hle, hr⟩)
      have ht : (R.toList == e.toList) = true := by rw [Lib.toList_data, Lib.toList_data, hr]; simp
      rw [hR] at ht
      clear hi hr hR
      go_enter Tryd.func30, Tryd.ntmps30
      go_wp2_with fail
      go_ret2
      exact ⟨Or.inl ⟨unhide hy, rfl⟩, rfl⟩
    · have hy : Hid (endsW s.data.toList e.data.toList = false) := by
        cases hc : endsW s.data.toList e.data.toList with
        | false => exact rfl
        | true => exact absurd (hi.1 hc).2 hr
      have ht : (R.toList == e.toList) = false := by rw [Lib.toList_data, Lib.toList_data]; exact beq_eq_false_iff_ne.2 hr
      rw [hR] at ht
      clear hi hr hR
      go_enter Tryd.func30, Tryd.ntmps30
      go_wp2_with fail
      go_ret2
      exact ⟨Or.inr ⟨unhide hy, rfl⟩, rfl⟩
  · have hy : Hid (endsW s.data.toList e.data.toList = false) := by
      cases hc : endsW s.data.toList e.data.toList with
      | false => exact rfl
      | true => exact absurd (hi.1 hc).1 hle
    have hlt : (s.size : Int) - (e.size : Int) < 0 := by omega
    clear hi
    go_enter Tryd.func30, Tryd.ntmps30
    go_wp2_with fail
    go_ret2
    exact ⟨Or.inr ⟨unhide hy, rfl⟩, rfl⟩

theorem ret_ib {a b : Int} {x : Bool} (h : a = b) : Ending.returned (.tuple #[.int .i64 a, .bool x]) = .returned (.tuple #[.int .i64 b, .bool x]) := by rw [h]
theorem digs_all_of (l : List UInt8) (h : digs l = true) : l.length ≤ 18 ∧ l.all dig = true := by
  have ha := digs_all l h
  unfold digs at h
  rw [Bool.and_eq_true, decide_eq_true_eq] at h
  exact ⟨h.1.2.1, ha⟩
theorem digs_at (s : ByteArray) : digs s.data.toList = (decide (1 ≤ s.size ∧ s.size ≤ 18 ∧ (s.size = 1 ∨ ¬ s.data.toList.head? = some 48)) && s.data.toList.all dig) := by
  unfold digs; rw [← size_list]
theorem head_at (s : ByteArray) (hs : 0 < s.size) : s.data.toList.head? = some s[0] := by
  have e : s.data.toList[0]? = some s[0] := by rw [List.getElem?_eq_getElem (by simpa using hs)]; rfl
  rw [List.head?_eq_getElem?, e]
theorem dig_out (c : UInt8) (h : dig c = false) : (c.toNat : Int) < 48 ∨ 48 ≤ (c.toNat : Int) ∧ 57 < (c.toNat : Int) := by
  unfold dig at h; rw [decide_eq_false_iff_not] at h; omega

set_option maxHeartbeats 1000000 in
theorem digits_any (s : ByteArray) (w : World) (hs : s.size ≤ maxLen) :
    Calls Tryd.prog 31 #[.string s] w fun e w' => (digs s.data.toList = true ∧ e = .returned (.tuple #[.int .i64 (val s.data.toList : Nat), .bool true])
      ∨ digs s.data.toList = false ∧ e = .returned (.tuple #[.int .i64 0, .bool false])) ∧ w' = w := by
  unfold maxLen at hs
  have hD := digs_at s
  by_cases h1 : s.size < 1
  · have hno : Hid (digs s.data.toList = false) := by show _ = _; rw [hD, decide_eq_false (by omega)]; rfl
    clear hD
    go_enter Tryd.func31, Tryd.ntmps31
    go_wp2_with fail
    go_ret2
    exact ⟨Or.inr ⟨unhide hno, rfl⟩, rfl⟩
  · by_cases h18 : 18 < s.size
    · have hno : Hid (digs s.data.toList = false) := by show _ = _; rw [hD, decide_eq_false (by omega)]; rfl
      clear hD
      go_enter Tryd.func31, Tryd.ntmps31
      go_wp2_with fail
      go_ret2
      exact ⟨Or.inr ⟨unhide hno, rfl⟩, rfl⟩
    · have hz : 0 < s.size := by omega
      have h48 := u8_eq s[0] 48 (by omega)
      by_cases hc : 1 < s.size ∧ (s[0].toNat : Int) = 48
      · have hno : Hid (digs s.data.toList = false) := by
          show _ = _; rw [hD, head_at s hz, decide_eq_false, Bool.false_and]
          have : s[0] = 48 := h48.2 hc.2
          rw [this]; simp; omega
        obtain ⟨hc1, hc2⟩ := hc
        clear hD h48
        go_enter Tryd.func31, Tryd.ntmps31
        go_wp2_with fail
        go_ret2
        exact ⟨Or.inr ⟨unhide hno, rfl⟩, rfl⟩
      · have hyes : Hid (digs s.data.toList = s.data.toList.all dig) := by
          show _ = _; rw [hD, decide_eq_true, Bool.true_and]
          refine ⟨by omega, by omega, ?_⟩
          by_cases e : s.size = 1
          · exact Or.inl e
          · right; rw [head_at s hz]; intro c
            have c' : s[0] = 48 := by simpa using c
            exact hc ⟨by omega, h48.1 c'⟩
        have hc2 : ¬ 1 < (s.size : Int) ∨ 1 < (s.size : Int) ∧ ((s[0].toNat : Int) == 48) = false := by
          by_cases h : 1 < s.size
          · exact Or.inr ⟨by omega, beq_eq_false_iff_ne.2 fun c => hc ⟨h, c⟩⟩
          · exact Or.inl (by omega)
        have h1' : ¬ (s.size : Int) < 1 := by omega
        have h18' : ¬ 18 < (s.size : Int) := by omega
        clear hc hD h48
        have hs18 : s.size ≤ 18 := by omega
        rcases hc2 with hc2 | ⟨hc1, hc2⟩
        all_goals
          go_enter Tryd.func31, Tryd.ntmps31
          go_wp2_with fail
          go_loop [4, 5] (fun n i => ∃ k : Nat, k ≤ s.size ∧ i = .int .i64 k ∧ n = .int .i64 (val (s.data.toList.take k) : Nat) ∧ Hid ((s.data.toList.take k).all dig = true)) (fun _ i => s.size - (intOf i).toNat)
          case atStart => exact ⟨0, Nat.zero_le _, rfl, rfl, rfl⟩
          case round =>
            obtain ⟨k, hk, rfl, rfl, hall⟩ := hrel
            by_cases hlt : k < s.size
            · cases hd : dig s[k] with
              | true =>
                have hn := hide (val_next s k hlt)
                have ha2 := hide (all_snoc s k hlt (unhide hall) hd)
                obtain ⟨hd2, h0, h57⟩ := dv_int s[k] hd
                have hb := val_bound18 (s.data.toList.take k) (unhide hall) (by have := List.length_take_le k s.data.toList; omega)
                have hb2 := val_bound18 (s.data.toList.take (k + 1)) (unhide ha2) (by have := List.length_take_le (k + 1) s.data.toList; omega)
                have hb3 : val (s.data.toList.take k) * 10 + dv s[k] < 1000000000000000000 := by rw [unhide hn] at hb2; exact hb2
                have HD := hide hd2
                have hb4 : (val (s.data.toList.take k) : Int) * 10 + ((s[k].toNat : Int) - 48) < 1000000000000000000 := by omega
                have hb5 : (0 : Int) ≤ (val (s.data.toList.take k) : Int) := by omega
                clear hd hd2 hb3 hb hb2
                generalize val (s.data.toList.take k) = v at *
                go_wp2_with fail
                go_round
                case rel => exact ⟨k + 1, by omega, by go_num, by
                  have e1 := unhide hn
                  have e2 := unhide HD
                  rw [e1]
                  first | (congr 1; omega) | (simp; omega), ha2⟩
                case measure => simp [intOf]; omega
              | false =>
                have hno : Hid (digs s.data.toList = false) := by
                  show _ = _; rw [unhide hyes]
                  cases ha : s.data.toList.all dig with
                  | false => rfl
                  | true => have := all_get s k hlt ha; rw [hd] at this; cases this
                rcases dig_out s[k] hd with ho | ⟨ho1, ho2⟩
                · clear hd
                  go_wp2_with fail
                  go_ret2
                  exact ⟨Or.inr ⟨unhide hno, rfl⟩, rfl⟩
                · clear hd
                  go_wp2_with fail
                  go_ret2
                  exact ⟨Or.inr ⟨unhide hno, rfl⟩, rfl⟩
            · have hf : s.data.toList.take k = s.data.toList := List.take_of_length_le (by rw [← size_list]; omega)
              have hy : Hid (digs s.data.toList = true) := by
                show _ = _; rw [unhide hyes, ← hf]; exact unhide hall
              have HF := hide hf
              clear hf
              go_wp2_with fail
              go_ret2
              exact ⟨Or.inl ⟨unhide hy, ret_ib (by rw [unhide HF])⟩, rfl⟩

set_option maxHeartbeats 400000 in
theorem rtimes1_any (n : Nat) (w : World) (h1 : n < 1000000000000000000) :
    Calls Tryd.prog 32 #[.int .i64 n, .int .i64 1] w fun e w' => e = .returned (.tuple #[.int .i64 (Suf.times n 1).1, .int .i64 (Suf.times n 1).2]) ∧ w' = w := by
  by_cases h : (n : Int) > 1125899906842624
  · have e := hide (show Suf.times n 1 = (0, 10) by unfold Suf.times; rw [if_neg (by omega)])
    generalize Suf.times n 1 = r at e
    go_enter Tryd.func32, Tryd.ntmps32
    go_wp2
    go_ret2
    exact ⟨ret_pair (by rw [unhide e]) (by rw [unhide e]), rfl⟩
  · have e := hide (show Suf.times n 1 = ((n : Int) * 1, 0) by
      unfold Suf.times; rw [if_pos (by omega)]; congr 1)
    generalize Suf.times n 1 = r at e
    go_enter Tryd.func32, Tryd.ntmps32
    go_wp2
    go_ret2
    exact ⟨ret_pair (by rw [unhide e]; exact (Int.mul_one _).symm) (by rw [unhide e]), rfl⟩

set_option maxHeartbeats 400000 in
theorem rtimes3_any (n : Nat) (w : World) (h1 : n < 1000000000000000000) :
    Calls Tryd.prog 32 #[.int .i64 n, .int .i64 1000] w fun e w' => e = .returned (.tuple #[.int .i64 (Suf.times n 1000).1, .int .i64 (Suf.times n 1000).2]) ∧ w' = w := by
  by_cases h : (n : Int) > 1125899906842
  · have e := hide (show Suf.times n 1000 = (0, 10) by unfold Suf.times; rw [if_neg (by omega)])
    generalize Suf.times n 1000 = r at e
    go_enter Tryd.func32, Tryd.ntmps32
    go_wp2
    go_ret2
    exact ⟨ret_pair (by rw [unhide e]) (by rw [unhide e]), rfl⟩
  · have e := hide (show Suf.times n 1000 = ((n : Int) * 1000, 0) by
      unfold Suf.times; rw [if_pos (by omega)]; congr 1)
    generalize Suf.times n 1000 = r at e
    go_enter Tryd.func32, Tryd.ntmps32
    go_wp2
    go_ret2
    exact ⟨ret_pair (by rw [unhide e]) (by rw [unhide e]), rfl⟩

set_option maxHeartbeats 400000 in
theorem rtimes6_any (n : Nat) (w : World) (h1 : n < 1000000000000000000) :
    Calls Tryd.prog 32 #[.int .i64 n, .int .i64 1000000] w fun e w' => e = .returned (.tuple #[.int .i64 (Suf.times n 1000000).1, .int .i64 (Suf.times n 1000000).2]) ∧ w' = w := by
  by_cases h : (n : Int) > 1125899906
  · have e := hide (show Suf.times n 1000000 = (0, 10) by unfold Suf.times; rw [if_neg (by omega)])
    generalize Suf.times n 1000000 = r at e
    go_enter Tryd.func32, Tryd.ntmps32
    go_wp2
    go_ret2
    exact ⟨ret_pair (by rw [unhide e]) (by rw [unhide e]), rfl⟩
  · have e := hide (show Suf.times n 1000000 = ((n : Int) * 1000000, 0) by
      unfold Suf.times; rw [if_pos (by omega)]; congr 1)
    generalize Suf.times n 1000000 = r at e
    go_enter Tryd.func32, Tryd.ntmps32
    go_wp2
    go_ret2
    exact ⟨ret_pair (by rw [unhide e]) (by rw [unhide e]), rfl⟩

set_option maxHeartbeats 400000 in
theorem rtimesk1_any (n : Nat) (w : World) (h1 : n < 1000000000000000000) :
    Calls Tryd.prog 32 #[.int .i64 n, .int .i64 1024] w fun e w' => e = .returned (.tuple #[.int .i64 (Suf.times n 1024).1, .int .i64 (Suf.times n 1024).2]) ∧ w' = w := by
  by_cases h : (n : Int) > 1099511627776
  · have e := hide (show Suf.times n 1024 = (0, 10) by unfold Suf.times; rw [if_neg (by omega)])
    generalize Suf.times n 1024 = r at e
    go_enter Tryd.func32, Tryd.ntmps32
    go_wp2
    go_ret2
    exact ⟨ret_pair (by rw [unhide e]) (by rw [unhide e]), rfl⟩
  · have e := hide (show Suf.times n 1024 = ((n : Int) * 1024, 0) by
      unfold Suf.times; rw [if_pos (by omega)]; congr 1)
    generalize Suf.times n 1024 = r at e
    go_enter Tryd.func32, Tryd.ntmps32
    go_wp2
    go_ret2
    exact ⟨ret_pair (by rw [unhide e]) (by rw [unhide e]), rfl⟩

set_option maxHeartbeats 400000 in
theorem rtimesk2_any (n : Nat) (w : World) (h1 : n < 1000000000000000000) :
    Calls Tryd.prog 32 #[.int .i64 n, .int .i64 1048576] w fun e w' => e = .returned (.tuple #[.int .i64 (Suf.times n 1048576).1, .int .i64 (Suf.times n 1048576).2]) ∧ w' = w := by
  by_cases h : (n : Int) > 1073741824
  · have e := hide (show Suf.times n 1048576 = (0, 10) by unfold Suf.times; rw [if_neg (by omega)])
    generalize Suf.times n 1048576 = r at e
    go_enter Tryd.func32, Tryd.ntmps32
    go_wp2
    go_ret2
    exact ⟨ret_pair (by rw [unhide e]) (by rw [unhide e]), rfl⟩
  · have e := hide (show Suf.times n 1048576 = ((n : Int) * 1048576, 0) by
      unfold Suf.times; rw [if_pos (by omega)]; congr 1)
    generalize Suf.times n 1048576 = r at e
    go_enter Tryd.func32, Tryd.ntmps32
    go_wp2
    go_ret2
    exact ⟨ret_pair (by rw [unhide e]) (by rw [unhide e]), rfl⟩

set_option maxHeartbeats 400000 in
theorem rtimesk3_any (n : Nat) (w : World) (h1 : n < 1000000000000000000) :
    Calls Tryd.prog 32 #[.int .i64 n, .int .i64 1073741824] w fun e w' => e = .returned (.tuple #[.int .i64 (Suf.times n 1073741824).1, .int .i64 (Suf.times n 1073741824).2]) ∧ w' = w := by
  by_cases h : (n : Int) > 1048576
  · have e := hide (show Suf.times n 1073741824 = (0, 10) by unfold Suf.times; rw [if_neg (by omega)])
    generalize Suf.times n 1073741824 = r at e
    go_enter Tryd.func32, Tryd.ntmps32
    go_wp2
    go_ret2
    exact ⟨ret_pair (by rw [unhide e]) (by rw [unhide e]), rfl⟩
  · have e := hide (show Suf.times n 1073741824 = ((n : Int) * 1073741824, 0) by
      unfold Suf.times; rw [if_pos (by omega)]; congr 1)
    generalize Suf.times n 1073741824 = r at e
    go_enter Tryd.func32, Tryd.ntmps32
    go_wp2
    go_ret2
    exact ⟨ret_pair (by rw [unhide e]) (by rw [unhide e]), rfl⟩

set_option maxHeartbeats 400000 in
theorem rtimesk4_any (n : Nat) (w : World) (h1 : n < 1000000000000000000) :
    Calls Tryd.prog 32 #[.int .i64 n, .int .i64 1099511627776] w fun e w' => e = .returned (.tuple #[.int .i64 (Suf.times n 1099511627776).1, .int .i64 (Suf.times n 1099511627776).2]) ∧ w' = w := by
  by_cases h : (n : Int) > 1024
  · have e := hide (show Suf.times n 1099511627776 = (0, 10) by unfold Suf.times; rw [if_neg (by omega)])
    generalize Suf.times n 1099511627776 = r at e
    go_enter Tryd.func32, Tryd.ntmps32
    go_wp2
    go_ret2
    exact ⟨ret_pair (by rw [unhide e]) (by rw [unhide e]), rfl⟩
  · have e := hide (show Suf.times n 1099511627776 = ((n : Int) * 1099511627776, 0) by
      unfold Suf.times; rw [if_pos (by omega)]; congr 1)
    generalize Suf.times n 1099511627776 = r at e
    go_enter Tryd.func32, Tryd.ntmps32
    go_wp2
    go_ret2
    exact ⟨ret_pair (by rw [unhide e]) (by rw [unhide e]), rfl⟩

/-- 2 to the tenth, so often. -/
def pw (k : Nat) : Nat := 1024 ^ k
theorem pw_succ (k : Nat) : pw (k + 1) = pw k * 1024 := Nat.pow_succ 1024 k
theorem pw_bound (j : Nat) (h : j ≤ 3) : pw j ≤ 1073741824 := Nat.le_trans (Nat.pow_le_pow_right (by omega) h) (by decide)
set_option maxHeartbeats 400000 in
theorem power_any (k : Nat) (w : World) (hk : k ≤ 4) :
    Calls Tryd.prog 34 #[.int .i64 k] w fun e w' => e = .returned (.int .i64 (pw k : Nat)) ∧ w' = w := by
  go_enter Tryd.func34, Tryd.ntmps34
  go_wp2
  go_loop [3, 4] (fun n i => ∃ j : Nat, j ≤ k ∧ i = .int .i64 j ∧ n = .int .i64 (pw j : Nat)) (fun _ i => k - (intOf i).toNat)
  case atStart => exact ⟨0, Nat.zero_le _, rfl, rfl⟩
  case round =>
    obtain ⟨j, hj, rfl, rfl⟩ := hrel
    by_cases hlt : j < k
    · have hp := hide (pw_succ j)
      have hb := pw_bound j (by omega)
      generalize pw j = v at *
      have hb2 : (v : Int) ≤ 1073741824 := by omega
      have hb0 : (0 : Int) ≤ (v : Int) := by omega
      go_wp2
      go_round
      case rel => exact ⟨j + 1, by omega, by go_num, by rw [unhide hp]; first | rfl | (congr 1; omega) | (simp; omega)⟩
      case measure => simp [intOf]; omega
    · obtain rfl : j = k := by omega
      go_wp2
      go_ret
      exact ⟨rfl, rfl⟩
set_option maxHeartbeats 400000 in
theorem ends_any (w : World) :
    Calls Tryd.prog 33 #[] w fun e w' => e = .returned (.slice (some ⟨w.heap.size, 0, none⟩) 5 5) ∧ w' = w.alloc (.cells #[.string ⟨#[]⟩, .string ⟨#[75, 105]⟩, .string ⟨#[77, 105]⟩, .string ⟨#[71, 105]⟩, .string ⟨#[84, 105]⟩] 9) := by
  go_enter Tryd.func33, Tryd.ntmps33
  go_wp2
  go_ret
  exact ⟨rfl, rfl⟩

end Go.Proofs.YtfpbmclahihlkaaDoor
