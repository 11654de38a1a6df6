/- Layer 2: contracts of partsOf and shifted. -/
import Derived.Test.YtfpbmclahihlkaaDoorSufE
namespace Go.Proofs.YtfpbmclahihlkaaDoor
open Go.RowKit Suf

theorem fill_all (r : List UInt8) (h : r.all dig = true) (k : Nat) : (r ++ List.replicate k 48).all dig = true := by
  rw [List.all_append, h, Bool.true_and]
  rw [List.all_eq_true]; intro x hx
  rw [List.eq_of_mem_replicate hx]; decide

theorem rep_zeros (k : Nat) (hk : k ≤ 6) (w : World) :
    Calls Tryd.prog 41 #[.string ⟨#[48]⟩, .int .i64 (6 - (k : Int))] w fun e w' => e = .returned (.string ⟨(List.replicate (6 - k) (48 : UInt8)).toArray⟩) ∧ Below w.heap.size w w' := by
  have h := Tryd.strings_Repeat ⟨#[48]⟩ (6 - k) w (by omega) (by show 1 * (6 - k) ≤ _; omega)
  rw [show ((6 - k : Nat) : Int) = 6 - (k : Int) by omega] at h
  refine h.mono ?_
  rintro e w' ⟨rfl, hw⟩
  refine ⟨?_, hw⟩
  rw [show (ByteArray.mk #[48]).data.toList = [48] from rfl, repeat_zero]
theorem append_list (a b : ByteArray) : (a ++ b).data.toList = a.data.toList ++ b.data.toList := by
  rw [ByteArray.data_append, Array.toList_append]
theorem filled (R : ByteArray) (r : List UInt8) (h : R.data.toList = r) (h6 : R.size ≤ 6) (ha : r.all dig = true) :
    (R ++ (⟨(List.replicate (6 - R.size) (48 : UInt8)).toArray⟩ : ByteArray)).size ≤ 18 ∧ (R ++ (⟨(List.replicate (6 - R.size) (48 : UInt8)).toArray⟩ : ByteArray)).data.toList.all dig = true
      ∧ val (R ++ (⟨(List.replicate (6 - R.size) (48 : UInt8)).toArray⟩ : ByteArray)).data.toList = Suf.part r := by
  have e : (R ++ (⟨(List.replicate (6 - R.size) (48 : UInt8)).toArray⟩ : ByteArray)).data.toList = r ++ List.replicate (6 - r.length) 48 := by
    rw [append_list, h, size_list, h]
  refine ⟨?_, ?_, ?_⟩
  · rw [size_list, e, List.length_append, List.length_replicate]
    rw [size_list, h] at h6; omega
  · rw [e]; exact fill_all r ha _
  · rw [e]; rfl

set_option maxHeartbeats 1000000 in
theorem partsOf_any (s : ByteArray) (w : World) (hs : s.size ≤ maxLen) :
    Calls Tryd.prog 26 #[.string s] w fun e w' => ((∃ v, partsR s.data.toList = some v ∧ e = .returned (.tuple #[.int .i64 (v : Nat), .bool true]))
      ∨ partsR s.data.toList = none ∧ e = .returned (.tuple #[.int .i64 0, .bool false])) ∧ Below w.heap.size w w' := by
  unfold maxLen at hs
  cases hl : s.data.toList with
  | nil =>
    obtain rfl := bytes_nil s hl
    clear hl
    go_enter Tryd.func26, Tryd.ntmps26
    go_wp2_with fail
    go_ret2
    exact ⟨Or.inl ⟨0, rfl, rfl⟩, Below.refl _ _⟩
  | cons c r =>
    have hne : s.toList.isEmpty = false := by rw [Lib.toList_data, hl]; rfl
    by_cases hc : c = 46
    · subst hc
      have HC := hide (fun w => cut_yes r s hl w)
      have HS : Hid (r.length ≤ s.size) := by rw [size_list, hl]; simp [Hid]
      clear hl
      obtain ⟨R, hR⟩ : ∃ R : ByteArray, R = ⟨r.toArray⟩ := ⟨_, rfl⟩
      have hRl : R.data.toList = r := by rw [hR]
      have hRs : R.size = r.length := by rw [size_list, hRl]
      rw [← hR] at HC
      by_cases hlen : 1 ≤ r.length ∧ r.length ≤ 6
      · have hn2 : R.toList.isEmpty = false := by
          rw [Lib.toList_data, hRl]; cases r with
          | nil => simp at hlen
          | cons _ _ => rfl
        have hz : R.size ≤ 6 := by omega
        have hz1 : 1 ≤ R.size := by omega
        have PN : r.all dig = false → partsR (46 :: r) = none := fun h => by rw [partsR_cons, h]; simp
        have PY : r.all dig = true → partsR (46 :: r) = some (Suf.part r) := fun h => by rw [partsR_cons, h, decide_eq_true hlen]; rfl
        have PN' := hide PN
        have PY' := hide PY
        have HRL := hide hRl
        clear PN PY hlen hR hRl hRs HS
        go_enter Tryd.func26, Tryd.ntmps26
        go_wp2_with (go_at_call 40; refine (unhide HC _).mono ?_; rintro e w' ⟨rfl, rfl⟩)
        go_loop [6, 27] (fun _ i => ∃ k : Nat, k ≤ R.size ∧ i = .int .i64 k ∧ Hid ((R.data.toList.take k).all dig = true)) (fun _ i => R.size - (intOf i).toNat)
        case atStart => exact ⟨0, Nat.zero_le _, rfl, rfl⟩
        case round =>
          obtain ⟨k, hk, rfl, hall⟩ := hrel
          by_cases hlt : k < R.size
          · cases hd : dig R[k] with
            | true =>
              have hn := hide (all_snoc R k hlt (unhide hall) hd)
              go_wp2_with (go_at_call 38; refine (isDigit_any _ _).mono ?_; rintro e w' ⟨rfl, rfl⟩)
              go_round
              case rel => exact ⟨k + 1, by omega, by go_num, hn⟩
              case measure => simp [intOf]; omega
            | false =>
              have hno : Hid (partsR (46 :: r) = none) := by
                refine unhide PN' ?_
                cases ha : r.all dig with
                | false => rfl
                | true =>
                  have := all_get R k hlt (by rw [unhide HRL]; exact ha)
                  rw [hd] at this; cases this
              go_wp2_with (go_at_call 38; refine (isDigit_any _ _).mono ?_; rintro e w' ⟨rfl, rfl⟩)
              go_ret2
              exact ⟨Or.inr ⟨unhide hno, rfl⟩, Below.refl _ _⟩
          · obtain rfl : k = R.size := by omega
            have ha : Hid (r.all dig = true) := by
              have := unhide hall
              rw [size_list, List.take_length, unhide HRL] at this
              exact this
            have hyes := hide (unhide PY' (unhide ha))
            have hfil := hide (filled R r (unhide HRL) hz (unhide ha))
            have hyes' := hyes
            clear hyes PN' PY' HC hall
            go_wp2_with fail
            refine (rep_zeros R.size hz _).mono ?_
            rintro e w1 ⟨rfl, hw1⟩
            have H1 := hide hw1
            clear hw1
            go_wp2_with fail
            refine (number_any _ _ (unhide hfil).1 (unhide hfil).2.1).mono ?_
            rintro e w2 ⟨he, rfl⟩
            rw [(unhide hfil).2.2] at he
            subst he
            go_wp2_with fail
            go_ret2
            exact ⟨Or.inl ⟨_, unhide hyes', rfl⟩, unhide H1⟩
      · have hno : partsR (46 :: r) = none := by rw [partsR_cons, decide_eq_false hlen]; simp
        have HNO := hide hno
        clear hno
        by_cases hr : r = []
        · have hn2 : R.toList.isEmpty = true := by rw [Lib.toList_data, hRl, hr]; rfl
          clear hlen hR hRl hRs HS
          go_enter Tryd.func26, Tryd.ntmps26
          go_wp2_with (go_at_call 40; refine (unhide HC _).mono ?_; rintro e w' ⟨rfl, rfl⟩)
          go_ret2
          exact ⟨Or.inr ⟨unhide HNO, rfl⟩, Below.refl _ _⟩
        · have hn2 : R.toList.isEmpty = false := by
            rw [Lib.toList_data, hRl]; cases r with
            | nil => exact absurd rfl hr
            | cons _ _ => rfl
          have h6 : 6 < (R.size : Int) := by
            have : r.length ≠ 0 := fun h => hr (List.eq_nil_of_length_eq_zero h)
            omega
          clear hlen hR hRl hRs HS
          go_enter Tryd.func26, Tryd.ntmps26
          go_wp2_with (go_at_call 40; refine (unhide HC _).mono ?_; rintro e w' ⟨rfl, rfl⟩)
          go_ret2
          exact ⟨Or.inr ⟨unhide HNO, rfl⟩, Below.refl _ _⟩
    · have HC := hide (fun w => cut_no s (by rw [hl]; simp; exact hc) w)
      have hno : Hid (partsR (c :: r) = none) := by show _ = _; rw [partsR_cons, beq_eq_false_iff_ne.2 hc]; rfl
      clear hl
      go_enter Tryd.func26, Tryd.ntmps26
      go_wp2_with (go_at_call 40; refine (unhide HC _).mono ?_; rintro e w' ⟨rfl, rfl⟩)
      go_ret2
      exact ⟨Or.inr ⟨unhide hno, rfl⟩, Below.refl _ _⟩

set_option maxHeartbeats 400000 in
theorem shifted4_any (n : Nat) (w : World) (h1 : n < 1000000000000000000) :
    Calls Tryd.prog 25 #[.int .i64 n, .int .u64 40] w fun e w' => e = .returned (.tuple #[.int .i64 (Suf.times n (1024 ^ 4)).1, .int .i64 (Suf.times n (1024 ^ 4)).2]) ∧ w' = w := by
  by_cases h : (n : Int) > 1024
  · have e := hide (show Suf.times n (1024 ^ 4) = (0, 10) by unfold Suf.times; rw [show 1024 ^ 4 = 1099511627776 from rfl, if_neg (by omega)])
    generalize Suf.times n (1024 ^ 4) = r at e
    go_enter Tryd.func25, Tryd.ntmps25
    go_wp2
    go_ret2
    exact ⟨ret_pair (by rw [unhide e]) (by rw [unhide e]), rfl⟩
  · have e := hide (show Suf.times n (1024 ^ 4) = ((n : Int) * 1099511627776, 0) by
      unfold Suf.times; rw [show 1024 ^ 4 = 1099511627776 from rfl, if_pos (by omega)]; congr 1)
    generalize Suf.times n (1024 ^ 4) = r at e
    go_enter Tryd.func25, Tryd.ntmps25
    go_wp2
    go_ret2
    exact ⟨ret_pair (by rw [unhide e]) (by rw [unhide e]), rfl⟩

set_option maxHeartbeats 400000 in
theorem shifted3_any (n : Nat) (w : World) (h1 : n < 1000000000000000000) :
    Calls Tryd.prog 25 #[.int .i64 n, .int .u64 30] w fun e w' => e = .returned (.tuple #[.int .i64 (Suf.times n (1024 ^ 3)).1, .int .i64 (Suf.times n (1024 ^ 3)).2]) ∧ w' = w := by
  by_cases h : (n : Int) > 1048576
  · have e := hide (show Suf.times n (1024 ^ 3) = (0, 10) by unfold Suf.times; rw [show 1024 ^ 3 = 1073741824 from rfl, if_neg (by omega)])
    generalize Suf.times n (1024 ^ 3) = r at e
    go_enter Tryd.func25, Tryd.ntmps25
    go_wp2
    go_ret2
    exact ⟨ret_pair (by rw [unhide e]) (by rw [unhide e]), rfl⟩
  · have e := hide (show Suf.times n (1024 ^ 3) = ((n : Int) * 1073741824, 0) by
      unfold Suf.times; rw [show 1024 ^ 3 = 1073741824 from rfl, if_pos (by omega)]; congr 1)
    generalize Suf.times n (1024 ^ 3) = r at e
    go_enter Tryd.func25, Tryd.ntmps25
    go_wp2
    go_ret2
    exact ⟨ret_pair (by rw [unhide e]) (by rw [unhide e]), rfl⟩

set_option maxHeartbeats 400000 in
theorem shifted2_any (n : Nat) (w : World) (h1 : n < 1000000000000000000) :
    Calls Tryd.prog 25 #[.int .i64 n, .int .u64 20] w fun e w' => e = .returned (.tuple #[.int .i64 (Suf.times n (1024 ^ 2)).1, .int .i64 (Suf.times n (1024 ^ 2)).2]) ∧ w' = w := by
  by_cases h : (n : Int) > 1073741824
  · have e := hide (show Suf.times n (1024 ^ 2) = (0, 10) by unfold Suf.times; rw [show 1024 ^ 2 = 1048576 from rfl, if_neg (by omega)])
    generalize Suf.times n (1024 ^ 2) = r at e
    go_enter Tryd.func25, Tryd.ntmps25
    go_wp2
    go_ret2
    exact ⟨ret_pair (by rw [unhide e]) (by rw [unhide e]), rfl⟩
  · have e := hide (show Suf.times n (1024 ^ 2) = ((n : Int) * 1048576, 0) by
      unfold Suf.times; rw [show 1024 ^ 2 = 1048576 from rfl, if_pos (by omega)]; congr 1)
    generalize Suf.times n (1024 ^ 2) = r at e
    go_enter Tryd.func25, Tryd.ntmps25
    go_wp2
    go_ret2
    exact ⟨ret_pair (by rw [unhide e]) (by rw [unhide e]), rfl⟩

set_option maxHeartbeats 400000 in
theorem shifted1_any (n : Nat) (w : World) (h1 : n < 1000000000000000000) :
    Calls Tryd.prog 25 #[.int .i64 n, .int .u64 10] w fun e w' => e = .returned (.tuple #[.int .i64 (Suf.times n (1024 ^ 1)).1, .int .i64 (Suf.times n (1024 ^ 1)).2]) ∧ w' = w := by
  by_cases h : (n : Int) > 1099511627776
  · have e := hide (show Suf.times n (1024 ^ 1) = (0, 10) by unfold Suf.times; rw [show 1024 ^ 1 = 1024 from rfl, if_neg (by omega)])
    generalize Suf.times n (1024 ^ 1) = r at e
    go_enter Tryd.func25, Tryd.ntmps25
    go_wp2
    go_ret2
    exact ⟨ret_pair (by rw [unhide e]) (by rw [unhide e]), rfl⟩
  · have e := hide (show Suf.times n (1024 ^ 1) = ((n : Int) * 1024, 0) by
      unfold Suf.times; rw [show 1024 ^ 1 = 1024 from rfl, if_pos (by omega)]; congr 1)
    generalize Suf.times n (1024 ^ 1) = r at e
    go_enter Tryd.func25, Tryd.ntmps25
    go_wp2
    go_ret2
    exact ⟨ret_pair (by rw [unhide e]) (by rw [unhide e]), rfl⟩

set_option maxHeartbeats 400000 in
theorem shifted0_any (n : Nat) (w : World) (h1 : n < 1000000000000000000) :
    Calls Tryd.prog 25 #[.int .i64 n, .int .u64 0] w fun e w' => e = .returned (.tuple #[.int .i64 (Suf.times n (1024 ^ 0)).1, .int .i64 (Suf.times n (1024 ^ 0)).2]) ∧ w' = w := by
  by_cases h : (n : Int) > 1125899906842624
  · have e := hide (show Suf.times n (1024 ^ 0) = (0, 10) by unfold Suf.times; rw [show 1024 ^ 0 = 1 from rfl, if_neg (by omega)])
    generalize Suf.times n (1024 ^ 0) = r at e
    go_enter Tryd.func25, Tryd.ntmps25
    go_wp2
    go_ret2
    exact ⟨ret_pair (by rw [unhide e]) (by rw [unhide e]), rfl⟩
  · have e := hide (show Suf.times n (1024 ^ 0) = ((n : Int) * 1, 0) by
      unfold Suf.times; rw [show 1024 ^ 0 = 1 from rfl, if_pos (by omega)]; congr 1)
    generalize Suf.times n (1024 ^ 0) = r at e
    go_enter Tryd.func25, Tryd.ntmps25
    go_wp2
    go_ret2
    exact ⟨ret_pair (by rw [unhide e]; exact (Int.mul_one _).symm) (by rw [unhide e]), rfl⟩

end Go.Proofs.YtfpbmclahihlkaaDoor
