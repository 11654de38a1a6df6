/- Layer 2: contracts of the small functions of package suffix: isDigit, number, leading, times, told, shifted; and amount.Check. -/
import Derived.Test.YtfpbmclahihlkaaDoorKitA
import Derived.Test.YtfpbmclahihlkaaDoorSufB
namespace Go.Proofs.YtfpbmclahihlkaaDoor
open Go.RowKit Suf

/-- The error of one number. -/
def chk (n : Int) : Int := if n < 0 then 11 else if 1125899906842624 < n then 10 else 0
theorem chk_ok {n : Int} (h0 : 0 ≤ n) (h1 : n ≤ 1125899906842624) : chk n = 0 := by
  unfold chk; rw [if_neg (by omega), if_neg (by omega)]
theorem chk_low {n : Int} (h0 : n < 0) : chk n = 11 := by
  unfold chk; rw [if_pos (by omega)]
theorem chk_high {n : Int} (h1 : 1125899906842624 < n) : chk n = 10 := by
  unfold chk; rw [if_neg (by omega), if_pos (by omega)]
theorem chk_eq {n : Int} (h : chk n = 0) : 0 ≤ n ∧ n ≤ 1125899906842624 := by
  unfold chk at h; split at h
  · omega
  · split at h
    · omega
    · omega

set_option maxHeartbeats 400000 in
theorem check_any (n : Int) (w : World) :
    Calls Tryd.prog 27 #[.int .i64 n] w fun e w' => e = .returned (.int .i64 (chk n)) ∧ w' = w := by
  by_cases h0 : n < 0
  · have hc := hide (chk_low h0)
    go_enter Tryd.func27, Tryd.ntmps27
    go_wp2
    go_ret
    exact ⟨ret_int (unhide hc).symm, rfl⟩
  · by_cases h1 : 1125899906842624 < n
    · have hc := hide (chk_high h1)
      go_enter Tryd.func27, Tryd.ntmps27
      go_wp2
      go_ret
      exact ⟨ret_int (unhide hc).symm, rfl⟩
    · have hc := hide (chk_ok (by omega : 0 ≤ n) (by omega))
      go_enter Tryd.func27, Tryd.ntmps27
      go_wp2
      go_ret
      exact ⟨ret_int (unhide hc).symm, rfl⟩
set_option maxHeartbeats 400000 in
theorem rcheck_any (n : Int) (w : World) :
    Calls Tryd.prog 35 #[.int .i64 n] w fun e w' => e = .returned (.int .i64 (chk n)) ∧ w' = w := by
  by_cases h0 : n < 0
  · have hc := hide (chk_low h0)
    go_enter Tryd.func35, Tryd.ntmps35
    go_wp2
    go_ret
    exact ⟨ret_int (unhide hc).symm, rfl⟩
  · by_cases h1 : 1125899906842624 < n
    · have hc := hide (chk_high h1)
      go_enter Tryd.func35, Tryd.ntmps35
      go_wp2
      go_ret
      exact ⟨ret_int (unhide hc).symm, rfl⟩
    · have hc := hide (chk_ok (by omega : 0 ≤ n) (by omega))
      go_enter Tryd.func35, Tryd.ntmps35
      go_wp2
      go_ret
      exact ⟨ret_int (unhide hc).symm, rfl⟩

theorem dig_iff (c : UInt8) : dig c = (decide (48 ≤ (c.toNat : Int)) && decide ((c.toNat : Int) ≤ 57)) := by
  unfold dig; rw [Bool.eq_iff_iff]; simp; omega
set_option maxHeartbeats 400000 in
theorem isDigit_any (c : UInt8) (w : World) :
    Calls Tryd.prog 38 #[.int .u8 (c.toNat : Int)] w fun e w' => e = .returned (.bool (dig c)) ∧ w' = w := by
  have hd := hide (dig_iff c)
  generalize dig c = d at hd
  by_cases h : 48 ≤ (c.toNat : Int)
  · go_enter Tryd.func38, Tryd.ntmps38
    go_wp2
    go_ret
    exact ⟨ret_bool (by rw [unhide hd]; simp [h]), rfl⟩
  · go_enter Tryd.func38, Tryd.ntmps38
    go_wp2
    go_ret
    exact ⟨ret_bool (by rw [unhide hd, decide_eq_false (by omega)]; rfl), rfl⟩

theorem take_snoc8 (s : ByteArray) (k : Nat) (h : k < s.size) : s.data.toList.take (k + 1) = s.data.toList.take k ++ [s[k]] := by
  rw [List.take_succ_eq_append_getElem (by simpa using h)]; rfl
theorem valFrom_bound : ∀ (l : List UInt8) (n : Nat), l.all dig = true → valFrom n l < (n + 1) * 10 ^ l.length
  | [], n, _ => by show n < (n + 1) * 1; omega
  | c :: l, n, h => by
    rw [List.all_cons, Bool.and_eq_true] at h
    have hb := valFrom_bound l (n * 10 + dv c) h.2
    have hc : dv c ≤ 9 := by
      have := h.1; unfold dig at this; rw [decide_eq_true_eq] at this; unfold dv; omega
    show valFrom (n * 10 + dv c) l < (n + 1) * 10 ^ (l.length + 1)
    rw [Nat.pow_succ]
    refine Nat.lt_of_lt_of_le hb ?_
    rw [← Nat.mul_assoc, Nat.mul_right_comm]
    exact Nat.mul_le_mul_right _ (by omega)
theorem val_bound (l : List UInt8) (h : l.all dig = true) : val l < 10 ^ l.length := by
  have := valFrom_bound l 0 h; rw [Nat.zero_add, Nat.one_mul] at this; exact this
theorem val_bound18 (l : List UInt8) (h : l.all dig = true) (h18 : l.length ≤ 18) : val l < 1000000000000000000 :=
  Nat.lt_of_lt_of_le (val_bound l h) (Nat.le_trans (Nat.pow_le_pow_right (by omega) h18) (by decide))
theorem val_next (s : ByteArray) (k : Nat) (h : k < s.size) : val (s.data.toList.take (k + 1)) = val (s.data.toList.take k) * 10 + dv s[k] := by
  rw [take_snoc8 s k h, val_snoc]
theorem all_get (s : ByteArray) (k : Nat) (h : k < s.size) (ha : s.data.toList.all dig = true) : dig s[k] = true := by
  have := List.all_eq_true.1 ha s[k]
  exact this (by have : s[k] = s.data.toList[k]'(by simpa using h) := rfl
                 rw [this]; exact List.getElem_mem _)
theorem dv_int (c : UInt8) (h : dig c = true) : ((dv c : Nat) : Int) = (c.toNat : Int) - 48 ∧ 48 ≤ (c.toNat : Int) ∧ (c.toNat : Int) ≤ 57 := by
  unfold dig at h; rw [decide_eq_true_eq] at h; unfold dv; omega

set_option maxHeartbeats 400000 in
theorem number_any (s : ByteArray) (w : World) (hs : s.size ≤ 18) (ha : s.data.toList.all dig = true) :
    Calls Tryd.prog 39 #[.string s] w fun e w' => e = .returned (.int .i64 (val s.data.toList : Nat)) ∧ w' = w := by
  have HA := hide ha
  clear ha
  go_enter Tryd.func39, Tryd.ntmps39
  go_wp2
  go_loop [3, 4, 7] (fun n _ i => ∃ k : Nat, k ≤ s.size ∧ i = .int .i64 k ∧ n = .int .i64 (val (s.data.toList.take k) : Nat)) (fun _ _ i => s.size - (intOf i).toNat)
  case atStart => exact ⟨0, Nat.zero_le _, rfl, rfl⟩
  case round =>
    obtain ⟨k, hk, rfl, rfl⟩ := hrel
    by_cases hlt : k < s.size
    · have hn := hide (val_next s k hlt)
      obtain ⟨hd, h0, h1⟩ := dv_int s[k] (all_get s k hlt (unhide HA))
      have hb := val_bound18 (s.data.toList.take k) (by
        have := unhide HA; rw [← List.take_append_drop k s.data.toList, List.all_append, Bool.and_eq_true] at this; exact this.1) (by
        have := List.length_take_le k s.data.toList; omega)
      have hb2 := val_bound18 (s.data.toList.take (k + 1)) (by
        have := unhide HA; rw [← List.take_append_drop (k + 1) s.data.toList, List.all_append, Bool.and_eq_true] at this; exact this.1) (by
        have := List.length_take_le (k + 1) s.data.toList; omega)
      have hb3 : val (s.data.toList.take k) * 10 + dv s[k] < 1000000000000000000 := by rw [unhide hn] at hb2; exact hb2
      clear hb2
      have HD := hide hd
      have hb4 : (val (s.data.toList.take k) : Int) * 10 + ((s[k].toNat : Int) - 48) < 1000000000000000000 := by omega
      have hb5 : (0 : Int) ≤ (val (s.data.toList.take k) : Int) := by omega
      clear hd hb3 hb
      generalize val (s.data.toList.take k) = v at *
      go_wp2
      go_round
      case rel => exact ⟨k + 1, by omega, by go_num, by
        have e1 := unhide hn
        have e2 := unhide HD
        rw [e1]
        first | (congr 1; omega) | (simp; omega)⟩
      case measure => simp [intOf]; omega
    · go_wp2
      go_ret
      exact ⟨ret_int (by rw [List.take_of_length_le (by simp; omega)]), rfl⟩

set_option maxHeartbeats 400000 in
theorem times3_any (n : Nat) (w : World) (h1 : n < 1000000000000000000) :
    Calls Tryd.prog 23 #[.int .i64 n, .int .i64 1000] w fun e w' => e = .returned (.tuple #[.int .i64 (Suf.times n 1000).1, .int .i64 (Suf.times n 1000).2]) ∧ w' = w := by
  by_cases h : (n : Int) > 1125899906842
  · have e := hide (show Suf.times n 1000 = (0, 10) by unfold Suf.times; rw [if_neg (by omega)])
    generalize Suf.times n 1000 = r at e
    go_enter Tryd.func23, Tryd.ntmps23
    go_wp2
    go_ret2
    exact ⟨ret_pair (by rw [unhide e]) (by rw [unhide e]), rfl⟩
  · have e := hide (show Suf.times n 1000 = ((n : Int) * 1000, 0) by
      unfold Suf.times; rw [if_pos (by omega)]; congr 1)
    generalize Suf.times n 1000 = r at e
    go_enter Tryd.func23, Tryd.ntmps23
    go_wp2
    go_ret2
    exact ⟨ret_pair (by rw [unhide e]) (by rw [unhide e]), rfl⟩
set_option maxHeartbeats 400000 in
theorem times6_any (n : Nat) (w : World) (h1 : n < 1000000000000000000) :
    Calls Tryd.prog 23 #[.int .i64 n, .int .i64 1000000] w fun e w' => e = .returned (.tuple #[.int .i64 (Suf.times n 1000000).1, .int .i64 (Suf.times n 1000000).2]) ∧ w' = w := by
  by_cases h : (n : Int) > 1125899906
  · have e := hide (show Suf.times n 1000000 = (0, 10) by unfold Suf.times; rw [if_neg (by omega)])
    generalize Suf.times n 1000000 = r at e
    go_enter Tryd.func23, Tryd.ntmps23
    go_wp2
    go_ret2
    exact ⟨ret_pair (by rw [unhide e]) (by rw [unhide e]), rfl⟩
  · have e := hide (show Suf.times n 1000000 = ((n : Int) * 1000000, 0) by
      unfold Suf.times; rw [if_pos (by omega)]; congr 1)
    generalize Suf.times n 1000000 = r at e
    go_enter Tryd.func23, Tryd.ntmps23
    go_wp2
    go_ret2
    exact ⟨ret_pair (by rw [unhide e]) (by rw [unhide e]), rfl⟩

/-- What 'told' keeps: the number where it has no error, else 0. -/
def keep (e n : Int) : Int := if e = 0 then n else 0
theorem keep_yes (e n : Int) (h : e = 0) : keep e n = n := by unfold keep; rw [if_pos h]
theorem keep_no (e n : Int) (h : ¬ e = 0) : keep e n = 0 := by unfold keep; rw [if_neg h]
set_option maxHeartbeats 400000 in
theorem told_any (n : Int) (w : World) :
    Calls Tryd.prog 24 #[.int .i64 n] w fun e w' => e = .returned (.tuple #[.int .i64 (keep (chk n) n), .int .i64 (chk n)]) ∧ w' = w := by
  by_cases h : chk n = 0
  · have ha := hide (keep_yes (chk n) n h)
    have hz := hide h
    have ht : (chk n != 0) = false := by rw [h]; rfl
    clear h
    go_enter Tryd.func24, Tryd.ntmps24
    go_wp2_with (go_at_call 27; refine (check_any _ _).mono ?_; rintro e w' ⟨rfl, rfl⟩)
    go_ret2
    exact ⟨ret_pair (unhide ha).symm (unhide hz).symm, rfl⟩
  · have ha := hide (keep_no (chk n) n h)
    have ht : (chk n != 0) = true := bne_iff_ne.2 h
    clear h
    go_enter Tryd.func24, Tryd.ntmps24
    go_wp2_with (go_at_call 27; refine (check_any _ _).mono ?_; rintro e w' ⟨rfl, rfl⟩)
    go_ret2
    exact ⟨ret_pair (unhide ha).symm rfl, rfl⟩

end Go.Proofs.YtfpbmclahihlkaaDoor
