/- Layer 2: contracts of ParseCPU and ParseMoney. -/
import Derived.Test.YtfpbmclahihlkaaDoorSufF
namespace Go.Proofs.YtfpbmclahihlkaaDoor
open Go.RowKit Suf

theorem extract_rest (s : ByteArray) : (s.extract (lead s.data.toList).length s.size).data.toList = rest s.data.toList := by
  rw [rest_drop, ByteArray.data_extract, Array.toList_extract, List.extract_eq_take_drop, List.take_of_length_le]
  simp
theorem rest_size (s : ByteArray) : (s.extract (lead s.data.toList).length s.size).size ≤ s.size := by
  rw [ByteArray.size_extract]; omega
theorem lead_small (l : List UInt8) (h : digs (lead l) = true) : val (lead l) < 1000000000000000000 := by
  have ha := digs_all _ h
  unfold digs at h
  rw [Bool.and_eq_true, decide_eq_true_eq] at h
  exact val_bound18 _ ha h.1.2.1
theorem told_times (n : Nat) : (keep (chk n) n, chk n) = times n 1 := by
  unfold Suf.times
  by_cases h : n * 1 ≤ 1125899906842624
  · rw [if_pos h, chk_ok (by omega) (by omega), keep_yes _ _ rfl, Nat.mul_one]
  · rw [if_neg h, chk_high (by omega), keep_no _ _ (by decide)]

theorem ret_q {p q : Int × Int} (h : p = q) : Ending.returned (.tuple #[.int .i64 q.1, .int .i64 q.2]) = .returned (.tuple #[.int .i64 p.1, .int .i64 p.2]) := by subst h; rfl
theorem ret_p {p : Int × Int} {a b : Int} (h : p = (a, b)) : Ending.returned (.tuple #[.int .i64 a, .int .i64 b]) = .returned (.tuple #[.int .i64 p.1, .int .i64 p.2]) := by subst h; rfl
theorem form_eq : form = ((0 : Int), (20 : Int)) := rfl
theorem qCPU_no (l : List UInt8) (h : digs (lead l) = false) : pCPU l = (0, 20) := by rw [cpu_front]; unfold qCPU; rw [h]; rfl
theorem qCPU_0 (l : List UInt8) (h : digs (lead l) = true) (hr : rest l = []) : pCPU l = times (val (lead l)) 1000 := by rw [cpu_front]; unfold qCPU; rw [if_pos h, if_pos hr]
theorem qCPU_1 (l : List UInt8) (h : digs (lead l) = true) (hr : rest l = [109]) : pCPU l = times (val (lead l)) 1 := by rw [cpu_front]; unfold qCPU; rw [if_pos h, hr, if_neg (by decide), if_pos rfl]
theorem qCPU_2 (l : List UInt8) (h : digs (lead l) = true) (h0 : ¬ rest l = []) (h1 : ¬ rest l = [109]) : pCPU l = (0, 20) := by rw [cpu_front]; unfold qCPU; rw [if_pos h, if_neg h0, if_neg h1]; rfl

set_option maxHeartbeats 1000000 in
theorem parseCPU_any (s : ByteArray) (w : World) (hs : s.size ≤ maxLen) :
    Calls Tryd.prog 8 #[.string s] w fun e w' => e = .returned (.tuple #[.int .i64 (pCPU s.data.toList).1, .int .i64 (pCPU s.data.toList).2]) ∧ Below w.heap.size w w' := by
  have hrs := hide (extract_rest s)
  go_enter Tryd.func8, Tryd.ntmps8
  go_wp2_with fail
  refine (leading_any s _ hs).mono ?_
  rintro e w1 ⟨⟨hd, he⟩ | ⟨hd, he⟩, hw1⟩
  · have HB := hide hw1
    clear hw1
    have hb := lead_small _ hd
    obtain ⟨R, hR⟩ : ∃ R, R = s.extract (lead s.data.toList).length s.size := ⟨_, rfl⟩
    rw [← hR] at he hrs
    have q0 := hide (fun h => qCPU_0 s.data.toList hd h)
    have q1 := hide (fun h => qCPU_1 s.data.toList hd h)
    have q2 := hide (fun h g => qCPU_2 s.data.toList hd h g)
    clear hd hR
    generalize rest s.data.toList = r at *
    generalize val (lead s.data.toList) = n at *
    subst he
    by_cases h0 : r = []
    · have hp := hide (unhide q0 h0)
      have hre : R.toList.isEmpty = true := by rw [Lib.toList_data, unhide hrs, h0]; rfl
      clear q0 q1 q2 h0
      go_wp2_with (go_at_call 23; refine (times3_any _ _ hb).mono ?_; rintro e w' ⟨rfl, rfl⟩)
      go_ret2
      exact ⟨ret_q (unhide hp), unhide HB⟩
    · have hre : R.toList.isEmpty = false := by
        rw [Lib.toList_data, unhide hrs]; cases r with
        | nil => exact absurd rfl h0
        | cons _ _ => rfl
      by_cases h1 : r = [109]
      · have hp := hide (unhide q1 h1)
        have ht := hide (told_times n)
        have hre2 : (R.toList == [109]) = true := by rw [Lib.toList_data, unhide hrs, h1]; rfl
        clear q0 q1 q2 h0 h1
        go_wp2_with (go_at_call 24; refine (told_any _ _).mono ?_; rintro e w' ⟨rfl, rfl⟩)
        go_ret2
        exact ⟨ret_p ((unhide hp).trans (unhide ht).symm), unhide HB⟩
      · have hp := hide (unhide q2 h0 h1)
        have hre2 : (R.toList == [109]) = false := by rw [Lib.toList_data, unhide hrs]; exact beq_eq_false_iff_ne.2 h1
        clear q0 q1 q2 h0 h1
        go_wp2_with fail
        go_ret2
        exact ⟨ret_p (unhide hp), unhide HB⟩
  · have HB := hide hw1
    clear hw1
    have hp := hide (qCPU_no _ hd)
    subst he
    go_wp2_with fail
    go_ret2
    exact ⟨ret_p (unhide hp), unhide HB⟩

theorem money_over (n v : Nat) (h : (times n 1000000).2 ≠ 0) : money n v = (0, 10) ∧ times n 1000000 = (0, 10) := by
  unfold Suf.times at *
  by_cases hn : n * 1000000 ≤ 1125899906842624
  · rw [if_pos hn] at h; simp at h
  · have hm : ¬ n * 1000000 + v ≤ 1125899906842624 := fun c => hn (Nat.le_trans (Nat.le_add_right _ _) c)
    rw [if_neg hn]; unfold money; rw [if_neg hm]; exact ⟨rfl, rfl⟩
theorem money_fine (n v : Nat) (h : (times n 1000000).2 = 0) : times n 1000000 = (((n * 1000000 : Nat) : Int), 0) ∧ n * 1000000 ≤ 1125899906842624 ∧ money n v = (keep (chk (((n * 1000000 : Nat) : Int) + v)) (((n * 1000000 : Nat) : Int) + v), chk (((n * 1000000 : Nat) : Int) + v)) := by
  unfold Suf.times at *
  by_cases hn : n * 1000000 ≤ 1125899906842624
  · rw [if_pos hn]; refine ⟨rfl, hn, ?_⟩
    unfold money
    by_cases hv : n * 1000000 + v ≤ 1125899906842624
    · rw [if_pos hv, chk_ok (by omega) (by omega), keep_yes _ _ rfl]; rfl
    · rw [if_neg hv, chk_high (by omega), keep_no _ _ (by decide)]
  · rw [if_neg hn] at h; simp at h
theorem qMoney_no (l : List UInt8) (h : digs (lead l) = false) : pMoney l = (0, 20) := by rw [money_front]; unfold qMoney; rw [h]; rfl
theorem qMoney_none (l : List UInt8) (h : digs (lead l) = true) (hr : partsR (rest l) = none) : pMoney l = (0, 20) := by rw [money_front]; unfold qMoney; rw [if_pos h, hr]; rfl
theorem qMoney_some (l : List UInt8) (h : digs (lead l) = true) (v : Nat) (hr : partsR (rest l) = some v) : pMoney l = money (val (lead l)) v := by rw [money_front]; unfold qMoney; rw [if_pos h, hr]
theorem partsR_bound (l : List UInt8) (v : Nat) (h : partsR l = some v) : v < 1000000 := by
  cases l with
  | nil => rw [partsR_nil] at h; injection h with h; omega
  | cons c r =>
    rw [partsR_cons] at h
    split at h
    · rename_i hc
      injection h with h
      rw [Bool.and_eq_true, Bool.and_eq_true, decide_eq_true_eq] at hc
      rw [← h]
      exact part_bound r hc.2.1.2 hc.2.2 val_bound
    · cases h

set_option maxHeartbeats 1000000 in
theorem parseMoney_any (s : ByteArray) (w : World) (hs : s.size ≤ maxLen) :
    Calls Tryd.prog 10 #[.string s] w fun e w' => e = .returned (.tuple #[.int .i64 (pMoney s.data.toList).1, .int .i64 (pMoney s.data.toList).2]) ∧ Below w.heap.size w w' := by
  have hrs := hide (extract_rest s)
  have hrz := hide (rest_size s)
  go_enter Tryd.func10, Tryd.ntmps10
  go_wp2_with fail
  refine (leading_any s _ hs).mono ?_
  rintro e w1 ⟨⟨hd, he⟩ | ⟨hd, he⟩, hw1⟩
  · have HB := hide hw1
    clear hw1
    have hb := lead_small _ hd
    obtain ⟨R, hR⟩ : ∃ R, R = s.extract (lead s.data.toList).length s.size := ⟨_, rfl⟩
    rw [← hR] at he hrs hrz
    have q1 := hide (fun h => qMoney_none s.data.toList hd h)
    have q2 := hide (fun v h => qMoney_some s.data.toList hd v h)
    clear hd hR
    generalize rest s.data.toList = r at *
    generalize val (lead s.data.toList) = n at *
    subst he
    go_wp2_with fail
    refine (partsOf_any R _ (Nat.le_trans (unhide hrz) hs)).mono ?_
    rintro e w2 ⟨⟨v, hv, he⟩ | ⟨hv, he⟩, hw2⟩
    · rw [unhide hrs] at hv
      have hvb := partsR_bound _ _ hv
      have hp := hide (unhide q2 v hv)
      have HB2 := hide (chain (unhide HB) hw2)
      clear hw2 HB q1 q2 hv
      subst he
      by_cases hover : (times n 1000000).2 = 0
      · obtain ⟨e1, e2, e3⟩ := money_fine n v hover
        have e1' := hide e1
        have e3' := hide e3
        clear e1 e3 hover
        go_wp2_with (first
          | (go_at_call 23; refine (times6_any _ _ hb).mono ?_; rintro e w' ⟨he, rfl⟩; rw [unhide e1'] at he; subst he)
          | (go_at_call 24; refine (told_any _ _).mono ?_; rintro e w' ⟨rfl, rfl⟩))
        go_ret2
        exact ⟨ret_p ((unhide hp).trans (unhide e3')), unhide HB2⟩
      · obtain ⟨e1, e2⟩ := money_over n v hover
        have e1' := hide e1
        have e2' := hide e2
        clear e1 e2 hover
        go_wp2_with (first
          | (go_at_call 23; refine (times6_any _ _ hb).mono ?_; rintro e w' ⟨he, rfl⟩; rw [unhide e2'] at he; subst he))
        go_ret2
        exact ⟨ret_p ((unhide hp).trans (unhide e1')), unhide HB2⟩
    · rw [unhide hrs] at hv
      have hp := hide (unhide q1 hv)
      have HB2 := hide (chain (unhide HB) hw2)
      clear hw2 HB q1 q2 hv
      subst he
      go_wp2_with fail
      go_ret2
      exact ⟨ret_p (unhide hp), unhide HB2⟩
  · have HB := hide hw1
    clear hw1
    have hp := hide (qMoney_no _ hd)
    subst he
    go_wp2_with fail
    go_ret2
    exact ⟨ret_p (unhide hp), unhide HB⟩

end Go.Proofs.YtfpbmclahihlkaaDoor
