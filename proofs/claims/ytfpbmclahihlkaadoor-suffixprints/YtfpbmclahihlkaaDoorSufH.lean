/- Layer 2: contracts of ParseBytes and unitOf, which go through the table of suffixes. -/
import Derived.Test.YtfpbmclahihlkaaDoorSufG
import Derived.Laws.Rows
namespace Go.Proofs.YtfpbmclahihlkaaDoor
open Go.RowKit Suf

theorem qBytes_no (l : List UInt8) (h : digs (lead l) = false) : pBytes l = (0, 20) := by rw [bytes_front]; unfold qBytes; rw [h]; rfl
theorem qBytes_k (l : List UInt8) (h : digs (lead l) = true) (k : Nat) (hk : k ≤ 4) (hr : rest l = suf k) : pBytes l = times (val (lead l)) (1024 ^ k) := by
  have := pBytes_read (lead l) h k hk
  rw [← hr, lead_rest] at this; exact this
theorem qBytes_none (l : List UInt8) (h : digs (lead l) = true) (hr : ∀ k, k ≤ 4 → ¬ rest l = suf k) : pBytes l = (0, 20) := by
  rw [bytes_front]; unfold qBytes
  rw [if_pos h, if_neg (hr 4 (by omega)), if_neg (hr 3 (by omega)), if_neg (hr 2 (by omega)), if_neg (hr 1 (by omega)), if_neg (hr 0 (by omega))]; rfl

theorem unitRow_size : (Tryd.prog.info? 40).map (·.size) = some unitRow.size := by kernel_rfl
set_option maxHeartbeats 2000000 in
theorem parseBytes_any (s : ByteArray) (w : World) (hs : s.size ≤ maxLen) (hL : Laid w) :
    Calls Tryd.prog 9 #[.string s] w fun e w' => e = .returned (.tuple #[.int .i64 (pBytes s.data.toList).1, .int .i64 (pBytes s.data.toList).2]) ∧ Below w.heap.size w w' := by
  have hrs := hide (extract_rest s)
  have i0 : ∀ w, (Instr.index 40 (.agg unitRow) (.int .i64 0)).run Tryd.prog w = .ok (.agg #[.string ⟨#[84, 105]⟩, .int .u64 40]) w := fun _ => by kernel_rfl
  have i1 : ∀ w, (Instr.index 40 (.agg unitRow) (.int .i64 1)).run Tryd.prog w = .ok (.agg #[.string ⟨#[71, 105]⟩, .int .u64 30]) w := fun _ => by kernel_rfl
  have i2 : ∀ w, (Instr.index 40 (.agg unitRow) (.int .i64 2)).run Tryd.prog w = .ok (.agg #[.string ⟨#[77, 105]⟩, .int .u64 20]) w := fun _ => by kernel_rfl
  have i3 : ∀ w, (Instr.index 40 (.agg unitRow) (.int .i64 3)).run Tryd.prog w = .ok (.agg #[.string ⟨#[75, 105]⟩, .int .u64 10]) w := fun _ => by kernel_rfl
  have i4 : ∀ w, (Instr.index 40 (.agg unitRow) (.int .i64 4)).run Tryd.prog w = .ok (.agg #[.string ⟨#[]⟩, .int .u64 0]) w := fun _ => by kernel_rfl
  have HL := hide hL
  clear hL
  go_enter Tryd.func9, Tryd.ntmps9
  go_wp2_with fail
  refine (leading_any s _ hs).mono ?_
  rintro e w1 ⟨⟨hd, he⟩ | ⟨hd, he⟩, hw1⟩
  · have HB := hide hw1
    obtain ⟨tt, fr, hg⟩ := ((unhide HL).below hw1).1
    have HG := hide hg
    clear hw1 hg
    have hb := lead_small _ hd
    obtain ⟨R, hR⟩ : ∃ R, R = s.extract (lead s.data.toList).length s.size := ⟨_, rfl⟩
    rw [← hR] at he hrs
    have q1 := hide (fun k hk h => qBytes_k s.data.toList hd k hk h)
    have q2 := hide (fun h => qBytes_none s.data.toList hd h)
    clear hd hR
    generalize rest s.data.toList = r at *
    generalize val (lead s.data.toList) = n at *
    subst he
    go_wp2_with (refine wpList_load_row rfl 40 _ rfl 0 rfl tt _ fr _ (unhide HG) Tryd.underlying40 rfl unitRow_size ?_)
    go_loopw [16] (fun i W => ∃ k : Nat, k ≤ 5 ∧ i = .int .i64 k ∧ Hid (Below w1.heap.size w1 W) ∧ Hid (∀ j, j < k → ¬ r = suf (4 - j))) (fun i _ => 5 - (intOf i).toNat)
    case atStart => exact ⟨0, by omega, rfl, Below.refl _ _, fun j hj => by omega⟩
    case round =>
      obtain ⟨k, hk, rfl, hbel, hno⟩ := hrel
      match k, hk with
      | 0, _ =>
        by_cases h : r = suf 4
        · have hp := hide (unhide q1 4 (by omega) h)
          have hre : (R.toList == [84, 105]) = true := by rw [Lib.toList_data, unhide hrs, h]; rfl
          clear h q1 q2
          go_wp2_with (first | (go_at_call 25; refine (shifted4_any _ _ hb).mono ?_; rintro e w' ⟨he, rfl⟩; subst he))
          go_ret2
          exact ⟨ret_q (unhide hp), below_call (unhide HB) (size_le (unhide HB)) ((unhide hbel).alloc (unhide hbel).size _)⟩
        · have hre : (R.toList == [84, 105]) = false := by rw [Lib.toList_data, unhide hrs]; exact beq_eq_false_iff_ne.2 h
          have hn2 : Hid (∀ j, j < 0 + 1 → ¬ r = suf (4 - j)) := fun j hj c => by
            by_cases e : j < 0
            · exact unhide hno j e c
            · have : j = 0 := by omega
              subst this; exact h c
          clear h q1
          go_wp2_with fail
          go_roundw
          case rel => exact ⟨0 + 1, by omega, by go_num, (unhide hbel).alloc (unhide hbel).size _, hn2⟩
          case measure => simp [intOf]
      | 1, _ =>
        by_cases h : r = suf 3
        · have hp := hide (unhide q1 3 (by omega) h)
          have hre : (R.toList == [71, 105]) = true := by rw [Lib.toList_data, unhide hrs, h]; rfl
          clear h q1 q2
          go_wp2_with (first | (go_at_call 25; refine (shifted3_any _ _ hb).mono ?_; rintro e w' ⟨he, rfl⟩; subst he))
          go_ret2
          exact ⟨ret_q (unhide hp), below_call (unhide HB) (size_le (unhide HB)) ((unhide hbel).alloc (unhide hbel).size _)⟩
        · have hre : (R.toList == [71, 105]) = false := by rw [Lib.toList_data, unhide hrs]; exact beq_eq_false_iff_ne.2 h
          have hn2 : Hid (∀ j, j < 1 + 1 → ¬ r = suf (4 - j)) := fun j hj c => by
            by_cases e : j < 1
            · exact unhide hno j e c
            · have : j = 1 := by omega
              subst this; exact h c
          clear h q1
          go_wp2_with fail
          go_roundw
          case rel => exact ⟨1 + 1, by omega, by go_num, (unhide hbel).alloc (unhide hbel).size _, hn2⟩
          case measure => simp [intOf]
      | 2, _ =>
        by_cases h : r = suf 2
        · have hp := hide (unhide q1 2 (by omega) h)
          have hre : (R.toList == [77, 105]) = true := by rw [Lib.toList_data, unhide hrs, h]; rfl
          clear h q1 q2
          go_wp2_with (first | (go_at_call 25; refine (shifted2_any _ _ hb).mono ?_; rintro e w' ⟨he, rfl⟩; subst he))
          go_ret2
          exact ⟨ret_q (unhide hp), below_call (unhide HB) (size_le (unhide HB)) ((unhide hbel).alloc (unhide hbel).size _)⟩
        · have hre : (R.toList == [77, 105]) = false := by rw [Lib.toList_data, unhide hrs]; exact beq_eq_false_iff_ne.2 h
          have hn2 : Hid (∀ j, j < 2 + 1 → ¬ r = suf (4 - j)) := fun j hj c => by
            by_cases e : j < 2
            · exact unhide hno j e c
            · have : j = 2 := by omega
              subst this; exact h c
          clear h q1
          go_wp2_with fail
          go_roundw
          case rel => exact ⟨2 + 1, by omega, by go_num, (unhide hbel).alloc (unhide hbel).size _, hn2⟩
          case measure => simp [intOf]
      | 3, _ =>
        by_cases h : r = suf 1
        · have hp := hide (unhide q1 1 (by omega) h)
          have hre : (R.toList == [75, 105]) = true := by rw [Lib.toList_data, unhide hrs, h]; rfl
          clear h q1 q2
          go_wp2_with (first | (go_at_call 25; refine (shifted1_any _ _ hb).mono ?_; rintro e w' ⟨he, rfl⟩; subst he))
          go_ret2
          exact ⟨ret_q (unhide hp), below_call (unhide HB) (size_le (unhide HB)) ((unhide hbel).alloc (unhide hbel).size _)⟩
        · have hre : (R.toList == [75, 105]) = false := by rw [Lib.toList_data, unhide hrs]; exact beq_eq_false_iff_ne.2 h
          have hn2 : Hid (∀ j, j < 3 + 1 → ¬ r = suf (4 - j)) := fun j hj c => by
            by_cases e : j < 3
            · exact unhide hno j e c
            · have : j = 3 := by omega
              subst this; exact h c
          clear h q1
          go_wp2_with fail
          go_roundw
          case rel => exact ⟨3 + 1, by omega, by go_num, (unhide hbel).alloc (unhide hbel).size _, hn2⟩
          case measure => simp [intOf]
      | 4, _ =>
        by_cases h : r = suf 0
        · have hp := hide (unhide q1 0 (by omega) h)
          have hre : R.toList.isEmpty = true := by rw [Lib.toList_data, unhide hrs, h]; rfl
          clear h q1 q2
          go_wp2_with (first | (go_at_call 25; refine (shifted0_any _ _ hb).mono ?_; rintro e w' ⟨he, rfl⟩; subst he))
          go_ret2
          exact ⟨ret_q (unhide hp), below_call (unhide HB) (size_le (unhide HB)) ((unhide hbel).alloc (unhide hbel).size _)⟩
        · have hre : R.toList.isEmpty = false := by
            rw [Lib.toList_data, unhide hrs]; cases r with
            | nil => exact absurd rfl h
            | cons _ _ => rfl
          have hn2 : Hid (∀ j, j < 4 + 1 → ¬ r = suf (4 - j)) := fun j hj c => by
            by_cases e : j < 4
            · exact unhide hno j e c
            · have : j = 4 := by omega
              subst this; exact h c
          clear h q1
          go_wp2_with fail
          go_roundw
          case rel => exact ⟨4 + 1, by omega, by go_num, (unhide hbel).alloc (unhide hbel).size _, hn2⟩
          case measure => simp [intOf]
      | 5, _ =>
        have hp := hide (unhide q2 (fun k hk c => unhide hno (4 - k) (by omega) (by rw [show 4 - (4 - k) = k by omega]; exact c)))
        clear q1 q2
        go_wp2_with fail
        go_ret2
        exact ⟨ret_p (unhide hp), below_call (unhide HB) (size_le (unhide HB)) (unhide hbel)⟩
  · have HB := hide hw1
    obtain ⟨tt, fr, hg⟩ := ((unhide HL).below hw1).1
    have HG := hide hg
    clear hw1 hg
    have hp := hide (qBytes_no _ hd)
    subst he
    go_wp2_with (refine wpList_load_row rfl 40 _ rfl 0 rfl tt _ fr _ (unhide HG) Tryd.underlying40 rfl unitRow_size ?_)
    go_loopw [16] (fun i W => ∃ k : Nat, k ≤ 5 ∧ i = .int .i64 k ∧ Hid (Below w1.heap.size w1 W)) (fun i _ => 5 - (intOf i).toNat)
    case atStart => exact ⟨0, by omega, rfl, Below.refl _ _⟩
    case round =>
      obtain ⟨k, hk, rfl, hbel⟩ := hrel
      match k, hk with
      | 0, _ =>
        go_wp2_with fail
        go_roundw
        case rel => exact ⟨0 + 1, by omega, by go_num, (unhide hbel).alloc (unhide hbel).size _⟩
        case measure => simp [intOf]
      | 1, _ =>
        go_wp2_with fail
        go_roundw
        case rel => exact ⟨1 + 1, by omega, by go_num, (unhide hbel).alloc (unhide hbel).size _⟩
        case measure => simp [intOf]
      | 2, _ =>
        go_wp2_with fail
        go_roundw
        case rel => exact ⟨2 + 1, by omega, by go_num, (unhide hbel).alloc (unhide hbel).size _⟩
        case measure => simp [intOf]
      | 3, _ =>
        go_wp2_with fail
        go_roundw
        case rel => exact ⟨3 + 1, by omega, by go_num, (unhide hbel).alloc (unhide hbel).size _⟩
        case measure => simp [intOf]
      | 4, _ =>
        go_wp2_with fail
        go_roundw
        case rel => exact ⟨4 + 1, by omega, by go_num, (unhide hbel).alloc (unhide hbel).size _⟩
        case measure => simp [intOf]
      | 5, _ =>
        go_wp2_with fail
        go_ret2
        exact ⟨ret_p (unhide hp), below_call (unhide HB) (size_le (unhide HB)) (unhide hbel)⟩

end Go.Proofs.YtfpbmclahihlkaaDoor
