/- Layer 2: contracts of the document's ParseCPU and ParseBytes. -/
import Derived.Test.YtfpbmclahihlkaaDoorSufP
namespace Go.Proofs.YtfpbmclahihlkaaDoor
open Go.RowKit Suf

theorem lastIs_ends (l : List UInt8) (c : UInt8) : lastIs l c = endsW l [c] := by
  cases h : endsW l [c] with
  | true =>
    have e := ends_split l [c] h
    rw [e, lastIs_snoc]; simp
  | false =>
    cases h2 : lastIs l c with
    | false => rfl
    | true =>
      have e := lastIs_true l c h2
      rw [e, ends_same] at h; cases h
theorem dropLast_front (l : List UInt8) (c : UInt8) : l.dropLast = front l [c] := by
  unfold front; rw [List.dropLast_eq_take]; rfl
theorem extract_le (s : ByteArray) (k : Nat) (h : s.size ≤ maxLen) : (s.extract 0 k).size ≤ maxLen := by
  rw [ByteArray.size_extract]; omega
theorem digs_small (l : List UInt8) (h : digs l = true) : val l < 1000000000000000000 := by
  have := digs_all_of l h; exact val_bound18 l this.2 this.1

set_option maxHeartbeats 1000000 in
theorem rparseCPU_any (s : ByteArray) (w : World) (hs : s.size ≤ maxLen) :
    Calls Tryd.prog 13 #[.string s] w fun e w' => e = .returned (.tuple #[.int .i64 (pCPU s.data.toList).1, .int .i64 (pCPU s.data.toList).2]) ∧ w' = w := by
  have hfr := front_take s ⟨#[109]⟩
  have HS := hide hs
  have hd0 := hide (extract_le s (s.size - 1) hs)
  go_enter Tryd.func13, Tryd.ntmps13
  go_wp2_with fail
  refine (without_any s ⟨#[109]⟩ _ hs (by decide)).mono ?_
  rintro e w1 ⟨⟨hd, he⟩ | ⟨hd, he⟩, rfl⟩
  · have hl : lastIs s.data.toList 109 = true := (lastIs_ends _ _).trans hd
    rw [show (ByteArray.mk #[109]).size = 1 from rfl] at he hfr
    have hp : Hid (pCPU s.data.toList = if digs (s.extract 0 (s.size - 1)).data.toList then times (val (s.extract 0 (s.size - 1)).data.toList) 1 else (0, 20)) := by
      show _ = _
      unfold pCPU
      rw [if_pos hl, hfr, dropLast_front _ 109]; rfl
    obtain ⟨R, hR⟩ : ∃ R, R = s.extract 0 (s.size - 1) := ⟨_, rfl⟩
    rw [← hR] at he hp hd0
    clear hR hd hl hfr hs
    subst he
    go_wp2_with fail
    refine (digits_any R _ (unhide hd0)).mono ?_
    rintro e w2 ⟨⟨hd, he⟩ | ⟨hd, he⟩, rfl⟩
    · have hb := digs_small _ hd
      have hp2 : Hid (pCPU s.data.toList = times (val R.data.toList) 1) := (unhide hp).trans (if_pos hd)
      clear hp hd
      generalize val R.data.toList = n at *
      subst he
      go_wp2_with (go_at_call 32; refine (rtimes1_any _ _ hb).mono ?_; rintro e w' ⟨rfl, rfl⟩)
      go_ret2
      exact ⟨ret_q (unhide hp2), rfl⟩
    · have hp2 : Hid (pCPU s.data.toList = (0, 20)) := (unhide hp).trans (by rw [hd]; rfl)
      clear hp hd
      subst he
      go_wp2_with fail
      go_ret2
      exact ⟨ret_p (unhide hp2), rfl⟩
  · have hl : lastIs s.data.toList 109 = false := (lastIs_ends _ _).trans hd
    have hp : Hid (pCPU s.data.toList = if digs s.data.toList then times (val s.data.toList) 1000 else (0, 20)) := by
      show _ = _
      unfold pCPU
      rw [hl]; rfl
    clear hd hl hfr hs
    subst he
    go_wp2_with fail
    refine (digits_any s _ (unhide HS)).mono ?_
    rintro e w2 ⟨⟨hd, he⟩ | ⟨hd, he⟩, rfl⟩
    · have hb := digs_small _ hd
      have hp2 : Hid (pCPU s.data.toList = times (val s.data.toList) 1000) := (unhide hp).trans (if_pos hd)
      clear hp hd
      obtain ⟨n, hn⟩ : ∃ n, n = val s.data.toList := ⟨_, rfl⟩
      rw [← hn] at he hb hp2
      clear hn
      subst he
      go_wp2_with (go_at_call 32; refine (rtimes3_any _ _ hb).mono ?_; rintro e w' ⟨rfl, rfl⟩)
      go_ret2
      exact ⟨ret_q (unhide hp2), rfl⟩
    · have hp2 : Hid (pCPU s.data.toList = (0, 20)) := (unhide hp).trans (by rw [hd]; rfl)
      clear hp hd
      subst he
      go_wp2_with fail
      go_ret2
      exact ⟨ret_p (unhide hp2), rfl⟩

end Go.Proofs.YtfpbmclahihlkaaDoor
