/- Layer 2: contract of the document's ParseBytes. -/
import Derived.Test.YtfpbmclahihlkaaDoorSufQ
namespace Go.Proofs.YtfpbmclahihlkaaDoor
open Go.RowKit Suf

/-- What is still to be read behind so many suffixes. -/
def pF (l : List UInt8) : Nat → Int × Int
  | 0 => pB l 4
  | 1 => pB l 3
  | 2 => pB l 2
  | 3 => pB l 1
  | 4 => pB l 0
  | _ => form
theorem pB_yes (l : List UInt8) (k : Nat) (h : endsW l (suf (k + 1)) = true) (hd : digs (front l (suf (k + 1))) = true) : pB l (k + 1) = times (val (front l (suf (k + 1)))) (1024 ^ (k + 1)) := by
  show (if endsW l (suf (k + 1)) && digs (front l (suf (k + 1))) then _ else _) = _
  rw [h, hd]; rfl
theorem pB_no (l : List UInt8) (k : Nat) (h : endsW l (suf (k + 1)) = false ∨ digs (front l (suf (k + 1))) = false) : pB l (k + 1) = pB l k := by
  show (if endsW l (suf (k + 1)) && digs (front l (suf (k + 1))) then _ else _) = _
  rcases h with h | h
  · rw [h, Bool.false_and]; rfl
  · rw [h, Bool.and_false]; rfl
theorem front_nil (l : List UInt8) : front l [] = l := by unfold front; simp
theorem pB_yesR (l r e : List UInt8) (k : Nat) (he : e = suf (k + 1)) (hr : r = front l e) (h : endsW l e = true) (hd : digs r = true) : pB l (k + 1) = times (val r) (1024 ^ (k + 1)) := by
  subst he hr; exact pB_yes l k h hd
theorem pB_noR (l r e : List UInt8) (k : Nat) (he : e = suf (k + 1)) (hr : r = front l e) (hd : digs r = false) : pB l (k + 1) = pB l k := by
  subst he hr; exact pB_no l k (Or.inr hd)
theorem pB_zero (l r : List UInt8) (hr : r = front l []) : pB l 0 = if digs r then times (val r) 1 else form := by
  rw [front_nil] at hr; subst hr; rfl
theorem ends_nil (l : List UInt8) : endsW l [] = true := by unfold endsW; simp

set_option maxHeartbeats 4000000 in
theorem rparseBytes_any (s : ByteArray) (w : World) (hs : s.size ≤ maxLen) :
    Calls Tryd.prog 14 #[.string s] w fun e w' => e = .returned (.tuple #[.int .i64 (pBytes s.data.toList).1, .int .i64 (pBytes s.data.toList).2]) ∧ Below w.heap.size w w' := by
  have HS := hide hs
  clear hs
  have HP := hide (show pBytes s.data.toList = pF s.data.toList 0 from rfl)
  generalize pBytes s.data.toList = PB at HP
  go_enter Tryd.func14, Tryd.ntmps14
  go_wp2_with fail
  refine (ends_any _).mono ?_
  rintro e w1 ⟨he, hw⟩
  subst he
  have HB : Hid (Below w.heap.size w w1) := by rw [hw]; exact (Below.refl _ _).alloc (Nat.le_refl _) _
  have c0 : w1.cell? ⟨w.heap.size, 0, none⟩ = some (.string ⟨#[]⟩) := by rw [hw]; simp [go_sem]
  have c1 : w1.cell? ⟨w.heap.size, 1, none⟩ = some (.string ⟨#[75, 105]⟩) := by rw [hw]; simp [go_sem]
  have c2 : w1.cell? ⟨w.heap.size, 2, none⟩ = some (.string ⟨#[77, 105]⟩) := by rw [hw]; simp [go_sem]
  have c3 : w1.cell? ⟨w.heap.size, 3, none⟩ = some (.string ⟨#[71, 105]⟩) := by rw [hw]; simp [go_sem]
  have c4 : w1.cell? ⟨w.heap.size, 4, none⟩ = some (.string ⟨#[84, 105]⟩) := by rw [hw]; simp [go_sem]
  clear hw
  go_wp2_with fail
  go_loop [5] (fun i => ∃ j : Nat, j ≤ 5 ∧ i = .int .i64 (4 - (j : Int)) ∧ Hid (PB = pF s.data.toList j)) (fun i => ((intOf i) + 1).toNat)
  case atStart => exact ⟨0, by omega, rfl, HP⟩
  case round =>
    clear HP
    obtain ⟨j, hj, rfl, HP⟩ := hrel
    match j, hj with
    | 0, _ =>
      have hfr := front_take s ⟨#[84, 105]⟩
      have hsz := hide (extract_le s (s.size - (ByteArray.mk #[84, 105]).size) (unhide HS))
      go_wp2_with fail
      refine (without_any s ⟨#[84, 105]⟩ _ (unhide HS) (by decide)).mono ?_
      rintro e w2 ⟨⟨hd, he⟩ | ⟨hd, he⟩, rfl⟩
      · obtain ⟨R, hR⟩ : ∃ R, R = s.extract 0 (s.size - (ByteArray.mk #[84, 105]).size) := ⟨_, rfl⟩
        rw [← hR] at he hfr hsz
        clear hR
        have HF := hide hfr
        have HDD := hide hd
        clear hfr hd
        subst he
        go_wp2_with fail
        refine (digits_any R _ (unhide hsz)).mono ?_
        rintro e w3 ⟨⟨hd2, he⟩ | ⟨hd2, he⟩, rfl⟩
        · have hb := digs_small _ hd2
          have hp2 : Hid (PB = times (val R.data.toList) 1099511627776) := by
            have hfr := unhide HF
            have hd := unhide HDD
            exact (unhide HP).trans (pB_yesR s.data.toList R.data.toList _ 3 rfl hfr hd hd2)
          clear hd2 HF HDD
          obtain ⟨n, hn⟩ : ∃ n, n = val R.data.toList := ⟨_, rfl⟩
          rw [← hn] at he hb hp2
          clear hn
          subst he
          go_wp2_with fail
          refine (power_any 4 _ (by omega)).mono ?_
          rintro e w4 ⟨he, rfl⟩
          rw [show pw 4 = 1099511627776 from rfl] at he
          subst he
          go_wp2_with fail
          refine (rtimesk4_any _ _ hb).mono ?_
          rintro e w5 ⟨rfl, rfl⟩
          go_wp2_with fail
          go_ret2
          exact ⟨ret_q (unhide hp2), unhide HB⟩
        · have hp2 : Hid (PB = pF s.data.toList 1) := by
            have hfr := unhide HF
            exact (unhide HP).trans (pB_noR s.data.toList R.data.toList _ 3 rfl hfr hd2)
          clear hd2 HF HDD
          subst he
          go_wp2_with fail
          go_round
          case rel => exact ⟨0 + 1, by omega, by go_num, hp2⟩
          case measure => simp [intOf]
      · have hp2 : Hid (PB = pF s.data.toList 1) := (unhide HP).trans (pB_no s.data.toList 3 (Or.inl hd))
        clear hd hfr
        subst he
        go_wp2_with fail
        refine (digits_any s _ (unhide HS)).mono ?_
        rintro e w3 ⟨⟨hd2, he⟩ | ⟨hd2, he⟩, rfl⟩
        · clear hd2
          obtain ⟨n, hn⟩ : ∃ n, n = val s.data.toList := ⟨_, rfl⟩
          rw [← hn] at he
          clear hn
          subst he
          go_wp2_with fail
          go_round
          case rel => exact ⟨0 + 1, by omega, by go_num, hp2⟩
          case measure => simp [intOf]
        · clear hd2
          subst he
          go_wp2_with fail
          go_round
          case rel => exact ⟨0 + 1, by omega, by go_num, hp2⟩
          case measure => simp [intOf]
    | 1, _ =>
      have hfr := front_take s ⟨#[71, 105]⟩
      have hsz := hide (extract_le s (s.size - (ByteArray.mk #[71, 105]).size) (unhide HS))
      go_wp2_with fail
      refine (without_any s ⟨#[71, 105]⟩ _ (unhide HS) (by decide)).mono ?_
      rintro e w2 ⟨⟨hd, he⟩ | ⟨hd, he⟩, rfl⟩
      · obtain ⟨R, hR⟩ : ∃ R, R = s.extract 0 (s.size - (ByteArray.mk #[71, 105]).size) := ⟨_, rfl⟩
        rw [← hR] at he hfr hsz
        clear hR
        have HF := hide hfr
        have HDD := hide hd
        clear hfr hd
        subst he
        go_wp2_with fail
        refine (digits_any R _ (unhide hsz)).mono ?_
        rintro e w3 ⟨⟨hd2, he⟩ | ⟨hd2, he⟩, rfl⟩
        · have hb := digs_small _ hd2
          have hp2 : Hid (PB = times (val R.data.toList) 1073741824) := by
            have hfr := unhide HF
            have hd := unhide HDD
            exact (unhide HP).trans (pB_yesR s.data.toList R.data.toList _ 2 rfl hfr hd hd2)
          clear hd2 HF HDD
          obtain ⟨n, hn⟩ : ∃ n, n = val R.data.toList := ⟨_, rfl⟩
          rw [← hn] at he hb hp2
          clear hn
          subst he
          go_wp2_with fail
          refine (power_any 3 _ (by omega)).mono ?_
          rintro e w4 ⟨he, rfl⟩
          rw [show pw 3 = 1073741824 from rfl] at he
          subst he
          go_wp2_with fail
          refine (rtimesk3_any _ _ hb).mono ?_
          rintro e w5 ⟨rfl, rfl⟩
          go_wp2_with fail
          go_ret2
          exact ⟨ret_q (unhide hp2), unhide HB⟩
        · have hp2 : Hid (PB = pF s.data.toList 2) := by
            have hfr := unhide HF
            exact (unhide HP).trans (pB_noR s.data.toList R.data.toList _ 2 rfl hfr hd2)
          clear hd2 HF HDD
          subst he
          go_wp2_with fail
          go_round
          case rel => exact ⟨1 + 1, by omega, by go_num, hp2⟩
          case measure => simp [intOf]
      · have hp2 : Hid (PB = pF s.data.toList 2) := (unhide HP).trans (pB_no s.data.toList 2 (Or.inl hd))
        clear hd hfr
        subst he
        go_wp2_with fail
        refine (digits_any s _ (unhide HS)).mono ?_
        rintro e w3 ⟨⟨hd2, he⟩ | ⟨hd2, he⟩, rfl⟩
        · clear hd2
          obtain ⟨n, hn⟩ : ∃ n, n = val s.data.toList := ⟨_, rfl⟩
          rw [← hn] at he
          clear hn
          subst he
          go_wp2_with fail
          go_round
          case rel => exact ⟨1 + 1, by omega, by go_num, hp2⟩
          case measure => simp [intOf]
        · clear hd2
          subst he
          go_wp2_with fail
          go_round
          case rel => exact ⟨1 + 1, by omega, by go_num, hp2⟩
          case measure => simp [intOf]
    | 2, _ =>
      have hfr := front_take s ⟨#[77, 105]⟩
      have hsz := hide (extract_le s (s.size - (ByteArray.mk #[77, 105]).size) (unhide HS))
      go_wp2_with fail
      refine (without_any s ⟨#[77, 105]⟩ _ (unhide HS) (by decide)).mono ?_
      rintro e w2 ⟨⟨hd, he⟩ | ⟨hd, he⟩, rfl⟩
      · obtain ⟨R, hR⟩ : ∃ R, R = s.extract 0 (s.size - (ByteArray.mk #[77, 105]).size) := ⟨_, rfl⟩
        rw [← hR] at he hfr hsz
        clear hR
        have HF := hide hfr
        have HDD := hide hd
        clear hfr hd
        subst he
        go_wp2_with fail
        refine (digits_any R _ (unhide hsz)).mono ?_
        rintro e w3 ⟨⟨hd2, he⟩ | ⟨hd2, he⟩, rfl⟩
        · have hb := digs_small _ hd2
          have hp2 : Hid (PB = times (val R.data.toList) 1048576) := by
            have hfr := unhide HF
            have hd := unhide HDD
            exact (unhide HP).trans (pB_yesR s.data.toList R.data.toList _ 1 rfl hfr hd hd2)
          clear hd2 HF HDD
          obtain ⟨n, hn⟩ : ∃ n, n = val R.data.toList := ⟨_, rfl⟩
          rw [← hn] at he hb hp2
          clear hn
          subst he
          go_wp2_with fail
          refine (power_any 2 _ (by omega)).mono ?_
          rintro e w4 ⟨he, rfl⟩
          rw [show pw 2 = 1048576 from rfl] at he
          subst he
          go_wp2_with fail
          refine (rtimesk2_any _ _ hb).mono ?_
          rintro e w5 ⟨rfl, rfl⟩
          go_wp2_with fail
          go_ret2
          exact ⟨ret_q (unhide hp2), unhide HB⟩
        · have hp2 : Hid (PB = pF s.data.toList 3) := by
            have hfr := unhide HF
            exact (unhide HP).trans (pB_noR s.data.toList R.data.toList _ 1 rfl hfr hd2)
          clear hd2 HF HDD
          subst he
          go_wp2_with fail
          go_round
          case rel => exact ⟨2 + 1, by omega, by go_num, hp2⟩
          case measure => simp [intOf]
      · have hp2 : Hid (PB = pF s.data.toList 3) := (unhide HP).trans (pB_no s.data.toList 1 (Or.inl hd))
        clear hd hfr
        subst he
        go_wp2_with fail
        refine (digits_any s _ (unhide HS)).mono ?_
        rintro e w3 ⟨⟨hd2, he⟩ | ⟨hd2, he⟩, rfl⟩
        · clear hd2
          obtain ⟨n, hn⟩ : ∃ n, n = val s.data.toList := ⟨_, rfl⟩
          rw [← hn] at he
          clear hn
          subst he
          go_wp2_with fail
          go_round
          case rel => exact ⟨2 + 1, by omega, by go_num, hp2⟩
          case measure => simp [intOf]
        · clear hd2
          subst he
          go_wp2_with fail
          go_round
          case rel => exact ⟨2 + 1, by omega, by go_num, hp2⟩
          case measure => simp [intOf]
    | 3, _ =>
      have hfr := front_take s ⟨#[75, 105]⟩
      have hsz := hide (extract_le s (s.size - (ByteArray.mk #[75, 105]).size) (unhide HS))
      go_wp2_with fail
      refine (without_any s ⟨#[75, 105]⟩ _ (unhide HS) (by decide)).mono ?_
      rintro e w2 ⟨⟨hd, he⟩ | ⟨hd, he⟩, rfl⟩
      · obtain ⟨R, hR⟩ : ∃ R, R = s.extract 0 (s.size - (ByteArray.mk #[75, 105]).size) := ⟨_, rfl⟩
        rw [← hR] at he hfr hsz
        clear hR
        have HF := hide hfr
        have HDD := hide hd
        clear hfr hd
        subst he
        go_wp2_with fail
        refine (digits_any R _ (unhide hsz)).mono ?_
        rintro e w3 ⟨⟨hd2, he⟩ | ⟨hd2, he⟩, rfl⟩
        · have hb := digs_small _ hd2
          have hp2 : Hid (PB = times (val R.data.toList) 1024) := by
            have hfr := unhide HF
            have hd := unhide HDD
            exact (unhide HP).trans (pB_yesR s.data.toList R.data.toList _ 0 rfl hfr hd hd2)
          clear hd2 HF HDD
          obtain ⟨n, hn⟩ : ∃ n, n = val R.data.toList := ⟨_, rfl⟩
          rw [← hn] at he hb hp2
          clear hn
          subst he
          go_wp2_with fail
          refine (power_any 1 _ (by omega)).mono ?_
          rintro e w4 ⟨he, rfl⟩
          rw [show pw 1 = 1024 from rfl] at he
          subst he
          go_wp2_with fail
          refine (rtimesk1_any _ _ hb).mono ?_
          rintro e w5 ⟨rfl, rfl⟩
          go_wp2_with fail
          go_ret2
          exact ⟨ret_q (unhide hp2), unhide HB⟩
        · have hp2 : Hid (PB = pF s.data.toList 4) := by
            have hfr := unhide HF
            exact (unhide HP).trans (pB_noR s.data.toList R.data.toList _ 0 rfl hfr hd2)
          clear hd2 HF HDD
          subst he
          go_wp2_with fail
          go_round
          case rel => exact ⟨3 + 1, by omega, by go_num, hp2⟩
          case measure => simp [intOf]
      · have hp2 : Hid (PB = pF s.data.toList 4) := (unhide HP).trans (pB_no s.data.toList 0 (Or.inl hd))
        clear hd hfr
        subst he
        go_wp2_with fail
        refine (digits_any s _ (unhide HS)).mono ?_
        rintro e w3 ⟨⟨hd2, he⟩ | ⟨hd2, he⟩, rfl⟩
        · clear hd2
          obtain ⟨n, hn⟩ : ∃ n, n = val s.data.toList := ⟨_, rfl⟩
          rw [← hn] at he
          clear hn
          subst he
          go_wp2_with fail
          go_round
          case rel => exact ⟨3 + 1, by omega, by go_num, hp2⟩
          case measure => simp [intOf]
        · clear hd2
          subst he
          go_wp2_with fail
          go_round
          case rel => exact ⟨3 + 1, by omega, by go_num, hp2⟩
          case measure => simp [intOf]
    | 4, _ =>
      have hfr := front_take s ⟨#[]⟩
      have hsz := hide (extract_le s (s.size - (ByteArray.mk #[]).size) (unhide HS))
      go_wp2_with fail
      refine (without_any s ⟨#[]⟩ _ (unhide HS) (by decide)).mono ?_
      rintro e w2 ⟨⟨hd, he⟩ | ⟨hd, he⟩, rfl⟩
      · obtain ⟨R, hR⟩ : ∃ R, R = s.extract 0 (s.size - (ByteArray.mk #[]).size) := ⟨_, rfl⟩
        rw [← hR] at he hfr hsz
        clear hR
        have HF := hide hfr
        have HDD := hide hd
        clear hfr hd
        subst he
        go_wp2_with fail
        refine (digits_any R _ (unhide hsz)).mono ?_
        rintro e w3 ⟨⟨hd2, he⟩ | ⟨hd2, he⟩, rfl⟩
        · have hb := digs_small _ hd2
          have hp2 : Hid (PB = times (val R.data.toList) 1) := by
            have hfr := unhide HF
            exact (unhide HP).trans ((pB_zero s.data.toList R.data.toList hfr).trans (if_pos hd2))
          clear hd2 HF HDD
          obtain ⟨n, hn⟩ : ∃ n, n = val R.data.toList := ⟨_, rfl⟩
          rw [← hn] at he hb hp2
          clear hn
          subst he
          go_wp2_with fail
          refine (power_any 0 _ (by omega)).mono ?_
          rintro e w4 ⟨he, rfl⟩
          rw [show pw 0 = 1 from rfl] at he
          subst he
          go_wp2_with fail
          refine (rtimes1_any _ _ hb).mono ?_
          rintro e w5 ⟨rfl, rfl⟩
          go_wp2_with fail
          go_ret2
          exact ⟨ret_q (unhide hp2), unhide HB⟩
        · have hp2 : Hid (PB = pF s.data.toList 5) := by
            have hfr := unhide HF
            exact (unhide HP).trans ((pB_zero s.data.toList R.data.toList hfr).trans (by rw [hd2]; rfl))
          clear hd2 HF HDD
          subst he
          go_wp2_with fail
          go_round
          case rel => exact ⟨4 + 1, by omega, by go_num, hp2⟩
          case measure => simp [intOf]
      · exact absurd ((ends_nil s.data.toList).symm.trans hd) (by decide)
    | 5, _ =>
      have hp2 : Hid (PB = (0, 20)) := unhide HP
      go_wp2_with fail
      go_ret2
      exact ⟨ret_p (unhide hp2), unhide HB⟩

end Go.Proofs.YtfpbmclahihlkaaDoor
