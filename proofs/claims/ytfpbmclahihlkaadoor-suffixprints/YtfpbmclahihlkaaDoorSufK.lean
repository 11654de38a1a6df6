/- Layer 2: contract of PrintBytes. -/
import Derived.Test.YtfpbmclahihlkaaDoorSufJ
namespace Go.Proofs.YtfpbmclahihlkaaDoor
open Go.RowKit Suf

theorem prBytes_k (n k : Nat) (h : topU n = k) : prBytes n = dec (n / 1024 ^ k) ++ suf k := by
  unfold topU at h
  unfold prBytes
  by_cases h0 : n = 0
  · rw [if_pos h0] at h ⊢; subst h0; subst h; decide
  · rw [if_neg h0] at h ⊢; rw [h]
theorem topU_le (n : Nat) : topU n ≤ 4 := by
  unfold topU; split
  · omega
  · exact topK_le n
theorem keepB {w W w1 : World} {B : Nat} {a b : Value} (h : W.cell? ⟨B, 0, none⟩ = some a ∧ W.cell? ⟨B, 1, none⟩ = some b ∧ Laid W ∧ Below w.heap.size w W) (hb : Below W.heap.size W w1) :
    w1.cell? ⟨B, 0, none⟩ = some a ∧ w1.cell? ⟨B, 1, none⟩ = some b ∧ Laid w1 ∧ Below w.heap.size w w1 :=
  ⟨cell_kept hb h.1, cell_kept hb h.2.1, h.2.2.1.below hb, chain h.2.2.2 hb⟩
theorem startB {w W : World} {a b : Value} {t : TypeId} (hL : Laid W) (hb : Below w.heap.size w W) :
    ((W.alloc (.cells #[a, b] t)).drew).cell? ⟨W.heap.size, 0, none⟩ = some a ∧ ((W.alloc (.cells #[a, b] t)).drew).cell? ⟨W.heap.size, 1, none⟩ = some b ∧ Laid ((W.alloc (.cells #[a, b] t)).drew) ∧ Below w.heap.size w ((W.alloc (.cells #[a, b] t)).drew) :=
  ⟨by simp [go_sem], by simp [go_sem], (hL.alloc _).drew, (hb.alloc hb.size _).drew⟩

set_option maxHeartbeats 2000000 in
theorem printBytes_any (n : Int) (w : World) (hL : Laid w) :
    Calls Tryd.prog 18 #[.int .i64 n] w fun e w' => e = .returned (.tuple #[.string (prOut prBytes n), .int .i64 (chk n)]) ∧ Below w.heap.size w w' := by
  have HL := hide hL
  clear hL
  by_cases h : chk n = 0
  · obtain ⟨m, rfl, hm⟩ := ok_nat h
    have ht : (chk (m : Int) != 0) = false := by rw [h]; rfl
    have ho := hide (prOut_yes prBytes m h)
    have hz := hide h
    clear h
    have hk := topU_le m
    obtain ⟨k, hkk⟩ : ∃ k, topU m = k := ⟨_, rfl⟩
    rw [hkk] at hk
    have HK := hide hkk
    clear hkk
    match k, hk with
    | 0, _ =>
      have ho2 : Hid (prOut prBytes (m : Int) = ⟨(dec m).toArray⟩ ++ ⟨#[]⟩) := by
        show _ = _; rw [unhide ho, prBytes_k m 0 (unhide HK), show 1024 ^ 0 = 1 from rfl]; apply bytes_ext; rw [append_list]
        rw [Nat.div_one]; rfl
      have hadd : ∀ w : World, (Op.stringOp .add ⟨(dec m).toArray⟩ ⟨#[]⟩).run Tryd.prog w = .ok (.string (⟨(dec m).toArray⟩ ++ ⟨#[]⟩)) w := fun w => run_string_add_sum _ _ _ (by
        have := dec_len m (by omega)
        rw [size_list, size_list]; show (dec m).length + 0 ≤ _; omega)
      clear ho
      go_enter Tryd.func18, Tryd.ntmps18
      go_wp2_with (go_at_call 27; refine (check_any _ _).mono ?_; rintro e w' ⟨rfl, rfl⟩)
      refine (unitOf_any m _ hm (unhide HL)).mono ?_
      rintro e w1 ⟨he, hw1⟩
      rw [unhide HK, show unitV 0 = .agg #[.string ⟨#[]⟩, .int .u64 0] from rfl] at he
      subst he
      have HB := hide hw1
      have HL1 := hide ((unhide HL).below hw1)
      clear hw1 HL HK
      go_wp2_with fail
      go_region_held3 (fun W => W.cell? ⟨w1.heap.size, 0, none⟩ = some (.string ⟨#[]⟩) ∧ W.cell? ⟨w1.heap.size, 1, none⟩ = some (.int .u64 0) ∧ Laid W ∧ Below w'.heap.size w' W)
        (first | exact startB (unhide HL1) (unhide HB) | exact keepB ‹_› hw2 | assumption)
        (first | (go_at_call 28; refine (decimal_any _ _ ?_ ((unhide HL1).alloc _).drew).mono ?_; omega; rintro e w2 ⟨rfl, hw2⟩))
      rename_i hH
      go_wp2_with fail
      go_ret2
      exact ⟨ret_strpair (unhide ho2).symm (unhide hz).symm, hH.2.2.2⟩
    | 1, _ =>
      have ho2 : Hid (prOut prBytes (m : Int) = ⟨(dec (m / 1024)).toArray⟩ ++ ⟨#[75, 105]⟩) := by
        show _ = _; rw [unhide ho, prBytes_k m 1 (unhide HK), show 1024 ^ 1 = 1024 from rfl]; apply bytes_ext; rw [append_list]
        rfl
      have hadd : ∀ w : World, (Op.stringOp .add ⟨(dec (m / 1024)).toArray⟩ ⟨#[75, 105]⟩).run Tryd.prog w = .ok (.string (⟨(dec (m / 1024)).toArray⟩ ++ ⟨#[75, 105]⟩)) w := fun w => run_string_add_sum _ _ _ (by
        have := dec_len (m / 1024) (by omega)
        rw [size_list, size_list]; show (dec (m / 1024)).length + 2 ≤ _; omega)
      have hq : Hid (((m : Int) / 1024).toNat = m / 1024) := by show _ = _; omega
      clear ho
      go_enter Tryd.func18, Tryd.ntmps18
      go_wp2_with (go_at_call 27; refine (check_any _ _).mono ?_; rintro e w' ⟨rfl, rfl⟩)
      refine (unitOf_any m _ hm (unhide HL)).mono ?_
      rintro e w1 ⟨he, hw1⟩
      rw [unhide HK, show unitV 1 = .agg #[.string ⟨#[75, 105]⟩, .int .u64 10] from rfl] at he
      subst he
      have HB := hide hw1
      have HL1 := hide ((unhide HL).below hw1)
      clear hw1 HL HK
      go_wp2_with fail
      go_region_held3 (fun W => W.cell? ⟨w1.heap.size, 0, none⟩ = some (.string ⟨#[75, 105]⟩) ∧ W.cell? ⟨w1.heap.size, 1, none⟩ = some (.int .u64 10) ∧ Laid W ∧ Below w'.heap.size w' W)
        (first | exact startB (unhide HL1) (unhide HB) | exact keepB ‹_› hw2 | assumption)
        (first | (go_at_call 28; refine (decimalZ_any _ _ ?_ ?_ ((unhide HL1).alloc _).drew).mono ?_; omega; omega; rintro e w2 ⟨he, hw2⟩; rw [unhide hq] at he; subst he))
      rename_i hH
      go_wp2_with fail
      go_ret2
      exact ⟨ret_strpair (unhide ho2).symm (unhide hz).symm, hH.2.2.2⟩
    | 2, _ =>
      have ho2 : Hid (prOut prBytes (m : Int) = ⟨(dec (m / 1048576)).toArray⟩ ++ ⟨#[77, 105]⟩) := by
        show _ = _; rw [unhide ho, prBytes_k m 2 (unhide HK), show 1024 ^ 2 = 1048576 from rfl]; apply bytes_ext; rw [append_list]
        rfl
      have hadd : ∀ w : World, (Op.stringOp .add ⟨(dec (m / 1048576)).toArray⟩ ⟨#[77, 105]⟩).run Tryd.prog w = .ok (.string (⟨(dec (m / 1048576)).toArray⟩ ++ ⟨#[77, 105]⟩)) w := fun w => run_string_add_sum _ _ _ (by
        have := dec_len (m / 1048576) (by omega)
        rw [size_list, size_list]; show (dec (m / 1048576)).length + 2 ≤ _; omega)
      have hq : Hid (((m : Int) / 1048576).toNat = m / 1048576) := by show _ = _; omega
      clear ho
      go_enter Tryd.func18, Tryd.ntmps18
      go_wp2_with (go_at_call 27; refine (check_any _ _).mono ?_; rintro e w' ⟨rfl, rfl⟩)
      refine (unitOf_any m _ hm (unhide HL)).mono ?_
      rintro e w1 ⟨he, hw1⟩
      rw [unhide HK, show unitV 2 = .agg #[.string ⟨#[77, 105]⟩, .int .u64 20] from rfl] at he
      subst he
      have HB := hide hw1
      have HL1 := hide ((unhide HL).below hw1)
      clear hw1 HL HK
      go_wp2_with fail
      go_region_held3 (fun W => W.cell? ⟨w1.heap.size, 0, none⟩ = some (.string ⟨#[77, 105]⟩) ∧ W.cell? ⟨w1.heap.size, 1, none⟩ = some (.int .u64 20) ∧ Laid W ∧ Below w'.heap.size w' W)
        (first | exact startB (unhide HL1) (unhide HB) | exact keepB ‹_› hw2 | assumption)
        (first | (go_at_call 28; refine (decimalZ_any _ _ ?_ ?_ ((unhide HL1).alloc _).drew).mono ?_; omega; omega; rintro e w2 ⟨he, hw2⟩; rw [unhide hq] at he; subst he))
      rename_i hH
      go_wp2_with fail
      go_ret2
      exact ⟨ret_strpair (unhide ho2).symm (unhide hz).symm, hH.2.2.2⟩
    | 3, _ =>
      have ho2 : Hid (prOut prBytes (m : Int) = ⟨(dec (m / 1073741824)).toArray⟩ ++ ⟨#[71, 105]⟩) := by
        show _ = _; rw [unhide ho, prBytes_k m 3 (unhide HK), show 1024 ^ 3 = 1073741824 from rfl]; apply bytes_ext; rw [append_list]
        rfl
      have hadd : ∀ w : World, (Op.stringOp .add ⟨(dec (m / 1073741824)).toArray⟩ ⟨#[71, 105]⟩).run Tryd.prog w = .ok (.string (⟨(dec (m / 1073741824)).toArray⟩ ++ ⟨#[71, 105]⟩)) w := fun w => run_string_add_sum _ _ _ (by
        have := dec_len (m / 1073741824) (by omega)
        rw [size_list, size_list]; show (dec (m / 1073741824)).length + 2 ≤ _; omega)
      have hq : Hid (((m : Int) / 1073741824).toNat = m / 1073741824) := by show _ = _; omega
      clear ho
      go_enter Tryd.func18, Tryd.ntmps18
      go_wp2_with (go_at_call 27; refine (check_any _ _).mono ?_; rintro e w' ⟨rfl, rfl⟩)
      refine (unitOf_any m _ hm (unhide HL)).mono ?_
      rintro e w1 ⟨he, hw1⟩
      rw [unhide HK, show unitV 3 = .agg #[.string ⟨#[71, 105]⟩, .int .u64 30] from rfl] at he
      subst he
      have HB := hide hw1
      have HL1 := hide ((unhide HL).below hw1)
      clear hw1 HL HK
      go_wp2_with fail
      go_region_held3 (fun W => W.cell? ⟨w1.heap.size, 0, none⟩ = some (.string ⟨#[71, 105]⟩) ∧ W.cell? ⟨w1.heap.size, 1, none⟩ = some (.int .u64 30) ∧ Laid W ∧ Below w'.heap.size w' W)
        (first | exact startB (unhide HL1) (unhide HB) | exact keepB ‹_› hw2 | assumption)
        (first | (go_at_call 28; refine (decimalZ_any _ _ ?_ ?_ ((unhide HL1).alloc _).drew).mono ?_; omega; omega; rintro e w2 ⟨he, hw2⟩; rw [unhide hq] at he; subst he))
      rename_i hH
      go_wp2_with fail
      go_ret2
      exact ⟨ret_strpair (unhide ho2).symm (unhide hz).symm, hH.2.2.2⟩
    | 4, _ =>
      have ho2 : Hid (prOut prBytes (m : Int) = ⟨(dec (m / 1099511627776)).toArray⟩ ++ ⟨#[84, 105]⟩) := by
        show _ = _; rw [unhide ho, prBytes_k m 4 (unhide HK), show 1024 ^ 4 = 1099511627776 from rfl]; apply bytes_ext; rw [append_list]
        rfl
      have hadd : ∀ w : World, (Op.stringOp .add ⟨(dec (m / 1099511627776)).toArray⟩ ⟨#[84, 105]⟩).run Tryd.prog w = .ok (.string (⟨(dec (m / 1099511627776)).toArray⟩ ++ ⟨#[84, 105]⟩)) w := fun w => run_string_add_sum _ _ _ (by
        have := dec_len (m / 1099511627776) (by omega)
        rw [size_list, size_list]; show (dec (m / 1099511627776)).length + 2 ≤ _; omega)
      have hq : Hid (((m : Int) / 1099511627776).toNat = m / 1099511627776) := by show _ = _; omega
      clear ho
      go_enter Tryd.func18, Tryd.ntmps18
      go_wp2_with (go_at_call 27; refine (check_any _ _).mono ?_; rintro e w' ⟨rfl, rfl⟩)
      refine (unitOf_any m _ hm (unhide HL)).mono ?_
      rintro e w1 ⟨he, hw1⟩
      rw [unhide HK, show unitV 4 = .agg #[.string ⟨#[84, 105]⟩, .int .u64 40] from rfl] at he
      subst he
      have HB := hide hw1
      have HL1 := hide ((unhide HL).below hw1)
      clear hw1 HL HK
      go_wp2_with fail
      go_region_held3 (fun W => W.cell? ⟨w1.heap.size, 0, none⟩ = some (.string ⟨#[84, 105]⟩) ∧ W.cell? ⟨w1.heap.size, 1, none⟩ = some (.int .u64 40) ∧ Laid W ∧ Below w'.heap.size w' W)
        (first | exact startB (unhide HL1) (unhide HB) | exact keepB ‹_› hw2 | assumption)
        (first | (go_at_call 28; refine (decimalZ_any _ _ ?_ ?_ ((unhide HL1).alloc _).drew).mono ?_; omega; omega; rintro e w2 ⟨he, hw2⟩; rw [unhide hq] at he; subst he))
      rename_i hH
      go_wp2_with fail
      go_ret2
      exact ⟨ret_strpair (unhide ho2).symm (unhide hz).symm, hH.2.2.2⟩
  · have ht : (chk n != 0) = true := bne_iff_ne.2 h
    have ho := hide (prOut_no prBytes n h)
    clear h
    go_enter Tryd.func18, Tryd.ntmps18
    go_wp2_with (go_at_call 27; refine (check_any _ _).mono ?_; rintro e w' ⟨rfl, rfl⟩)
    go_ret2
    exact ⟨ret_strpair (unhide ho).symm rfl, Below.refl _ _⟩

end Go.Proofs.YtfpbmclahihlkaaDoor
