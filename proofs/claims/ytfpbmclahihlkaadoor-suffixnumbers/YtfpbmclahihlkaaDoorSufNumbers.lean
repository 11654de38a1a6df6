/- Proved: SuffixNumbers returns true for every input. No condition but what the card's own print says of the listed variables. -/
import Derived.Test.YtfpbmclahihlkaaDoorSufL
import Derived.Test.YtfpbmclahihlkaaDoorTie
import Derived.Test.YtfpbmclahihlkaaDoorCards
import Derived.SevenTiedAt
import Derived.Lay
namespace Go.Proofs.YtfpbmclahihlkaaDoor.suffixNumbers
open Go.ChangeShapes Go.WideShapes Go.ChangeAt Go.RowKit Suf

set_option maxHeartbeats 1000000 in
theorem walk (w : World) (hL : Laid w) : Calls Tryd.prog 3 #[] w fun e w' => e = .returned (.bool true) ∧ Below w.heap.size w w' := by
  have HL := hide hL
  clear hL
  have e1 := hide (show pCPU [48, 50] = (0, 20) by decide)
  have e2 := hide (show pBytes [49, 48, 50, 53, 84, 105] = (0, 10) by decide)
  have e3 := hide (show pBytes [49, 48, 50, 52, 84, 105] = (1125899906842624, 0) by decide)
  have e4 := hide (show pMoney [49, 46, 48, 48, 48, 48, 48, 48, 48] = (0, 20) by decide)
  have e5 := hide (show prOut prMoney (-1) = ⟨#[]⟩ by decide)
  have c5 := hide (show chk (-1) = 11 by decide)
  go_enter Tryd.func3, Tryd.ntmps3
  go_wp2_with fail
  refine (parseCPU_any _ _ (by decide)).mono ?_
  rintro e w1 ⟨he, hw1⟩
  rw [show (ByteArray.mk #[48, 50]).data.toList = [48, 50] from rfl, unhide e1] at he
  subst he
  have HB1 := hide hw1
  clear hw1
  go_wp2_with fail
  refine (parseBytes_any _ _ (by decide) ((unhide HL).below (unhide HB1))).mono ?_
  rintro e w2 ⟨he, hw2⟩
  rw [show (ByteArray.mk #[49, 48, 50, 53, 84, 105]).data.toList = [49, 48, 50, 53, 84, 105] from rfl, unhide e2] at he
  subst he
  have HB2 := hide (chain (unhide HB1) hw2)
  clear hw2 HB1
  go_wp2_with fail
  refine (parseBytes_any _ _ (by decide) ((unhide HL).below (unhide HB2))).mono ?_
  rintro e w3 ⟨he, hw3⟩
  rw [show (ByteArray.mk #[49, 48, 50, 52, 84, 105]).data.toList = [49, 48, 50, 52, 84, 105] from rfl, unhide e3] at he
  subst he
  have HB3 := hide (chain (unhide HB2) hw3)
  clear hw3 HB2
  go_wp2_with fail
  refine (parseMoney_any _ _ (by decide)).mono ?_
  rintro e w4 ⟨he, hw4⟩
  rw [show (ByteArray.mk #[49, 46, 48, 48, 48, 48, 48, 48, 48]).data.toList = [49, 46, 48, 48, 48, 48, 48, 48, 48] from rfl, unhide e4] at he
  subst he
  have HB4 := hide (chain (unhide HB3) hw4)
  clear hw4 HB3
  go_wp2_with fail
  refine (printMoney_any _ _ ((unhide HL).below (unhide HB4))).mono ?_
  rintro e w5 ⟨he, hw5⟩
  rw [unhide e5, unhide c5] at he
  subst he
  have HB5 := hide (chain (unhide HB4) hw5)
  clear hw5 HB4
  go_wp2_with fail
  refine (live_any _ ((unhide HL).below (unhide HB5))).mono ?_
  rintro e w6 ⟨he, hw6⟩
  subst he
  have HB6 := hide (chain (unhide HB5) hw6)
  clear hw6 HB5
  go_wp2_with fail
  go_ret
  exact ⟨rfl, unhide HB6⟩

set_option maxRecDepth 100000 in
theorem lifted (os : Os) (started : os.Started) (H : Type) (enc : TypeId × Value → H) :
    ReturnsInHanded {} Tryd.checked os 3 .any (fun w args => (Rows.suffixNumbersSpec.pre enc Tryd.prog Tryd.f3 Rows.suffixNumbersRow.domain false w args ∧ laidMetH Tryd.prog laidL w) ∧ sizedMet enc Tryd.prog Tryd.f3 (OpenSpec.ofChange Rows.suffixNumbersSpec) false w args)
      (Rows.suffixNumbersSpec.post enc Tryd.prog Tryd.f3 false true false false) := by
  refine returnsInHanded_of_change_and (C := Tryd.checked) (X := fun w _ => laidMetH Tryd.prog laidL w) (fun _ _ _ hh h => h.of_heap hh) own started (by kernel_rfl) Tryd.func3
    (ChangeSpec.witness_shaped (enc := enc) (C := Tryd.checked) (os := os) (X := fun w _ => laidMetH Tryd.prog laidL w) false (World.laidAll Tryd.prog os laidL) #[] 8 (World.laidAll_os _ _ _)
      (World.shaped_of_ZipB (by kernel_rfl) (by kernel_rfl)) (by kernel_rfl) (by kernel_rfl) (by kernel_rfl)
      (by rw [MakeChecks.laidMetH_plain _ _ _ (by kernel_rfl)]; exact laidMet_laidAll _ (by kernel_rfl) (by kernel_rfl))) ?_
  intro W base args ds gs before hval0 hW hcnd _ hL _
  have hW' := hW
  obtain ⟨p, q, hA0, hV, rfl, hfz, hnd⟩ := hW
  have hA : DataW.TrodAll enc Tryd.prog W 0 (fun _ => true) true Tryd.f3.params.toList args.toList ds p := hA0
  rw [Tryd.params3] at hA
  obtain ⟨rfl, rfl, rfl⟩ := trodAll_none hA
  obtain ⟨rfl, rfl⟩ := trodVars_none hV
  clear hA0 hval0
  refine (walk  W  (of_laid hL)).mono fun e W' ⟨he, bel⟩ => ?_
  subst he
  exact ⟨_, rfl, _, _, _, [], _, [], hW', trodAll_mk1 (shut_bool Tryd.underlying4 _), trodAll_mk0, rfl, bel.frame _, fun h => by cases h⟩

theorem proved : Rows.SuffixNumbersSaid :=
  OpenClaim.holds_of_wide 3 Tryd.f3 rfl rfl rfl rfl rfl rfl rfl ⟨rfl, rfl, rfl, rfl, rfl⟩ rfl rfl rfl rfl rfl (by kernel_rfl) Tryd.func3 (by kernel_rfl)
    (of_decide_eq_true (by kernel_rfl)) (by unfold Func.isWrapper; first | (rw [if_pos (by decide +kernel)]; kernel_rfl) | (rw [if_neg (by decide +kernel)]; exact ⟨rfl, rfl⟩))
    (fun os started H enc _ => lifted os started H enc)
theorem card : Rows.SuffixNumbersCardSaid :=
  Claim7.holds_tied_plain_at .later [] [.data, .data, .data, .data, .data, .pinned] true Rows.suffixNumbersCard.stood.harness false
    proved (fun _ h => by cases h) (by kernel_rfl) (fun _ h => by cases h) suffixNumbers_row_tie rfl ⟨rfl, rfl⟩ (by kernel_rfl) rfl
    (fun f fn hf hfn => by
      obtain rfl : f = 3 := Option.some.inj ((show Tryd.prog.funcNamed Rows.suffixNumbersRow.func = some 3 by kernel_rfl).symm.trans hf) |>.symm
      obtain rfl : fn = Tryd.f3 := (Option.some.inj (Tryd.func3.symm.trans hfn)).symm
      exact ⟨by kernel_rfl, fun j t ht => by rw [Tryd.params3] at ht; simp at ht⟩)
    (by kernel_rfl)
end Go.Proofs.YtfpbmclahihlkaaDoor.suffixNumbers
namespace Go.Proofs.YtfpbmclahihlkaaDoor
theorem suffixNumbersCard_holds : Rows.SuffixNumbersCardSaid := suffixNumbers.card
#print axioms suffixNumbersCard_holds
end Go.Proofs.YtfpbmclahihlkaaDoor
