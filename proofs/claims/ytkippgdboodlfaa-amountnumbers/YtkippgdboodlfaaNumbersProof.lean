/- Proved: AmountNumbers returns true: the numbers of errors and limits, and a few answers of the program, are the document's. No condition. -/
import Derived.Test.YtkippgdboodlfaaAmtH
namespace Go.Proofs.Ytkippgdboodlfaa.amountNumbers
open Go.ChangeShapes Go.WideShapes Go.ChangeAt Go.RowKit

set_option maxHeartbeats 400000 in
theorem walk (w : World) : Calls Try.prog 3 #[] w fun e w' => e = .returned (.bool true) ∧ Below w.heap.size w w' := by
  have e1 := hide (show chk 1125899906842624 = 0 by decide)
  have e2 := hide (show chk 1125899906842625 = 10 by decide)
  go_enter Try.func3, Try.ntmps3
  go_wp2_with fail
  refine (live_any _).mono ?_
  rintro e w1 ⟨rfl, hw1⟩
  have L1 := hide hw1
  clear hw1
  go_wp2_with fail
  refine (check_any _ _).mono ?_
  rintro e w2 ⟨he, rfl⟩
  rw [unhide e1] at he
  subst he
  go_wp2_with fail
  refine (check_any _ _).mono ?_
  rintro e w2 ⟨he, rfl⟩
  rw [unhide e2] at he
  subst he
  go_wp2_with fail
  go_ret
  exact ⟨rfl, unhide L1⟩

set_option maxRecDepth 100000 in
theorem lifted (os : Os) (started : os.Started) (H : Type) (enc : TypeId × Value → H) :
    ReturnsInHanded {} Try.checked os 3 .any (Rows.amountNumbersSpec.pre6 enc Try.prog Try.f3 Rows.amountNumbersRow.domain false) (Rows.amountNumbersSpec.post enc Try.prog Try.f3 false true false false) := by
  refine returnsInHanded_of_change (C := Try.checked) own started (by kernel_rfl) Try.func3
    (ChangeSpec.witness6 (enc := enc) (C := Try.checked) false ⟨#[], #[], []⟩ 8 (by kernel_rfl) (by kernel_rfl) (by kernel_rfl) (by kernel_rfl)) ?_
  intro W base args ds gs before hval0 hW hcnd _
  have hW' := hW
  obtain ⟨p, q, hA0, hV, rfl, hfz, hnd⟩ := hW
  have hA : DataW.TrodAll enc Try.prog W 0 (fun _ => true) true Try.f3.params.toList args.toList ds p := hA0
  rw [Try.params3] at hA
  obtain ⟨rfl, rfl, rfl⟩ := trodAll_none hA
  obtain ⟨rfl, rfl⟩ := trodVars_none hV
  clear hA0 hval0
  refine (walk W).mono fun e W' ⟨he, bel⟩ => ?_
  subst he
  exact ⟨_, rfl, _, _, _, [], [], [], hW', trodAll_mk1 (shut_bool Try.underlying4 _), trodAll_mk0, rfl, bel.frame _, fun h => by cases h⟩

theorem proved : Rows.AmountNumbersSaid :=
  OpenClaim.holds_of_wide 3 Try.f3 rfl rfl rfl rfl rfl rfl rfl ⟨rfl, rfl, rfl, rfl, rfl⟩ rfl rfl rfl rfl rfl (by kernel_rfl) Try.func3 (by kernel_rfl)
    (of_decide_eq_true (by kernel_rfl)) (by unfold Func.isWrapper; first | (rw [if_pos (by decide +kernel)]; kernel_rfl) | (rw [if_neg (by decide +kernel)]; exact ⟨rfl, rfl⟩))
    (fun os started H enc _ => lifted os started H enc)
end Go.Proofs.Ytkippgdboodlfaa.amountNumbers
namespace Go.Proofs.Ytkippgdboodlfaa
theorem amountNumbers_holds : Rows.AmountNumbersSaid := amountNumbers.proved
#print axioms amountNumbers_holds
end Go.Proofs.Ytkippgdboodlfaa
