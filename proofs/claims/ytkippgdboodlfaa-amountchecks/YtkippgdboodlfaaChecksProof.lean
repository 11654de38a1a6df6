/- Proved: AmountChecks returns true for every input. No condition. -/
import Derived.Test.YtkippgdboodlfaaAmtH
namespace Go.Proofs.Ytkippgdboodlfaa.amountChecks
open Go.ChangeShapes Go.WideShapes Go.ChangeAt Go.RowKit

set_option maxHeartbeats 1000000 in
theorem walk (a b c d : Int) (w : World) (_ : (Lit.int .i64 a).wf = true) (_ : (Lit.int .i64 b).wf = true) (_ : (Lit.int .i64 c).wf = true) (_ : (Lit.int .i64 d).wf = true) :
    Calls Try.prog 4 #[.agg #[.int .i64 a, .int .i64 b], .agg #[.int .i64 c, .int .i64 d]] w fun e w' => e = .returned (.bool true) ∧ Below w.heap.size w w' := by
  go_enter Try.func4, Try.ntmps4
  go_wp2_with fail
  refine (rcheck_any _ _).mono ?_
  rintro e w1 ⟨rfl, rfl⟩
  go_wp2_with fail
  refine (rcheckAll_any _ _ _).mono ?_
  rintro e w1 ⟨rfl, hw1⟩
  have X1 := hide (keep_two start_two2 hw1)
  have c10 := (unhide X1).1
  have c11 := (unhide X1).2.1
  have c12 := (unhide X1).2.2.1
  have c13 := (unhide X1).2.2.2.1
  clear hw1
  go_wp2_with fail
  refine (rfits_any _ _ _ _ _).mono ?_
  rintro e w2 ⟨rfl, hw2⟩
  have X2 := hide (keep_two (unhide X1) hw2)
  have c20 := (unhide X2).1
  have c21 := (unhide X2).2.1
  have c22 := (unhide X2).2.2.1
  have c23 := (unhide X2).2.2.2.1
  clear hw2
  clear X1 c10 c11 c12 c13
  go_wp2_with fail
  refine (live_any _).mono ?_
  rintro e w3 ⟨rfl, hw3⟩
  have X3 := hide (keep_two (unhide X2) hw3)
  have c30 := (unhide X3).1
  have c31 := (unhide X3).2.1
  have c32 := (unhide X3).2.2.1
  have c33 := (unhide X3).2.2.2.1
  clear hw3
  clear X2 c20 c21 c22 c23
  go_wp2_with fail
  refine (check_any _ _).mono ?_
  rintro e w1 ⟨rfl, rfl⟩
  go_wp2_with fail
  refine (checkAll_any _ _ _).mono ?_
  rintro e w4 ⟨rfl, hw4⟩
  have X4 := hide (keep_two (unhide X3) hw4)
  have c40 := (unhide X4).1
  have c41 := (unhide X4).2.1
  have c42 := (unhide X4).2.2.1
  have c43 := (unhide X4).2.2.2.1
  clear hw4
  clear X3 c30 c31 c32 c33
  go_wp2_with fail
  refine (fits_any _ _ _ _ _).mono ?_
  rintro e w5 ⟨rfl, hw5⟩
  have X5 := hide (keep_two (unhide X4) hw5)
  have c50 := (unhide X5).1
  have c51 := (unhide X5).2.1
  have c52 := (unhide X5).2.2.1
  have c53 := (unhide X5).2.2.2.1
  clear hw5
  clear X4 c40 c41 c42 c43
  go_wp2_with fail
  go_ret
  exact ⟨by simp, (unhide X5).2.2.2.2⟩

set_option maxRecDepth 100000 in
theorem lifted (os : Os) (started : os.Started) (H : Type) (enc : TypeId × Value → H) :
    ReturnsInHanded {} Try.checked os 4 .any (Rows.amountChecksSpec.pre6 enc Try.prog Try.f4 Rows.amountChecksRow.domain false) (Rows.amountChecksSpec.post enc Try.prog Try.f4 false true false false) := by
  refine returnsInHanded_of_change (C := Try.checked) own started (by kernel_rfl) Try.func4
    (ChangeSpec.witness6 (enc := enc) (C := Try.checked) false ⟨#[], #[.agg #[.int .i64 0, .int .i64 0], .agg #[.int .i64 0, .int .i64 0]], []⟩ 8 (by kernel_rfl) (by kernel_rfl) (by kernel_rfl) (by kernel_rfl)) ?_
  intro W base args ds gs before hval0 hW hcnd _
  have hval : ∀ (j : Nat) t v, Try.f4.params[j]? = some t → args[j]? = some v → Value.okWide Try.prog W .any base t v := hval0
  have hW' := hW
  obtain ⟨p, q, hA0, hV, rfl, hfz, hnd⟩ := hW
  have hA : DataW.TrodAll enc Try.prog W 0 (fun _ => true) true Try.f4.params.toList args.toList ds p := hA0
  rw [Try.params4] at hA hval
  obtain ⟨v0, vs0, d0, ds0, p0, q0, hargs, rfl, rfl, h0, r0⟩ := trodAll_cons hA
  obtain ⟨v1, vs1, d1, ds1, p1, q1, rfl, rfl, rfl, h1, r1⟩ := trodAll_cons r0
  obtain ⟨rfl, rfl, rfl⟩ := trodAll_nil r1
  obtain rfl : args = #[v0, v1] := by cases args; simp_all
  obtain ⟨rfl, rfl⟩ := trodVars_none hV
  have lt0 := places_lt h0
  obtain ⟨a0, b0, rfl, wa0, wb0⟩ := open_pair (hval 0 26 v0 rfl rfl) h0
  have lt1 := places_lt h1
  obtain ⟨a1, b1, rfl, wa1, wb1⟩ := open_pair (hval 1 26 v1 rfl rfl) h1
  clear hA0 hval0
  refine (walk a0 b0 a1 b1 W wa0 wb0 wa1 wb1).mono fun e W' ⟨he, bel⟩ => ?_
  subst he
  exact ⟨_, rfl, _, _, _, [], _, [], hW', trodAll_mk1 (shut_bool Try.underlying4 _), (trodAll_cons_mk (Below.trod laidOut (by kernel_rfl) (of_decide_eq_true (by kernel_rfl)) h0 bel lt0) (trodAll_cons_mk (Below.trod laidOut (by kernel_rfl) (of_decide_eq_true (by kernel_rfl)) h1 bel lt1) trodAll_mk0)), rfl, bel.frame _, fun h => by cases h⟩

theorem proved : Rows.AmountChecksSaid :=
  OpenClaim.holds_of_wide 4 Try.f4 rfl rfl rfl rfl rfl rfl rfl ⟨rfl, rfl, rfl, rfl, rfl⟩ rfl rfl rfl rfl rfl (by kernel_rfl) Try.func4 (by kernel_rfl)
    (of_decide_eq_true (by kernel_rfl)) (by unfold Func.isWrapper; first | (rw [if_pos (by decide +kernel)]; kernel_rfl) | (rw [if_neg (by decide +kernel)]; exact ⟨rfl, rfl⟩))
    (fun os started H enc _ => lifted os started H enc)
end Go.Proofs.Ytkippgdboodlfaa.amountChecks
namespace Go.Proofs.Ytkippgdboodlfaa
theorem amountChecks_holds : Rows.AmountChecksSaid := amountChecks.proved
#print axioms amountChecks_holds
end Go.Proofs.Ytkippgdboodlfaa
