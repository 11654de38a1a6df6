/- Proved: AmountSums returns true for every input. No condition. -/
import Derived.Test.YtkippgdboodlfaaAmtH
namespace Go.Proofs.Ytkippgdboodlfaa.amountSums
open Go.ChangeShapes Go.WideShapes Go.ChangeAt Go.RowKit

attribute [local go_sem] eq2

set_option maxHeartbeats 1000000 in
theorem walk (a b c d : Int) (w : World) (_ : (Lit.int .i64 a).wf = true) (_ : (Lit.int .i64 b).wf = true) (_ : (Lit.int .i64 c).wf = true) (_ : (Lit.int .i64 d).wf = true) :
    Calls Try.prog 5 #[.agg #[.int .i64 a, .int .i64 b], .agg #[.int .i64 c, .int .i64 d]] w fun e w' => e = .returned (.bool true) ∧ Below w.heap.size w w' := by
  go_enter Try.func5, Try.ntmps5
  go_wp2_with fail
  refine (add_any _ _ _ _ _).mono ?_
  rintro e w1 ⟨rfl, hw1⟩
  obtain ⟨a1, b1, c1, d1, L1⟩ := keep_two start_two2 hw1
  have z1 := size_le L1
  have q1 : w.heap.size < w1.heap.size := World.block_lt_of_cell? _ _ a1
  have r1 : w.heap.size + 1 < w1.heap.size := World.block_lt_of_cell? _ _ c1
  replace L1 := hide L1
  clear hw1
  go_wp2_with fail
  refine (radd_any _ _ _ _ _).mono ?_
  rintro e w2 ⟨rfl, hw2⟩
  have a2 := kept1 hw2 a1
  have b2 := kept1 hw2 b1
  have c2 := kept1 hw2 c1
  have d2 := kept1 hw2 d1
  obtain ⟨x21, y21⟩ := kept_box hw2
  have L2 := hide (below_box (unhide L1) z1 hw2)
  have z2 := size_le (unhide L2)
  have q2 : w.heap.size < w2.heap.size := World.block_lt_of_cell? _ _ a2
  have r2 : w.heap.size + 1 < w2.heap.size := World.block_lt_of_cell? _ _ c2
  clear hw2 q1 r1 a1 b1 c1 d1 L1
  go_wp2_with fail
  refine (sub_any _ _ _ _ _).mono ?_
  rintro e w3 ⟨rfl, hw3⟩
  have a3 := kept1 hw3 a2
  have b3 := kept1 hw3 b2
  have c3 := kept1 hw3 c2
  have d3 := kept1 hw3 d2
  have x31 := kept1 hw3 x21
  have y31 := kept1 hw3 y21
  obtain ⟨x32, y32⟩ := kept_box hw3
  have L3 := hide (below_box (unhide L2) z2 hw3)
  have z3 := size_le (unhide L3)
  have q3 : w.heap.size < w3.heap.size := World.block_lt_of_cell? _ _ a3
  have r3 : w.heap.size + 1 < w3.heap.size := World.block_lt_of_cell? _ _ c3
  clear hw3 q2 r2 a2 b2 c2 d2 x21 y21 L2
  go_wp2_with fail
  refine (rsub_any _ _ _ _ _).mono ?_
  rintro e w4 ⟨rfl, hw4⟩
  have a4 := kept1 hw4 a3
  have b4 := kept1 hw4 b3
  have c4 := kept1 hw4 c3
  have d4 := kept1 hw4 d3
  have x41 := kept1 hw4 x31
  have y41 := kept1 hw4 y31
  have x42 := kept1 hw4 x32
  have y42 := kept1 hw4 y32
  obtain ⟨x43, y43⟩ := kept_box hw4
  have L4 := hide (below_box (unhide L3) z3 hw4)
  have z4 := size_le (unhide L4)
  have q4 : w.heap.size < w4.heap.size := World.block_lt_of_cell? _ _ a4
  have r4 : w.heap.size + 1 < w4.heap.size := World.block_lt_of_cell? _ _ c4
  clear hw4 q3 r3 a3 b3 c3 d3 x31 y31 x32 y32 L3
  go_wp2_with fail
  refine (live_any _).mono ?_
  rintro e w5 ⟨rfl, hw5⟩
  have a5 := kept1 hw5 a4
  have b5 := kept1 hw5 b4
  have c5 := kept1 hw5 c4
  have d5 := kept1 hw5 d4
  have x51 := kept1 hw5 x41
  have y51 := kept1 hw5 y41
  have x52 := kept1 hw5 x42
  have y52 := kept1 hw5 y42
  have x53 := kept1 hw5 x43
  have y53 := kept1 hw5 y43
  obtain ⟨x54, y54⟩ := kept_box hw5
  have L5 := hide (below_box (unhide L4) z4 hw5)
  have z5 := size_le (unhide L5)
  have q5 : w.heap.size < w5.heap.size := World.block_lt_of_cell? _ _ a5
  have r5 : w.heap.size + 1 < w5.heap.size := World.block_lt_of_cell? _ _ c5
  clear hw5 q4 r4 a4 b4 c4 d4 x41 y41 x42 y42 x43 y43 L4
  go_wp2_with fail
  go_ret
  exact ⟨by simp, unhide L5⟩

set_option maxRecDepth 100000 in
theorem lifted (os : Os) (started : os.Started) (H : Type) (enc : TypeId × Value → H) :
    ReturnsInHanded {} Try.checked os 5 .any (Rows.amountSumsSpec.pre6 enc Try.prog Try.f5 Rows.amountSumsRow.domain false) (Rows.amountSumsSpec.post enc Try.prog Try.f5 false true false false) := by
  refine returnsInHanded_of_change (C := Try.checked) own started (by kernel_rfl) Try.func5
    (ChangeSpec.witness6 (enc := enc) (C := Try.checked) false ⟨#[], #[.agg #[.int .i64 0, .int .i64 0], .agg #[.int .i64 0, .int .i64 0]], []⟩ 8 (by kernel_rfl) (by kernel_rfl) (by kernel_rfl) (by kernel_rfl)) ?_
  intro W base args ds gs before hval0 hW hcnd _
  have hval : ∀ (j : Nat) t v, Try.f5.params[j]? = some t → args[j]? = some v → Value.okWide Try.prog W .any base t v := hval0
  have hW' := hW
  obtain ⟨p, q, hA0, hV, rfl, hfz, hnd⟩ := hW
  have hA : DataW.TrodAll enc Try.prog W 0 (fun _ => true) true Try.f5.params.toList args.toList ds p := hA0
  rw [Try.params5] at hA hval
  obtain ⟨v0, vs0, d0, ds0, p0, q0, hargs, rfl, rfl, h0, r0⟩ := trodAll_cons hA
  obtain ⟨v1, vs1, d1, ds1, p1, q1, rfl, rfl, rfl, h1, r1⟩ := trodAll_cons r0
  obtain ⟨rfl, rfl, rfl⟩ := trodAll_nil r1
  obtain rfl : args = #[v0, v1] := by cases args; simp_all
  obtain ⟨rfl, rfl⟩ := trodVars_none hV
  have lt0 := places_lt h0
  obtain ⟨a0, b0, rfl, wa0, wb0⟩ := open_pair (hval 0 26 v0 rfl rfl) h0
  have lt1 := places_lt h1
  obtain ⟨a1, b1, rfl, wa1, wb1⟩ := open_pair (hval 1 26 v1 rfl rfl) h1
  clear hA0 hval0
  refine (walk a0 b0 a1 b1 W wa0 wb0 wa1 wb1).mono fun e W' ⟨he, bel⟩ => ?_
  subst he
  exact ⟨_, rfl, _, _, _, [], _, [], hW', trodAll_mk1 (shut_bool Try.underlying4 _), (trodAll_cons_mk (Below.trod laidOut (by kernel_rfl) (of_decide_eq_true (by kernel_rfl)) h0 bel lt0) (trodAll_cons_mk (Below.trod laidOut (by kernel_rfl) (of_decide_eq_true (by kernel_rfl)) h1 bel lt1) trodAll_mk0)), rfl, bel.frame _, fun h => by cases h⟩

theorem proved : Rows.AmountSumsSaid :=
  OpenClaim.holds_of_wide 5 Try.f5 rfl rfl rfl rfl rfl rfl rfl ⟨rfl, rfl, rfl, rfl, rfl⟩ rfl rfl rfl rfl rfl (by kernel_rfl) Try.func5 (by kernel_rfl)
    (of_decide_eq_true (by kernel_rfl)) (by unfold Func.isWrapper; first | (rw [if_pos (by decide +kernel)]; kernel_rfl) | (rw [if_neg (by decide +kernel)]; exact ⟨rfl, rfl⟩))
    (fun os started H enc _ => lifted os started H enc)
end Go.Proofs.Ytkippgdboodlfaa.amountSums
namespace Go.Proofs.Ytkippgdboodlfaa
theorem amountSums_holds : Rows.AmountSumsSaid := amountSums.proved
#print axioms amountSums_holds
end Go.Proofs.Ytkippgdboodlfaa
