/- The walk of ValsetNumbers. -/
import Derived.Test.YtkeibapcfbajjaaDoorV3T
namespace Go.Proofs.YtkeibapcfbajjaaDoor.valsetNumbers
open Go.RowKit Suf Val Go.Maps

theorem of_64 : ∃ L : List Txt, L.length = 64 ∧ ofR ⟨[107], 5, [], 2147483584⟩ = (⟨false, false, false, L, 0, 0⟩, 0) := by
  have hl := listOf_len 2147483585 2147483648 [] (by decide) (by decide)
  rw [show valsOf 2147483585 2147483648 [] = [] from rfl, show ((2147483648 : Int) - 2147483585 + 1).toNat = 64 by decide] at hl
  refine ⟨listOf 2147483585 2147483648 [], by simp at hl; omega, ?_⟩
  rw [ofR_good (by decide)]
  show ((numbersO (2147483584 + 1) 2147483648 []).getD zeroS, (0 : Int)) = _
  rw [show (2147483584 : Int) + 1 = 2147483585 by decide, nums_few (by decide)]; rfl
theorem of_65 : ofR ⟨[107], 5, [], 2147483583⟩ = (⟨false, true, true, [], 2147483584, 2147483648⟩, 0) := of_above _ 2147483583 (by decide) (by decide)
theorem num_least : numR [45, 50, 49, 52, 55, 52, 56, 51, 54, 52, 56] = (-2147483648, true) := by decide
theorem num_over : numR [50, 49, 52, 55, 52, 56, 51, 54, 52, 57] = (0, false) := by decide

set_option maxRecDepth 100000 in
set_option maxHeartbeats 4000000 in
theorem walk (w : World) (hL : Laid w) : Calls Tryd.prog 3 #[] w fun e w' => e = .returned (.bool true) ∧ Below w.heap.size w w' := by
  have HL := hide hL
  clear hL
  obtain ⟨L, hL64, h64⟩ := of_64
  have H64 := hide h64
  have HLL := hide hL64
  clear h64 hL64
  go_enter Tryd.func3, Tryd.ntmps3
  go_wp2_with fail
  refine (of_any ⟨#[107]⟩ 5 _ [] 2147483584 _ (unhide HL) (strs_nil _) (by decide)).mono ?_
  rintro e w1 ⟨a1, c1, he, ho1, hw1⟩
  rw [show (ByteArray.mk #[107]).data.toList = [107] from rfl, unhide H64] at he ho1
  unfold tells at he
  rw [show (⟨false, false, false, L, 0, 0⟩ : VSet).vals.length = 64 from unhide HLL] at he
  subst he
  have P1 := hide (chain hw1 (box_below (.cells #[.bool false, .bool false, .bool false, .slice a1 64 c1, .int .i64 0, .int .i64 0] 24)))
  have X1 := hide (six_new w1 (.bool false) (.bool false) (.bool false) (.slice a1 64 c1) (.int .i64 0) (.int .i64 0) 24)
  clear hw1 ho1
  go_wp2_with fail
  refine (of_any ⟨#[107]⟩ 5 _ [] 2147483583 _ ((unhide HL).below (unhide P1)) (strs_nil _) (by decide)).mono ?_
  rintro e w2 ⟨a2, c2, he, ho2, hw2⟩
  rw [show (ByteArray.mk #[107]).data.toList = [107] from rfl, of_65] at he ho2
  unfold tells at he
  subst he
  have P2 := hide (chain (chain (unhide P1) hw2) (box_below (.cells #[.bool false, .bool true, .bool true, .slice a2 0 c2, .int .i64 2147483584, .int .i64 2147483648] 24)))
  have X2 := hide (six_new w2 (.bool false) (.bool true) (.bool true) (.slice a2 0 c2) (.int .i64 2147483584) (.int .i64 2147483648) 24)
  have Y1 := hide (((unhide X1).below hw2).below (box_below (.cells #[.bool false, .bool true, .bool true, .slice a2 0 c2, .int .i64 2147483584, .int .i64 2147483648] 24)))
  clear hw2 ho2 P1 X1
  go_wp2_with fail
  refine (number_any ⟨#[45, 50, 49, 52, 55, 52, 56, 51, 54, 52, 56]⟩ _ (by decide) ((unhide HL).below (unhide P2))).mono ?_
  rintro e w3 ⟨he, hw3⟩
  rw [show (ByteArray.mk #[45, 50, 49, 52, 55, 52, 56, 51, 54, 52, 56]).data.toList = [45, 50, 49, 52, 55, 52, 56, 51, 54, 52, 56] from rfl, num_least] at he
  subst he
  have P3 := hide (chain (unhide P2) hw3)
  have Z2 := hide ((unhide X2).below hw3)
  have Z1 := hide ((unhide Y1).below hw3)
  clear hw3 P2 X2 Y1
  go_wp2_with fail
  refine (number_any ⟨#[50, 49, 52, 55, 52, 56, 51, 54, 52, 57]⟩ _ (by decide) ((unhide HL).below (unhide P3))).mono ?_
  rintro e w4 ⟨he, hw4⟩
  rw [show (ByteArray.mk #[50, 49, 52, 55, 52, 56, 51, 54, 52, 57]).data.toList = [50, 49, 52, 55, 52, 56, 51, 54, 52, 57] from rfl, num_over] at he
  subst he
  have P4 := hide (chain (unhide P3) hw4)
  have V2 := hide ((unhide Z2).below hw4)
  have V1 := hide ((unhide Z1).below hw4)
  clear hw4 P3 Z2 Z1
  go_wp2_with fail
  refine (live_any _ ((unhide HL).below (unhide P4))).mono ?_
  rintro e w5 ⟨rfl, hw5⟩
  have P5 := hide (chain (unhide P4) hw5)
  obtain ⟨b0, b1, b2, b3, b4, b5⟩ := (unhide V1).below hw5
  obtain ⟨d0, d1, d2, d3, d4, d5⟩ := (unhide V2).below hw5
  clear hw5 P4 V1 V2
  go_wp2_with fail
  go_ret
  exact ⟨rfl, unhide P5⟩

end Go.Proofs.YtkeibapcfbajjaaDoor.valsetNumbers
