/- Layer 3: what a few calls answer ('live'). -/
import Derived.Test.YtkeibapcfbajjabDoorV3R
namespace Go.Proofs.YtkeibapcfbajjabDoor
open Go.RowKit Suf Val Go.Maps

theorem strs_two {w : World} {s t : Txt} (T : TypeId) (hs : short s) (ht : short t) : Strs (w.alloc (.cells #[.string (bytesT s), .string (bytesT t)] T)) (.slice (some ⟨w.heap.size, 0, none⟩) 2 2) [s, t] :=
  ⟨some ⟨w.heap.size, 0, none⟩, 2, rfl, fun j hj => by
    match j, hj with
    | 0, _ => exact ⟨w.heap.size, 0, rfl, by simp [go_sem]⟩
    | 1, _ => exact ⟨w.heap.size, 0, rfl, by simp [go_sem]⟩, by simp, fun u hu => by
    simp at hu; rcases hu with rfl | rfl
    · exact hs
    · exact ht⟩
theorem strs_twoB {w : World} {B : Nat} {s t : Txt} (T : TypeId) (hB : w.heap.size = B) (hs : short s) (ht : short t) : Strs (w.alloc (.cells #[.string (bytesT s), .string (bytesT t)] T)) (.slice (some ⟨B, 0, none⟩) 2 2) [s, t] := hB ▸ strs_two T hs ht
theorem strs_nil (w : World) : Strs w (.slice none 0 0) [] := ⟨none, 0, rfl, fun j hj => absurd hj (Nat.not_lt_zero _), by simp, by simp⟩
theorem trimLo_nil (f : Nat) (lo : Int) : trimLo [] f lo = lo := by cases f <;> rfl
theorem trimHi_nil (f : Nat) (hi : Int) : trimHi [] f hi = hi := by cases f <;> rfl
theorem nums_of_nil (lo hi : Int) : numbersO lo hi [] = numsAt lo hi [] := by
  have e1 : loOf lo hi [] = lo := trimLo_nil _ _
  have e2 : hiOf lo hi [] = hi := trimHi_nil _ _
  unfold numbersO; rw [e1, e2]
theorem nums_many {lo hi : Int} (h : 64 < hi - lo + 1) : numbersO lo hi [] = some ⟨false, true, true, [], lo, hi⟩ := by
  rw [nums_of_nil]; unfold numsAt
  rw [show valsOf lo hi [] = [] from rfl, if_neg (by simp; omega), if_neg (by decide)]
theorem nums_few {lo hi : Int} (h : hi - lo + 1 ≤ 64) : numbersO lo hi [] = some ⟨false, false, false, listOf lo hi [], 0, 0⟩ := by
  rw [nums_of_nil]; unfold numsAt
  rw [show valsOf lo hi [] = [] from rfl, if_pos (by simp; omega)]
theorem of_a : ofR ⟨[122, 111, 110, 101], 1, [[98], [97]], 0⟩ = (⟨false, false, false, [[97], [98]], 0, 0⟩, 0) := by
  rw [ofR_good (by decide)]
  show ((⟨false, false, false, rising [[98], [97]], 0, 0⟩ : VSet), (0 : Int)) = _
  rw [show rising [[98], [97]] = [[97], [98]] by decide]
theorem of_above (k : Txt) (z : Int) (h : wrongR ⟨k, 5, [], z⟩ = 0) (hz : 64 < 2147483648 - (z + 1) + 1) : ofR ⟨k, 5, [], z⟩ = (⟨false, true, true, [], z + 1, 2147483648⟩, 0) := by
  rw [ofR_good h]
  show ((numbersO (z + 1) 2147483648 []).getD zeroS, (0 : Int)) = _
  rw [nums_many hz]; rfl
theorem of_below (k : Txt) (z : Int) (h : wrongR ⟨k, 6, [], z⟩ = 0) (hz : 64 < z - 1 - (-2147483648) + 1) : ofR ⟨k, 6, [], z⟩ = (⟨false, true, true, [], -2147483648, z - 1⟩, 0) := by
  rw [ofR_good h]
  show ((numbersO (-2147483648) (z - 1) []).getD zeroS, (0 : Int)) = _
  rw [nums_many hz]; rfl
theorem of_b : ofR ⟨[103, 101, 110], 5, [], 3⟩ = (⟨false, true, true, [], 4, 2147483648⟩, 0) := of_above _ 3 (by decide) (by decide)
theorem of_c : ofR ⟨[103, 101, 110], 6, [], 6⟩ = (⟨false, true, true, [], -2147483648, 5⟩, 0) := of_below _ 6 (by decide) (by decide)
theorem meet_d : meetR ⟨false, true, true, [], 4, 2147483648⟩ ⟨false, true, true, [], -2147483648, 5⟩ = (⟨false, false, false, [[52], [53]], 0, 0⟩, 0) := by
  rw [meet_nums (by decide) (by decide) rfl rfl (by simp)]
  show met (numbersO (max 4 (-2147483648)) (min 2147483648 5) []) false = _
  rw [show max (4 : Int) (-2147483648) = 4 by decide, show min (2147483648 : Int) 5 = 5 by decide, nums_few (by decide), show listOf 4 5 [] = [[52], [53]] by decide]; rfl
theorem of_i : ofR ⟨[122, 111, 110, 101], 1, [], 0⟩ = (⟨false, false, false, [], 0, 0⟩, 30) := by
  rw [ofR_bad (by decide), show wrongR ⟨[122, 111, 110, 101], 1, [], 0⟩ = 30 by decide]; rfl
theorem has_b4 : hasB ⟨false, true, true, [], 4, 2147483648⟩ [52] = true := by decide
theorem has_b04 : hasB ⟨false, true, true, [], 4, 2147483648⟩ [48, 52] = false := by decide
theorem sh (t : Txt) (h : t.length ≤ 100) : short t := Nat.le_trans h (by decide)

set_option maxRecDepth 100000 in
set_option maxHeartbeats 4000000 in
theorem live_any (w : World) (hL : Laid w) : Calls Tryd.prog 7 #[] w fun e w' => e = .returned (.bool true) ∧ Below w.heap.size w w' := by
  have HL := hide hL
  clear hL
  have v0 := hide (show valueB [120, 45, 49] = true by decide)
  have v1 := hide (show nameB [53] = false by decide)
  have s0 := hide (strs_two (w := w) 9 (sh [98] (by decide)) (sh [97] (by decide)))
  go_enter Tryd.func7, Tryd.ntmps7
  go_wp2_with fail
  refine (of_any ⟨#[122, 111, 110, 101]⟩ 1 _ [[98], [97]] 0 _ ((unhide HL).alloc _) (unhide s0) (by decide)).mono ?_
  rintro e w1 ⟨a1, c1, he, ho1, hw1⟩
  rw [show (ByteArray.mk #[122, 111, 110, 101]).data.toList = [122, 111, 110, 101] from rfl, of_a] at he ho1
  unfold tells at he
  subst he
  have B1 := hide (chain (box_below _) hw1)
  have O1 := hide (Own.strs ho1)
  clear hw1 ho1 s0
  have X1 := hide (six_new w1 (.bool false) (.bool false) (.bool false) (.slice a1 2 c1) (.int .i64 0) (.int .i64 0) 24)
  have P1 := hide (chain (unhide B1) (box_below (.cells #[.bool false, .bool false, .bool false, .slice a1 2 c1, .int .i64 0, .int .i64 0] 24)))
  go_wp2_with fail
  refine (of_any ⟨#[103, 101, 110]⟩ 5 _ [] 3 _ ((unhide HL).below (unhide P1)) (strs_nil _) (by decide)).mono ?_
  rintro e w2 ⟨a2, c2, he, ho2, hw2⟩
  rw [show (ByteArray.mk #[103, 101, 110]).data.toList = [103, 101, 110] from rfl, of_b] at he ho2
  unfold tells at he
  subst he
  have B2 := hide (chain (unhide P1) hw2)
  have O2 := hide (Own.strs ho2)
  have S1 := hide ((unhide X1).below hw2)
  clear X1
  have X1 := S1
  clear S1
  have U1 := hide (((unhide O1).below (box_below (.cells #[.bool false, .bool false, .bool false, .slice a1 2 c1, .int .i64 0, .int .i64 0] 24))).below hw2)
  clear O1
  have O1 := U1
  clear U1
  clear hw2 ho2 P1
  have X2 := hide (six_new w2 (.bool false) (.bool true) (.bool true) (.slice a2 0 c2) (.int .i64 4) (.int .i64 2147483648) 24)
  have P2 := hide (chain (unhide B2) (box_below (.cells #[.bool false, .bool true, .bool true, .slice a2 0 c2, .int .i64 4, .int .i64 2147483648] 24)))
  have S1 := hide ((unhide X1).below (box_below (.cells #[.bool false, .bool true, .bool true, .slice a2 0 c2, .int .i64 4, .int .i64 2147483648] 24)))
  clear X1
  have X1 := S1
  clear S1
  go_wp2_with fail
  refine (of_any ⟨#[103, 101, 110]⟩ 6 _ [] 6 _ ((unhide HL).below (unhide P2)) (strs_nil _) (by decide)).mono ?_
  rintro e w3 ⟨a3, c3, he, ho3, hw3⟩
  rw [show (ByteArray.mk #[103, 101, 110]).data.toList = [103, 101, 110] from rfl, of_c] at he ho3
  unfold tells at he
  subst he
  have B3 := hide (chain (unhide P2) hw3)
  have O3 := hide (Own.strs ho3)
  have S1 := hide ((unhide X1).below hw3)
  clear X1
  have X1 := S1
  clear S1
  have S2 := hide ((unhide X2).below hw3)
  clear X2
  have X2 := S2
  clear S2
  have U1 := hide (((unhide O1).below (box_below (.cells #[.bool false, .bool true, .bool true, .slice a2 0 c2, .int .i64 4, .int .i64 2147483648] 24))).below hw3)
  clear O1
  have O1 := U1
  clear U1
  have U2 := hide (((unhide O2).below (box_below (.cells #[.bool false, .bool true, .bool true, .slice a2 0 c2, .int .i64 4, .int .i64 2147483648] 24))).below hw3)
  clear O2
  have O2 := U2
  clear U2
  clear hw3 ho3 P2
  have X3 := hide (six_new w3 (.bool false) (.bool true) (.bool true) (.slice a3 0 c3) (.int .i64 (-2147483648)) (.int .i64 5) 24)
  have P3 := hide (chain (unhide B3) (box_below (.cells #[.bool false, .bool true, .bool true, .slice a3 0 c3, .int .i64 (-2147483648), .int .i64 5] 24)))
  have S1 := hide ((unhide X1).below (box_below (.cells #[.bool false, .bool true, .bool true, .slice a3 0 c3, .int .i64 (-2147483648), .int .i64 5] 24)))
  clear X1
  have X1 := S1
  clear S1
  have S2 := hide ((unhide X2).below (box_below (.cells #[.bool false, .bool true, .bool true, .slice a3 0 c3, .int .i64 (-2147483648), .int .i64 5] 24)))
  clear X2
  have X2 := S2
  clear S2
  have L3 := hide ((unhide HL).below (unhide P3))
  obtain ⟨b0, b1, b2, b3, b4, b5⟩ := unhide X2
  obtain ⟨d0, d1, d2, d3, d4, d5⟩ := unhide X3
  go_wp2_with fail
  refine (meet_any false true true _ [] 4 2147483648 false true true _ [] (-2147483648) 5 _ (unhide L3) ((unhide O2).below (box_below _)) ((unhide O3).below (box_below _))).mono ?_
  clear b0 b1 b2 b3 b4 b5 d0 d1 d2 d3 d4 d5
  rintro e w4 ⟨a4, c4, he, ho4, hw4⟩
  rw [meet_d] at he ho4
  unfold tells at he
  subst he
  have B4 := hide (chain (unhide P3) hw4)
  have O4 := hide (Own.strs ho4)
  have S1 := hide ((unhide X1).below hw4)
  clear X1
  have X1 := S1
  clear S1
  have S2 := hide ((unhide X2).below hw4)
  clear X2
  have X2 := S2
  clear S2
  have S3 := hide ((unhide X3).below hw4)
  clear X3
  have X3 := S3
  clear S3
  have U1 := hide (((unhide O1).below (box_below (.cells #[.bool false, .bool true, .bool true, .slice a3 0 c3, .int .i64 (-2147483648), .int .i64 5] 24))).below hw4)
  clear O1
  have O1 := U1
  clear U1
  have U2 := hide (((unhide O2).below (box_below (.cells #[.bool false, .bool true, .bool true, .slice a3 0 c3, .int .i64 (-2147483648), .int .i64 5] 24))).below hw4)
  clear O2
  have O2 := U2
  clear U2
  have U3 := hide (((unhide O3).below (box_below (.cells #[.bool false, .bool true, .bool true, .slice a3 0 c3, .int .i64 (-2147483648), .int .i64 5] 24))).below hw4)
  clear O3
  have O3 := U3
  clear U3
  clear hw4 ho4 P3 L3
  have X4 := hide (six_new w4 (.bool false) (.bool false) (.bool false) (.slice a4 2 c4) (.int .i64 0) (.int .i64 0) 24)
  have P4 := hide (chain (unhide B4) (box_below (.cells #[.bool false, .bool false, .bool false, .slice a4 2 c4, .int .i64 0, .int .i64 0] 24)))
  have S1 := hide ((unhide X1).below (box_below (.cells #[.bool false, .bool false, .bool false, .slice a4 2 c4, .int .i64 0, .int .i64 0] 24)))
  clear X1
  have X1 := S1
  clear S1
  have S2 := hide ((unhide X2).below (box_below (.cells #[.bool false, .bool false, .bool false, .slice a4 2 c4, .int .i64 0, .int .i64 0] 24)))
  clear X2
  have X2 := S2
  clear S2
  have S3 := hide ((unhide X3).below (box_below (.cells #[.bool false, .bool false, .bool false, .slice a4 2 c4, .int .i64 0, .int .i64 0] 24)))
  clear X3
  have X3 := S3
  clear S3
  go_wp2_with fail
  refine (of_any ⟨#[122, 111, 110, 101]⟩ 1 _ [] 0 _ ((unhide HL).below (unhide P4)) (strs_nil _) (by decide)).mono ?_
  rintro e w5 ⟨a5, c5, he, ho5, hw5⟩
  rw [show (ByteArray.mk #[122, 111, 110, 101]).data.toList = [122, 111, 110, 101] from rfl, of_i] at he ho5
  unfold tells at he
  subst he
  have B5 := hide (chain (unhide P4) hw5)
  have O5 := hide (Own.strs ho5)
  have S1 := hide ((unhide X1).below hw5)
  clear X1
  have X1 := S1
  clear S1
  have S2 := hide ((unhide X2).below hw5)
  clear X2
  have X2 := S2
  clear S2
  have S3 := hide ((unhide X3).below hw5)
  clear X3
  have X3 := S3
  clear S3
  have S4 := hide ((unhide X4).below hw5)
  clear X4
  have X4 := S4
  clear S4
  have U1 := hide (((unhide O1).below (box_below (.cells #[.bool false, .bool false, .bool false, .slice a4 2 c4, .int .i64 0, .int .i64 0] 24))).below hw5)
  clear O1
  have O1 := U1
  clear U1
  have U2 := hide (((unhide O2).below (box_below (.cells #[.bool false, .bool false, .bool false, .slice a4 2 c4, .int .i64 0, .int .i64 0] 24))).below hw5)
  clear O2
  have O2 := U2
  clear U2
  have U3 := hide (((unhide O3).below (box_below (.cells #[.bool false, .bool false, .bool false, .slice a4 2 c4, .int .i64 0, .int .i64 0] 24))).below hw5)
  clear O3
  have O3 := U3
  clear U3
  have U4 := hide (((unhide O4).below (box_below (.cells #[.bool false, .bool false, .bool false, .slice a4 2 c4, .int .i64 0, .int .i64 0] 24))).below hw5)
  clear O4
  have O4 := U4
  clear U4
  clear hw5 ho5 P4
  have X5 := hide (six_new w5 (.bool false) (.bool false) (.bool false) (.slice a5 0 c5) (.int .i64 0) (.int .i64 0) 24)
  have P5 := hide (chain (unhide B5) (box_below (.cells #[.bool false, .bool false, .bool false, .slice a5 0 c5, .int .i64 0, .int .i64 0] 24)))
  have S1 := hide ((unhide X1).below (box_below (.cells #[.bool false, .bool false, .bool false, .slice a5 0 c5, .int .i64 0, .int .i64 0] 24)))
  clear X1
  have X1 := S1
  clear S1
  have S2 := hide ((unhide X2).below (box_below (.cells #[.bool false, .bool false, .bool false, .slice a5 0 c5, .int .i64 0, .int .i64 0] 24)))
  clear X2
  have X2 := S2
  clear S2
  have S3 := hide ((unhide X3).below (box_below (.cells #[.bool false, .bool false, .bool false, .slice a5 0 c5, .int .i64 0, .int .i64 0] 24)))
  clear X3
  have X3 := S3
  clear S3
  have S4 := hide ((unhide X4).below (box_below (.cells #[.bool false, .bool false, .bool false, .slice a5 0 c5, .int .i64 0, .int .i64 0] 24)))
  clear X4
  have X4 := S4
  clear S4
  have O1b := hide ((unhide O1).below (box_below (.cells #[.bool false, .bool false, .bool false, .slice a5 0 c5, .int .i64 0, .int .i64 0] 24)))
  have O2b := hide ((unhide O2).below (box_below (.cells #[.bool false, .bool false, .bool false, .slice a5 0 c5, .int .i64 0, .int .i64 0] 24)))
  have O4b := hide ((unhide O4).below (box_below (.cells #[.bool false, .bool false, .bool false, .slice a5 0 c5, .int .i64 0, .int .i64 0] 24)))
  have T6 : Hid (Strs ((w5.alloc (.cells #[.bool false, .bool false, .bool false, .slice a5 0 c5, .int .i64 0, .int .i64 0] 24)).alloc (.cells #[.string ⟨#[97]⟩, .string ⟨#[98]⟩] 9)) (.slice (some ⟨w5.heap.size + 1, 0, none⟩) 2 2) [[97], [98]]) := strs_twoB (w := w5.alloc (.cells #[.bool false, .bool false, .bool false, .slice a5 0 c5, .int .i64 0, .int .i64 0] 24)) 9 (by simp) (sh [97] (by decide)) (sh [98] (by decide))
  have E6 : Hid (Below (w5.alloc (.cells #[.bool false, .bool false, .bool false, .slice a5 0 c5, .int .i64 0, .int .i64 0] 24)).heap.size (w5.alloc (.cells #[.bool false, .bool false, .bool false, .slice a5 0 c5, .int .i64 0, .int .i64 0] 24)) ((w5.alloc (.cells #[.bool false, .bool false, .bool false, .slice a5 0 c5, .int .i64 0, .int .i64 0] 24)).alloc (.cells #[.string ⟨#[97]⟩, .string ⟨#[98]⟩] 9))) := box_below _
  have U6 : Hid (Strs ((w5.alloc (.cells #[.bool false, .bool false, .bool false, .slice a5 0 c5, .int .i64 0, .int .i64 0] 24)).alloc (.cells #[.string ⟨#[97]⟩, .string ⟨#[98]⟩] 9)) (.slice a1 2 c1) [[97], [98]]) := (unhide O1b).below (unhide E6)
  clear O1 O2 O3 O4 O5 X3 X5 B5
  obtain ⟨b0, b1, b2, b3, b4, b5⟩ := unhide X1
  go_wp2_with fail
  refine (same_any false false false _ [[97], [98]] 0 0 false false false _ [[97], [98]] 0 0 _ (unhide U6) (unhide T6)).mono ?_
  clear b0 b1 b2 b3 b4 b5
  rintro e w6 ⟨he, hw6⟩
  rw [show sameB ⟨false, false, false, [[97], [98]], 0, 0⟩ ⟨false, false, false, [[97], [98]], 0, 0⟩ = true by decide] at he
  subst he
  have F6 := hide (chain (unhide E6) hw6)
  have B6 := hide (chain (unhide P5) (unhide F6))
  have X4b := hide ((unhide X4).below (unhide F6))
  have X2b := hide ((unhide X2).below (unhide F6))
  have O4c := hide ((unhide O4b).below (unhide F6))
  have O2c := hide ((unhide O2b).below (unhide F6))
  clear hw6 F6 E6 T6 U6 X1 X2 X4 O1b O2b O4b P5
  have T7 : Hid (Strs (w6.alloc (.cells #[.string ⟨#[52]⟩, .string ⟨#[53]⟩] 9)) (.slice (some ⟨w6.heap.size, 0, none⟩) 2 2) [[52], [53]]) := strs_two 9 (sh [52] (by decide)) (sh [53] (by decide))
  have E7 : Hid (Below w6.heap.size w6 (w6.alloc (.cells #[.string ⟨#[52]⟩, .string ⟨#[53]⟩] 9))) := box_below _
  have U7 : Hid (Strs (w6.alloc (.cells #[.string ⟨#[52]⟩, .string ⟨#[53]⟩] 9)) (.slice a4 2 c4) [[52], [53]]) := (unhide O4c).below (unhide E7)
  obtain ⟨b0, b1, b2, b3, b4, b5⟩ := unhide X4b
  go_wp2_with fail
  refine (same_any false false false _ [[52], [53]] 0 0 false false false _ [[52], [53]] 0 0 _ (unhide U7) (unhide T7)).mono ?_
  clear b0 b1 b2 b3 b4 b5
  rintro e w7 ⟨he, hw7⟩
  rw [show sameB ⟨false, false, false, [[52], [53]], 0, 0⟩ ⟨false, false, false, [[52], [53]], 0, 0⟩ = true by decide] at he
  subst he
  have F7 := hide (chain (unhide E7) hw7)
  have B7 := hide (chain (unhide B6) (unhide F7))
  have X2c := hide ((unhide X2b).below (unhide F7))
  have O2d := hide ((unhide O2c).below (unhide F7))
  clear hw7 F7 E7 T7 U7 X4b X2b O4c O2c B6
  obtain ⟨b0, b1, b2, b3, b4, b5⟩ := unhide X2c
  go_wp2_with fail
  refine (has_any false true true _ [] 4 2147483648 [52] _ ((unhide HL).below (unhide B7)) (unhide O2d) (sh _ (by decide))).mono ?_
  clear b0 b1 b2 b3 b4 b5
  rintro e w8 ⟨he, hw8⟩
  rw [has_b4] at he
  subst he
  have B8 := hide (chain (unhide B7) hw8)
  have X2d := hide ((unhide X2c).below hw8)
  have O2e := hide ((unhide O2d).below hw8)
  clear hw8 X2c O2d B7
  obtain ⟨b0, b1, b2, b3, b4, b5⟩ := unhide X2d
  go_wp2_with fail
  refine (has_any false true true _ [] 4 2147483648 [48, 52] _ ((unhide HL).below (unhide B8)) (unhide O2e) (sh _ (by decide))).mono ?_
  clear b0 b1 b2 b3 b4 b5
  rintro e w9 ⟨he, hw9⟩
  rw [has_b04] at he
  subst he
  have B9 := hide (chain (unhide B8) hw9)
  clear hw9 X2d O2e B8
  go_wp2_with fail
  refine (value_any ⟨#[120, 45, 49]⟩ _ (by decide) ((unhide HL).below (unhide B9))).mono ?_
  rintro e w10 ⟨he, hw10⟩
  rw [show (ByteArray.mk #[120, 45, 49]).data.toList = [120, 45, 49] from rfl, unhide v0] at he
  subst he
  have B10 := hide (chain (unhide B9) hw10)
  clear hw10 B9
  go_wp2_with fail
  refine (name_any ⟨#[53]⟩ _ (by decide)).mono ?_
  rintro e w11 ⟨he, hw11⟩
  rw [show (ByteArray.mk #[53]).data.toList = [53] from rfl, unhide v1] at he
  subst he
  obtain rfl := hw11.symm
  clear hw11
  go_wp2_with fail
  go_ret
  exact ⟨rfl, unhide B10⟩

end Go.Proofs.YtkeibapcfbajjabDoor
