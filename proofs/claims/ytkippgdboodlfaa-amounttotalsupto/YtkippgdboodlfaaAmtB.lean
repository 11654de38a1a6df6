/- Layer 1: contracts of lower, Fits, Add, Sub, of the program and of the document's answer. -/
import Derived.Test.YtkippgdboodlfaaAmtA
import Derived.Deep.RegionHeld3
import Derived.Deep.QuietTactic
import Derived.BigQuiet
import Derived.ChangeKeysEq
namespace Go.Proofs.Ytkippgdboodlfaa
open Go.RowKit

def lo (a b : Int) : Int := if a ≤ b then a else b
theorem lo_eq (a b : Int) (h : a ≤ b) : lo a b = a := by unfold lo; rw [if_pos h]
theorem lo_ne (a b : Int) (h : ¬ a ≤ b) : ¬ lo a b = a := by unfold lo; rw [if_neg h]; omega

theorem below3 {w : World} {x y z : Obj} : Below w.heap.size w (((w.alloc x).alloc y).alloc z) :=
  (((Below.refl _ _).alloc (Nat.le_refl _) _).alloc (by simp) _).alloc (by simp; omega) _
theorem lo_ne' (a b : Int) (h : ¬ a ≤ b) : lo a b = b := by unfold lo; rw [if_neg h]
theorem ret_two {a b a' b' : Int} (h : a = a') (h1 : b = b') : Ending.returned (.agg #[.int .i64 a, .int .i64 b]) = .returned (.agg #[.int .i64 a', .int .i64 b']) := by
  subst h h1; rfl

set_option maxHeartbeats 400000 in
theorem lower_any (a b c d : Int) (w : World) :
    Calls Try.prog 30 #[.agg #[.int .i64 a, .int .i64 b], .agg #[.int .i64 c, .int .i64 d]] w fun e w' => e = .returned (.agg #[.int .i64 (lo a c), .int .i64 (lo b d)]) ∧ Below w.heap.size w w' := by
  by_cases h : a ≤ c
  · by_cases g : b ≤ d
    · have e1 := hide (lo_eq a c h)
      have e2 := hide (lo_eq b d g)
      go_enter Try.func30, Try.ntmps30
      go_wp2
      exact bodyPost_ret (v := .agg #[.int .i64 a, .int .i64 b]) (by simp [results, Try.results30, go_sem]) rfl ⟨ret_two (unhide e1).symm (unhide e2).symm, below3⟩
    · have e1 := hide (lo_eq a c h)
      have e2 := hide (lo_ne' b d g)
      go_enter Try.func30, Try.ntmps30
      go_wp2
      exact bodyPost_ret (v := .agg #[.int .i64 a, .int .i64 d]) (by simp [results, Try.results30, go_sem]) rfl ⟨ret_two (unhide e1).symm (unhide e2).symm, below3⟩
  · by_cases g : b ≤ d
    · have e1 := hide (lo_ne' a c h)
      have e2 := hide (lo_eq b d g)
      go_enter Try.func30, Try.ntmps30
      go_wp2
      exact bodyPost_ret (v := .agg #[.int .i64 c, .int .i64 b]) (by simp [results, Try.results30, go_sem]) rfl ⟨ret_two (unhide e1).symm (unhide e2).symm, below3⟩
    · have e1 := hide (lo_ne' a c h)
      have e2 := hide (lo_ne' b d g)
      go_enter Try.func30, Try.ntmps30
      go_wp2
      exact bodyPost_ret (v := .agg #[.int .i64 c, .int .i64 d]) (by simp [results, Try.results30, go_sem]) rfl ⟨ret_two (unhide e1).symm (unhide e2).symm, below3⟩

theorem Try.cells2 : Try.prog.cellsOf 2 = 1 := by kernel_rfl
theorem eq2 (w : World) (a b c d : Int) :
    (Op.equalIn 10000 26 (.agg #[.int .i64 a, .int .i64 b]) (.agg #[.int .i64 c, .int .i64 d])).run Try.prog w = .ok (a == c && b == d) w := by
  obtain ⟨i, hi⟩ : ∃ i, Try.prog.info? 2 = some i := ⟨_, rfl⟩
  rw [run_equalIn_array w 9999 #[.int .i64 a, .int .i64 b] #[.int .i64 c, .int .i64 d] Try.underlying26 hi, Try.cells2]
  show (Op.eqItems 9999 2 1 #[.int .i64 a, .int .i64 b] #[.int .i64 c, .int .i64 d] [0, 1]).run Try.prog w = _
  have h := fun (x y : Int) => run_equalIn_int (P := Try.prog) w 9998 2 .i64 .i64 x y Try.underlying2
  simp only [Op.eqItems, Sem.run_bind, part, isAgg, run_underlying Try.underlying2]
  simp [h]
  by_cases h1 : a = c <;> by_cases h2 : b = d <;> simp [h1, h2]
attribute [local go_sem] eq2

/-- Two boxed pairs lie at block B and the one behind it; all below B is as it was. -/
theorem keep_two {w W w1 : World} {B : Nat} {a b c d : Value}
    (h : W.cell? ⟨B, 0, none⟩ = some a ∧ W.cell? ⟨B, 1, none⟩ = some b ∧ W.cell? ⟨B + 1, 0, none⟩ = some c ∧ W.cell? ⟨B + 1, 1, none⟩ = some d ∧ Below B w W)
    (hb : Below W.heap.size W w1) :
    w1.cell? ⟨B, 0, none⟩ = some a ∧ w1.cell? ⟨B, 1, none⟩ = some b ∧ w1.cell? ⟨B + 1, 0, none⟩ = some c ∧ w1.cell? ⟨B + 1, 1, none⟩ = some d ∧ Below B w w1 := by
  obtain ⟨h1, h2, h3, h4, h5⟩ := h
  have l1 := World.block_lt_of_cell? W _ h1
  have l3 := World.block_lt_of_cell? W _ h3
  refine ⟨by rw [hb.cell (by exact l1)]; exact h1, by rw [hb.cell (by exact l1)]; exact h2, by rw [hb.cell (by exact l3)]; exact h3, by rw [hb.cell (by exact l3)]; exact h4, h5.trans (hb.mono (Nat.le_of_lt l1))⟩
theorem start_two {w : World} {a b c d : Value} {t : TypeId} :
    (((w.alloc (.cells #[a, b] t)).alloc (.cells #[c, d] t)).drew).cell? ⟨w.heap.size, 0, none⟩ = some a ∧ (((w.alloc (.cells #[a, b] t)).alloc (.cells #[c, d] t)).drew).cell? ⟨w.heap.size, 1, none⟩ = some b ∧
    (((w.alloc (.cells #[a, b] t)).alloc (.cells #[c, d] t)).drew).cell? ⟨w.heap.size + 1, 0, none⟩ = some c ∧ (((w.alloc (.cells #[a, b] t)).alloc (.cells #[c, d] t)).drew).cell? ⟨w.heap.size + 1, 1, none⟩ = some d ∧
    Below w.heap.size w (((w.alloc (.cells #[a, b] t)).alloc (.cells #[c, d] t)).drew) :=
  ⟨by simp [go_sem], by simp [go_sem], by simp [go_sem], by simp [go_sem], (((Below.refl _ _).alloc (Nat.le_refl _) _).alloc (by simp) _).drew⟩

theorem below2d {w w1 : World} {x y : Obj} (h : Below ((w.alloc x).alloc y).drew.heap.size ((w.alloc x).alloc y).drew w1) : Below w.heap.size w w1 :=
  (((((Below.refl _ _).alloc (Nat.le_refl _) _).alloc (by simp) _).drew).trans (h.mono (by simp; omega)))

set_option maxHeartbeats 400000 in
theorem fits_yes (a b c d : Int) (w : World) (h : chkB a b c d = 0) :
    Calls Try.prog 15 #[.agg #[.int .i64 a, .int .i64 b], .agg #[.int .i64 c, .int .i64 d]] w fun e w' => e = .returned (.bool (lo a c == a && lo b d == b)) ∧ Below w.heap.size w w' := by
  have ht : (chkB a b c d == 0) = true := by simp [h]
  clear h
  go_enter Try.func15, Try.ntmps15
  go_wp2
  go_region_held3 (fun W => W.cell? ⟨w.heap.size, 0, none⟩ = some (.int .i64 a) ∧ W.cell? ⟨w.heap.size, 1, none⟩ = some (.int .i64 b) ∧ W.cell? ⟨w.heap.size + 1, 0, none⟩ = some (.int .i64 c) ∧ W.cell? ⟨w.heap.size + 1, 1, none⟩ = some (.int .i64 d) ∧ Below w.heap.size w W)
    (first | exact start_two | exact keep_two ‹_› hw2 | exact keep_two ‹_› hw1 | assumption)
    (first
    | (go_at_call 29; refine (checkBoth_any _ _ _ _ _).mono ?_; rintro e w1 ⟨rfl, hw1⟩)
    | (go_at_call 30; refine (lower_any _ _ _ _ _).mono ?_; rintro e w2 ⟨rfl, hw2⟩))
  rename_i hH
  go_wp2
  go_ret
  exact ⟨rfl, hH.2.2.2.2⟩

set_option maxHeartbeats 400000 in
theorem fits_no (a b c d : Int) (w : World) (h : ¬ chkB a b c d = 0) :
    Calls Try.prog 15 #[.agg #[.int .i64 a, .int .i64 b], .agg #[.int .i64 c, .int .i64 d]] w fun e w' => e = .returned (.bool false) ∧ Below w.heap.size w w' := by
  have ht : (chkB a b c d == 0) = false := by simp [h]
  clear h
  go_enter Try.func15, Try.ntmps15
  go_wp2
  go_region_with (first
    | (go_at_call 29; refine (checkBoth_any _ _ _ _ _).mono ?_; rintro e w1 ⟨rfl, hw1⟩))
  all_goals (go_wp2; go_ret; exact ⟨rfl, below2d hw1⟩)

theorem fits_eq (a b c d : Int) : (lo a c == a && lo b d == b) = decide (a ≤ c ∧ b ≤ d) := by
  by_cases h : a ≤ c
  · by_cases g : b ≤ d
    · rw [lo_eq a c h, lo_eq b d g]; simp [h, g]
    · have := lo_ne b d g; simp [h, g, this]
  · have := lo_ne a c h; simp [h, this]
/-- Whether the first pair fits into the second. -/
def fitsB (a b c d : Int) : Bool := decide (chkB a b c d = 0 ∧ a ≤ c ∧ b ≤ d)
theorem fits_any (a b c d : Int) (w : World) :
    Calls Try.prog 15 #[.agg #[.int .i64 a, .int .i64 b], .agg #[.int .i64 c, .int .i64 d]] w fun e w' => e = .returned (.bool (fitsB a b c d)) ∧ Below w.heap.size w w' := by
  by_cases h : chkB a b c d = 0
  · refine (fits_yes a b c d w h).mono ?_
    rintro e w' ⟨rfl, hb⟩
    refine ⟨?_, hb⟩
    rw [fits_eq]; unfold fitsB; simp [h]
  · refine (fits_no a b c d w h).mono ?_
    rintro e w' ⟨rfl, hb⟩
    refine ⟨?_, hb⟩
    unfold fitsB; simp [h]

theorem ret_bool {x y : Bool} (h : x = y) : Ending.returned (.bool x) = .returned (.bool y) := by rw [h]

set_option maxHeartbeats 400000 in
theorem rfits_any (a b c d : Int) (w : World) :
    Calls Try.prog 13 #[.agg #[.int .i64 a, .int .i64 b], .agg #[.int .i64 c, .int .i64 d]] w fun e w' => e = .returned (.bool (fitsB a b c d)) ∧ Below w.heap.size w w' := by
  by_cases h : chkB a b c d = 0
  · by_cases hac : a ≤ c
    · have hf := hide (show fitsB a b c d = decide (b ≤ d) by unfold fitsB; simp [h, hac])
      have ht : (chkB a b c d == 0) = true := by simp [h]
      clear h
      go_enter Try.func13, Try.ntmps13
      go_wp2_with fail
      refine (rboth_any _ _ _ _ _).mono ?_
      rintro e w1 ⟨rfl, hw1⟩
      obtain ⟨hc1, hf1⟩ := bcell hw1
      go_wp2_with fail
      go_ret
      exact ⟨ret_bool (unhide hf).symm, below2 hw1⟩
    · have hf := hide (show fitsB a b c d = false by unfold fitsB; simp [h, hac])
      have ht : (chkB a b c d == 0) = true := by simp [h]
      clear h
      go_enter Try.func13, Try.ntmps13
      go_wp2_with fail
      refine (rboth_any _ _ _ _ _).mono ?_
      rintro e w1 ⟨rfl, hw1⟩
      obtain ⟨hc1, hf1⟩ := bcell hw1
      go_wp2_with fail
      go_ret
      exact ⟨ret_bool (unhide hf).symm, below2 hw1⟩
  · have hf := hide (show fitsB a b c d = false by unfold fitsB; simp [h])
    have ht : (chkB a b c d == 0) = false := by simp [h]
    clear h
    go_enter Try.func13, Try.ntmps13
    go_wp2_with fail
    refine (rboth_any _ _ _ _ _).mono ?_
    rintro e w1 ⟨rfl, hw1⟩
    obtain ⟨hc1, hf1⟩ := bcell hw1
    go_wp2_with fail
    go_ret
    exact ⟨ret_bool (unhide hf).symm, below2 hw1⟩

end Go.Proofs.Ytkippgdboodlfaa
