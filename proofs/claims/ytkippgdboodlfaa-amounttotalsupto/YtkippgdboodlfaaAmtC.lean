/- Layer 1: contracts of Add and Sub, of the program and of the document's answer. -/
import Derived.Test.YtkippgdboodlfaaAmtB
namespace Go.Proofs.Ytkippgdboodlfaa
open Go.RowKit

/-- The error of a sum, and of a difference. -/
def eAdd (a b c d : Int) : Int := fst2 (chkB a b c d) (chkA (a + c) (b + d))
def eSub (a b c d : Int) : Int := fst2 (chkB a b c d) (if c ≤ a ∧ d ≤ b then 0 else 11)
theorem eAdd_yes (a b c d : Int) (h : chkB a b c d = 0) : eAdd a b c d = chkA (a + c) (b + d) := by unfold eAdd; rw [h]; exact fst2_zero _
theorem eAdd_no (a b c d : Int) (h : ¬ chkB a b c d = 0) : eAdd a b c d = chkB a b c d := fst2_ne _ h
theorem chkB_bd (a b c d : Int) (h : chkB a b c d = 0) : (0 ≤ a ∧ a ≤ 1125899906842624) ∧ (0 ≤ b ∧ b ≤ 1125899906842624) ∧ (0 ≤ c ∧ c ≤ 1125899906842624) ∧ (0 ≤ d ∧ d ≤ 1125899906842624) := by
  rw [chkB_iff, chkA_iff, chkA_iff] at h
  exact ⟨h.1.1, h.1.2, h.2.1, h.2.2⟩
theorem below3' {w w1 : World} {x y z : Obj} (h : Below (((w.alloc x).alloc y).alloc z).heap.size (((w.alloc x).alloc y).alloc z) w1) : Below w.heap.size w w1 :=
  below3.trans (h.mono (by simp; omega))

set_option maxHeartbeats 400000 in
theorem add_any (a b c d : Int) (w : World) :
    Calls Try.prog 16 #[.agg #[.int .i64 a, .int .i64 b], .agg #[.int .i64 c, .int .i64 d]] w fun e w' => e = two (keep (eAdd a b c d) (a + c)) (keep (eAdd a b c d) (b + d)) (eAdd a b c d) ∧ Below w.heap.size w w' := by
  by_cases h : chkB a b c d = 0
  · obtain ⟨⟨a0, a1⟩, ⟨b0, b1⟩, ⟨c0, c1⟩, ⟨d0, d1⟩⟩ := chkB_bd a b c d h
    have he := hide (eAdd_yes a b c d h)
    have ht : (chkB a b c d != 0) = false := by simp [h]
    clear h
    go_enter Try.func16, Try.ntmps16
    go_wp2_with fail
    refine (checkBoth_any _ _ _ _ _).mono ?_
    rintro e w1 ⟨rfl, hw1⟩
    obtain ⟨hc1, hf1⟩ := bcell hw1
    go_wp2_with fail
    refine (told_any _ _ _).mono ?_
    rintro e w2 ⟨rfl, hw2⟩
    obtain ⟨hc2, hf2⟩ := bcell hw2
    have hz : w.heap.size + 2 < w1.heap.size := by have := hw1.size; simp at this; omega
    go_wp2_with fail
    exact bodyPost_ret (v := .tuple #[.agg #[.int .i64 (keep (chkA (a + c) (b + d)) (a + c)), .int .i64 (keep (chkA (a + c) (b + d)) (b + d))], .int .i64 (chkA (a + c) (b + d))])
      (by simp [results, Try.results16, go_sem, hc1, hc2, hz]) rfl
      ⟨by rw [unhide he], (((below3' hw1).trans (hw2.mono (by have := (below3' hw1).size; omega))).setCell (by simp; omega) _).setCell (by simp; omega) _⟩
  · have he := hide (eAdd_no a b c d h)
    have ha := hide (keep_no (chkB a b c d) (a + c) h)
    have hb := hide (keep_no (chkB a b c d) (b + d) h)
    have ht : (chkB a b c d != 0) = true := by simp [h]
    clear h
    go_enter Try.func16, Try.ntmps16
    go_wp2_with fail
    refine (checkBoth_any _ _ _ _ _).mono ?_
    rintro e w1 ⟨rfl, hw1⟩
    obtain ⟨hc1, hf1⟩ := bcell hw1
    go_wp2_with fail
    exact bodyPost_ret (v := .tuple #[.agg #[.int .i64 0, .int .i64 0], .int .i64 (chkB a b c d)]) (by simp [results, Try.results16, go_sem, hc1]) rfl
      ⟨by rw [unhide he]; exact two_eq (unhide ha).symm (unhide hb).symm rfl, ((below3' hw1).setCell (by simp; omega) _).setCell (by simp; omega) _⟩

theorem eSub_yes (a b c d : Int) (h : chkB a b c d = 0) (g : c ≤ a ∧ d ≤ b) : eSub a b c d = 0 := by unfold eSub; rw [h, if_pos g]; exact fst2_zero _
theorem eSub_low (a b c d : Int) (h : chkB a b c d = 0) (g : ¬ (c ≤ a ∧ d ≤ b)) : eSub a b c d = 11 := by unfold eSub; rw [h, if_neg g]; exact fst2_zero _
theorem eSub_no (a b c d : Int) (h : ¬ chkB a b c d = 0) : eSub a b c d = chkB a b c d := fst2_ne _ h
theorem fitsB_back (a b c d : Int) (h : chkB a b c d = 0) : fitsB c d a b = decide (c ≤ a ∧ d ≤ b) := by
  have : chkB c d a b = 0 := by rw [chkB_iff] at h ⊢; exact ⟨h.2, h.1⟩
  unfold fitsB; simp [this]

set_option maxHeartbeats 400000 in
theorem sub_any (a b c d : Int) (w : World) :
    Calls Try.prog 18 #[.agg #[.int .i64 a, .int .i64 b], .agg #[.int .i64 c, .int .i64 d]] w fun e w' => e = two (keep (eSub a b c d) (a - c)) (keep (eSub a b c d) (b - d)) (eSub a b c d) ∧ Below w.heap.size w w' := by
  by_cases h : chkB a b c d = 0
  · obtain ⟨⟨a0, a1⟩, ⟨b0, b1⟩, ⟨c0, c1⟩, ⟨d0, d1⟩⟩ := chkB_bd a b c d h
    by_cases g : c ≤ a ∧ d ≤ b
    · have he := hide (eSub_yes a b c d h g)
      have hx := fitsB_back a b c d h
      rw [decide_eq_true g] at hx
      have ha := hide (keep_yes 0 (a - c) rfl)
      have hb := hide (keep_yes 0 (b - d) rfl)
      have ht : (chkB a b c d != 0) = false := by simp [h]
      obtain ⟨g1, g2⟩ := g
      clear h
      go_enter Try.func18, Try.ntmps18
      go_wp2_with fail
      refine (checkBoth_any _ _ _ _ _).mono ?_
      rintro e w1 ⟨rfl, hw1⟩
      obtain ⟨hc1, hf1⟩ := bcell hw1
      go_wp2_with fail
      refine (fits_any _ _ _ _ _).mono ?_
      rintro e w2 ⟨rfl, hw2⟩
      obtain ⟨hc2, hf2⟩ := bcell hw2
      have hz : w.heap.size + 2 < w1.heap.size := by have := hw1.size; simp at this; omega
      have hz0 : w.heap.size < w1.heap.size := by omega
      have hz1 : w.heap.size + 1 < w1.heap.size := by omega
      go_wp2_with fail
      exact bodyPost_ret (v := .tuple #[.agg #[.int .i64 (a - c), .int .i64 (b - d)], .int .i64 0])
        (by simp [results, Try.results18, go_sem, hc1, hc2, hz]) rfl
        ⟨by rw [unhide he]; exact two_eq (unhide ha).symm (unhide hb).symm rfl, (((below3' hw1).trans (hw2.mono (by have := (below3' hw1).size; omega))).setCell (by simp; omega) _).setCell (by simp; omega) _⟩
    · have he := hide (eSub_low a b c d h g)
      have hx := fitsB_back a b c d h
      rw [decide_eq_false g] at hx
      have ha := hide (keep_no 11 (a - c) (by omega))
      have hb := hide (keep_no 11 (b - d) (by omega))
      have ht : (chkB a b c d != 0) = false := by simp [h]
      clear h g
      go_enter Try.func18, Try.ntmps18
      go_wp2_with fail
      refine (checkBoth_any _ _ _ _ _).mono ?_
      rintro e w1 ⟨rfl, hw1⟩
      obtain ⟨hc1, hf1⟩ := bcell hw1
      go_wp2_with fail
      refine (fits_any _ _ _ _ _).mono ?_
      rintro e w2 ⟨rfl, hw2⟩
      obtain ⟨hc2, hf2⟩ := bcell hw2
      have hz : w.heap.size + 2 < w1.heap.size := by have := hw1.size; simp at this; omega
      go_wp2_with fail
      exact bodyPost_ret (v := .tuple #[.agg #[.int .i64 0, .int .i64 0], .int .i64 11])
        (by simp [results, Try.results18, go_sem, hc1, hc2, hz]) rfl
        ⟨by rw [unhide he]; exact two_eq (unhide ha).symm (unhide hb).symm rfl, (((below3' hw1).trans (hw2.mono (by have := (below3' hw1).size; omega))).setCell (by simp; omega) _).setCell (by simp; omega) _⟩
  · have he := hide (eSub_no a b c d h)
    have ha := hide (keep_no (chkB a b c d) (a - c) h)
    have hb := hide (keep_no (chkB a b c d) (b - d) h)
    have ht : (chkB a b c d != 0) = true := by simp [h]
    clear h
    go_enter Try.func18, Try.ntmps18
    go_wp2_with fail
    refine (checkBoth_any _ _ _ _ _).mono ?_
    rintro e w1 ⟨rfl, hw1⟩
    obtain ⟨hc1, hf1⟩ := bcell hw1
    go_wp2_with fail
    exact bodyPost_ret (v := .tuple #[.agg #[.int .i64 0, .int .i64 0], .int .i64 (chkB a b c d)]) (by simp [results, Try.results18, go_sem, hc1]) rfl
      ⟨by rw [unhide he]; exact two_eq (unhide ha).symm (unhide hb).symm rfl, ((below3' hw1).setCell (by simp; omega) _).setCell (by simp; omega) _⟩

set_option maxHeartbeats 400000 in
theorem radd_any (a b c d : Int) (w : World) :
    Calls Try.prog 17 #[.agg #[.int .i64 a, .int .i64 b], .agg #[.int .i64 c, .int .i64 d]] w fun e w' => e = two (keep (eAdd a b c d) (a + c)) (keep (eAdd a b c d) (b + d)) (eAdd a b c d) ∧ Below w.heap.size w w' := by
  by_cases h : chkB a b c d = 0
  · obtain ⟨⟨a0, a1⟩, ⟨b0, b1⟩, ⟨c0, c1⟩, ⟨d0, d1⟩⟩ := chkB_bd a b c d h
    by_cases g : chkA (a + c) (b + d) = 0
    · have he := hide ((eAdd_yes a b c d h).trans g)
      have ha := hide (keep_yes 0 (a + c) rfl)
      have hb := hide (keep_yes 0 (b + d) rfl)
      have ht : (chkB a b c d != 0) = false := by simp [h]
      have hg : (chkA (a + c) (b + d) != 0) = false := by simp [g]
      clear h g
      go_enter Try.func17, Try.ntmps17
      go_wp2_with fail
      refine (rboth_any _ _ _ _ _).mono ?_
      rintro e w1 ⟨rfl, hw1⟩
      obtain ⟨hc1, hf1⟩ := bcell hw1
      go_wp2_with fail
      refine (rcheckAll_any _ _ _).mono ?_
      rintro e w2 ⟨rfl, hw2⟩
      obtain ⟨hc2, hf2⟩ := bcell hw2
      have hz : w.heap.size + 1 + 1 < w1.heap.size := by have := hw1.size; simp at this; omega
      have hz1 : w.heap.size + 1 + 1 < w1.heap.size + 1 := by omega
      have hz2 : ¬ w.heap.size + 1 + 1 = w1.heap.size := by omega
      go_wp2_with fail
      exact bodyPost_ret (v := .tuple #[.agg #[.int .i64 (a + c), .int .i64 (b + d)], .int .i64 0])
        (by simp [results, Try.results17, go_sem, hc1, hc2, hz, hz1]) rfl
        ⟨by rw [unhide he]; exact two_eq (unhide ha).symm (unhide hb).symm rfl, ((((below3' hw1).alloc (by have := (below3' hw1).size; omega) _).trans (hw2.mono (by have := (below3' hw1).size; simp; omega))).setCell (by simp; omega) _).setCell (by simp; omega) _⟩
    · have he := hide (eAdd_yes a b c d h)
      have ha := hide (keep_no (chkA (a + c) (b + d)) (a + c) g)
      have hb := hide (keep_no (chkA (a + c) (b + d)) (b + d) g)
      have ht : (chkB a b c d != 0) = false := by simp [h]
      have hg : (chkA (a + c) (b + d) != 0) = true := by simp [g]
      clear h g
      go_enter Try.func17, Try.ntmps17
      go_wp2_with fail
      refine (rboth_any _ _ _ _ _).mono ?_
      rintro e w1 ⟨rfl, hw1⟩
      obtain ⟨hc1, hf1⟩ := bcell hw1
      go_wp2_with fail
      refine (rcheckAll_any _ _ _).mono ?_
      rintro e w2 ⟨rfl, hw2⟩
      obtain ⟨hc2, hf2⟩ := bcell hw2
      have hz : w.heap.size + 1 + 1 < w1.heap.size := by have := hw1.size; simp at this; omega
      have hz1 : w.heap.size + 1 + 1 < w1.heap.size + 1 := by omega
      have hz2 : ¬ w.heap.size + 1 + 1 = w1.heap.size := by omega
      go_wp2_with fail
      exact bodyPost_ret (v := .tuple #[.agg #[.int .i64 0, .int .i64 0], .int .i64 (chkA (a + c) (b + d))])
        (by simp [results, Try.results17, go_sem, hc1, hc2, hz, hz1]) rfl
        ⟨by rw [unhide he]; exact two_eq (unhide ha).symm (unhide hb).symm rfl, ((((below3' hw1).alloc (by have := (below3' hw1).size; omega) _).trans (hw2.mono (by have := (below3' hw1).size; simp; omega))).setCell (by simp; omega) _).setCell (by simp; omega) _⟩
  · have he := hide (eAdd_no a b c d h)
    have ha := hide (keep_no (chkB a b c d) (a + c) h)
    have hb := hide (keep_no (chkB a b c d) (b + d) h)
    have ht : (chkB a b c d != 0) = true := by simp [h]
    clear h
    go_enter Try.func17, Try.ntmps17
    go_wp2_with fail
    refine (rboth_any _ _ _ _ _).mono ?_
    rintro e w1 ⟨rfl, hw1⟩
    obtain ⟨hc1, hf1⟩ := bcell hw1
    go_wp2_with fail
    exact bodyPost_ret (v := .tuple #[.agg #[.int .i64 0, .int .i64 0], .int .i64 (chkB a b c d)]) (by simp [results, Try.results17, go_sem, hc1]) rfl
      ⟨by rw [unhide he]; exact two_eq (unhide ha).symm (unhide hb).symm rfl, ((below3' hw1).setCell (by simp; omega) _).setCell (by simp; omega) _⟩

set_option maxHeartbeats 400000 in
theorem rsub_any (a b c d : Int) (w : World) :
    Calls Try.prog 19 #[.agg #[.int .i64 a, .int .i64 b], .agg #[.int .i64 c, .int .i64 d]] w fun e w' => e = two (keep (eSub a b c d) (a - c)) (keep (eSub a b c d) (b - d)) (eSub a b c d) ∧ Below w.heap.size w w' := by
  by_cases h : chkB a b c d = 0
  · obtain ⟨⟨a0, a1⟩, ⟨b0, b1⟩, ⟨c0, c1⟩, ⟨d0, d1⟩⟩ := chkB_bd a b c d h
    by_cases g : c ≤ a ∧ d ≤ b
    · have he := hide (eSub_yes a b c d h g)
      have ha := hide (keep_yes 0 (a - c) rfl)
      have hb := hide (keep_yes 0 (b - d) rfl)
      have ht : (chkB a b c d != 0) = false := by simp [h]
      obtain ⟨g1, g2⟩ := g
      clear h
      go_enter Try.func19, Try.ntmps19
      go_wp2_with fail
      refine (rboth_any _ _ _ _ _).mono ?_
      rintro e w1 ⟨rfl, hw1⟩
      obtain ⟨hc1, hf1⟩ := bcell hw1
      go_wp2_with fail
      exact bodyPost_ret (v := .tuple #[.agg #[.int .i64 (a - c), .int .i64 (b - d)], .int .i64 0])
        (by simp [results, Try.results19, go_sem, hc1]) rfl
        ⟨by rw [unhide he]; exact two_eq (unhide ha).symm (unhide hb).symm rfl, ((below3' hw1).setCell (by simp; omega) _).setCell (by simp; omega) _⟩
    · have he := hide (eSub_low a b c d h g)
      have ha := hide (keep_no 11 (a - c) (by omega))
      have hb := hide (keep_no 11 (b - d) (by omega))
      have ht : (chkB a b c d != 0) = false := by simp [h]
      clear h
      by_cases g1 : c ≤ a
      · have g2 : ¬ d ≤ b := fun x => g ⟨g1, x⟩
        clear g
        go_enter Try.func19, Try.ntmps19
        go_wp2_with fail
        refine (rboth_any _ _ _ _ _).mono ?_
        rintro e w1 ⟨rfl, hw1⟩
        obtain ⟨hc1, hf1⟩ := bcell hw1
        go_wp2_with fail
        exact bodyPost_ret (v := .tuple #[.agg #[.int .i64 0, .int .i64 0], .int .i64 11])
          (by simp [results, Try.results19, go_sem, hc1]) rfl
          ⟨by rw [unhide he]; exact two_eq (unhide ha).symm (unhide hb).symm rfl, ((below3' hw1).setCell (by simp; omega) _).setCell (by simp; omega) _⟩
      · clear g
        go_enter Try.func19, Try.ntmps19
        go_wp2_with fail
        refine (rboth_any _ _ _ _ _).mono ?_
        rintro e w1 ⟨rfl, hw1⟩
        obtain ⟨hc1, hf1⟩ := bcell hw1
        go_wp2_with fail
        exact bodyPost_ret (v := .tuple #[.agg #[.int .i64 0, .int .i64 0], .int .i64 11])
          (by simp [results, Try.results19, go_sem, hc1]) rfl
          ⟨by rw [unhide he]; exact two_eq (unhide ha).symm (unhide hb).symm rfl, ((below3' hw1).setCell (by simp; omega) _).setCell (by simp; omega) _⟩
  · have he := hide (eSub_no a b c d h)
    have ha := hide (keep_no (chkB a b c d) (a - c) h)
    have hb := hide (keep_no (chkB a b c d) (b - d) h)
    have ht : (chkB a b c d != 0) = true := by simp [h]
    clear h
    go_enter Try.func19, Try.ntmps19
    go_wp2_with fail
    refine (rboth_any _ _ _ _ _).mono ?_
    rintro e w1 ⟨rfl, hw1⟩
    obtain ⟨hc1, hf1⟩ := bcell hw1
    go_wp2_with fail
    exact bodyPost_ret (v := .tuple #[.agg #[.int .i64 0, .int .i64 0], .int .i64 (chkB a b c d)]) (by simp [results, Try.results19, go_sem, hc1]) rfl
      ⟨by rw [unhide he]; exact two_eq (unhide ha).symm (unhide hb).symm rfl, ((below3' hw1).setCell (by simp; omega) _).setCell (by simp; omega) _⟩

end Go.Proofs.Ytkippgdboodlfaa
