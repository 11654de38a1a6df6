/- Layer 1: what a few calls answer ('live'). -/
import Derived.Test.YtkippgdboodlfaaAmtF
namespace Go.Proofs.Ytkippgdboodlfaa
open Go.RowKit
attribute [local go_sem] eq2

set_option maxHeartbeats 1000000 in
theorem live_any (w : World) : Calls Try.prog 9 #[] w fun e w' => e = .returned (.bool true) ∧ Below w.heap.size w w' := by
  have eA := hide (show eAdd 1 2 3 4 = 0 by decide)
  have eS := hide (show eSub 3 4 1 4 = 0 by decide)
  have eM := hide (show eSum [(1, 1), (2, 3), (4, 5)] = 0 by decide)
  have eM1 := hide (show sumA [(1, 1), (2, 3), (4, 5)] = 7 by decide)
  have eM2 := hide (show sumB [(1, 1), (2, 3), (4, 5)] = 9 by decide)
  have eT := hide (show eTot [1, 2, 3] = 0 by decide)
  have eT1 := hide (show zsum [1, 2, 3] = 6 by decide)
  have eC := hide (show chkA 258 1125899906842624 = 0 by decide)
  have eF := hide (show fitsB 1 1 1 2 = true by decide)
  have eK := hide (show chk (-1) = 11 by decide)
  go_enter Try.func9, Try.ntmps9
  go_wp2_with fail
  refine (add_any _ _ _ _ _).mono ?_
  rintro e w1 ⟨he, hw1⟩
  rw [unhide eA, keep_yes 0 _ rfl, keep_yes 0 _ rfl] at he
  subst he
  have z1 := hw1.size
  have L1 := hide hw1
  clear hw1
  go_wp2_with fail
  refine (sub_any _ _ _ _ _).mono ?_
  rintro e w2 ⟨he, hw2⟩
  rw [unhide eS, keep_yes 0 _ rfl, keep_yes 0 _ rfl] at he
  subst he
  have z2 := hw2.size
  simp at z2
  have a0 := cell_kept hw2 (p := ⟨w1.heap.size, 0, none⟩) (v := .int .i64 4) (by simp [go_sem])
  have a1 := cell_kept hw2 (p := ⟨w1.heap.size, 1, none⟩) (v := .int .i64 6) (by simp [go_sem])
  have L2 : Hid (Below w.heap.size w w2) := ((unhide L1).alloc z1 _).trans (hw2.mono (by simp; omega))
  clear hw2
  go_wp2_with fail
  refine (sum_any [(1, 1), (2, 3), (4, 5)] _ (w2.heap.size + 1) 0 3 3 _ rfl (by decide) (fun _ => rfl) ?_).mono ?_
  · intro i hi
    match i, hi with
    | 0, _ | 1, _ | 2, _ => exact ⟨by simp [go_sem], by simp [go_sem]⟩
  rintro e w3 ⟨he, hw3⟩
  rw [unhide eM, keep_yes 0 _ rfl, keep_yes 0 _ rfl, unhide eM1, unhide eM2] at he
  subst he
  have z3 := hw3.size
  simp at z3
  have y1 : w1.heap.size < w2.heap.size := by omega
  have b0 := cell_kept hw3 (p := ⟨w1.heap.size, 0, none⟩) (v := .int .i64 4) (by simp [go_sem, a0, y1])
  have b1 := cell_kept hw3 (p := ⟨w1.heap.size, 1, none⟩) (v := .int .i64 6) (by simp [go_sem, a1, y1])
  have b2 := cell_kept hw3 (p := ⟨w2.heap.size, 0, none⟩) (v := .int .i64 2) (by simp [go_sem])
  have b3 := cell_kept hw3 (p := ⟨w2.heap.size, 1, none⟩) (v := .int .i64 0) (by simp [go_sem])
  have L3 : Hid (Below w.heap.size w w3) := (((unhide L2).alloc (by omega) _).alloc (by simp; omega) _).trans (hw3.mono (by simp; omega))
  clear hw3 a0 a1
  go_wp2_with fail
  refine (total_any [1, 2, 3] _ (w3.heap.size + 1) 0 3 3 _ rfl (by decide) (fun _ => rfl) ?_).mono ?_
  · intro i hi
    match i, hi with
    | 0, _ | 1, _ | 2, _ => simp [go_sem]
  rintro e w4 ⟨he, rfl⟩
  rw [unhide eT, keep_yes 0 _ rfl, unhide eT1] at he
  subst he
  go_wp2_with fail
  refine (pack_any _ _ _).mono ?_
  rintro e w5 ⟨he, hw5⟩
  obtain ⟨f, hf⟩ : ∃ f : Nat → Int, f = fun j => keep (chkA 258 1125899906842624) (pbs 258 1125899906842624 j) := ⟨_, rfl⟩
  rw [← hf, unhide eC] at he
  have f0 : f 0 = 2 := by rw [hf]; decide
  have f1 : f 1 = 1 := by rw [hf]; decide
  have f13 : f 13 = 4 := by rw [hf]; decide
  clear hf
  subst he
  have z5 := hw5.size
  simp at z5
  have y2 : w1.heap.size < w3.heap.size := by omega
  have y3 : w2.heap.size < w3.heap.size := by omega
  have c0 := cell_kept hw5 (p := ⟨w1.heap.size, 0, none⟩) (v := .int .i64 4) (by simp [go_sem, b0, y2])
  have c1 := cell_kept hw5 (p := ⟨w1.heap.size, 1, none⟩) (v := .int .i64 6) (by simp [go_sem, b1, y2])
  have c2 := cell_kept hw5 (p := ⟨w2.heap.size, 0, none⟩) (v := .int .i64 2) (by simp [go_sem, b2, y3])
  have c3 := cell_kept hw5 (p := ⟨w2.heap.size, 1, none⟩) (v := .int .i64 0) (by simp [go_sem, b3, y3])
  have c4 := cell_kept hw5 (p := ⟨w3.heap.size, 0, none⟩) (v := .int .i64 7) (by simp [go_sem])
  have c5 := cell_kept hw5 (p := ⟨w3.heap.size, 1, none⟩) (v := .int .i64 9) (by simp [go_sem])
  have L5 : Hid (Below w.heap.size w w5) := (((unhide L3).alloc (by omega) _).alloc (by simp; omega) _).trans (hw5.mono (by simp; omega))
  clear hw5 b0 b1 b2 b3
  have x1 : w1.heap.size < w5.heap.size := by omega
  have x2 : w2.heap.size < w5.heap.size := by omega
  have x3 : w3.heap.size < w5.heap.size := by omega
  have lw : w.heap.size ≤ w5.heap.size := by omega
  clear L1 L2 L3 z1 z2 z3 z5 y1 y2 y3
  go_wp2_with fail
  refine (fits_any _ _ _ _ _).mono ?_
  rintro e w6 ⟨he, hw6⟩
  rw [unhide eF] at he
  subst he
  have L6 : Hid (Below w.heap.size w w6) := ((unhide L5).alloc lw _).trans (hw6.mono (by simp; omega))
  clear hw6
  go_wp2_with fail
  refine (check_any _ _).mono ?_
  rintro e w7 ⟨he, rfl⟩
  rw [unhide eK] at he
  subst he
  go_wp2_with fail
  go_ret
  exact ⟨rfl, unhide L6⟩

end Go.Proofs.Ytkippgdboodlfaa
