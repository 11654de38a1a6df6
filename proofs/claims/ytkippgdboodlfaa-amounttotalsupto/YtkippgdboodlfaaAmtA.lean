/- Layer 1: contracts of the small functions of package amount and of the document's answer: Check, CheckAll, checkBoth (both), told. -/
import Derived.Test.YtkippgdboodlfaaRows
import Derived.WalkKit
import Derived.WalkSpells
import Derived.WalkLawsBesides
namespace Go.Proofs.Ytkippgdboodlfaa
open Go.RowKit

/-- The error of one number. -/
def chk (n : Int) : Int := if n < 0 then 11 else if 1125899906842624 < n then 10 else 0
/-- The first error of two. -/
def fst2 (e f : Int) : Int := if e = 0 then f else e
/-- The error of two numbers, of two pairs. -/
def chkA (a b : Int) : Int := fst2 (chk a) (chk b)
def chkB (a b c d : Int) : Int := fst2 (chkA a b) (chkA c d)

theorem chk_ok {n : Int} (h0 : 0 ≤ n) (h1 : n ≤ 1125899906842624) : chk n = 0 := by
  unfold chk; rw [if_neg (by omega), if_neg (by omega)]
theorem chk_low {n : Int} (h0 : n < 0) : chk n = 11 := by
  unfold chk; rw [if_pos (by omega)]
theorem chk_high {n : Int} (h1 : 1125899906842624 < n) : chk n = 10 := by
  unfold chk; rw [if_neg (by omega), if_pos (by omega)]
theorem chk_eq {n : Int} (h : chk n = 0) : 0 ≤ n ∧ n ≤ 1125899906842624 := by
  unfold chk at h; split at h
  · omega
  · split at h
    · omega
    · omega
theorem chk_iff (n : Int) : chk n = 0 ↔ 0 ≤ n ∧ n ≤ 1125899906842624 :=
  ⟨chk_eq, fun h => chk_ok h.1 h.2⟩

theorem fst2_zero (f : Int) : fst2 0 f = f := by unfold fst2; rw [if_pos rfl]
theorem fst2_ne {e : Int} (f : Int) (h : ¬ e = 0) : fst2 e f = e := by unfold fst2; rw [if_neg h]
theorem fst2_eq {e f : Int} (h : fst2 e f = 0) : e = 0 ∧ f = 0 := by
  unfold fst2 at h; split at h
  · exact ⟨by assumption, h⟩
  · omega
theorem fst2_iff (e f : Int) : fst2 e f = 0 ↔ e = 0 ∧ f = 0 :=
  ⟨fst2_eq, fun h => by rw [h.1, h.2]; rfl⟩
theorem chkA_iff (a b : Int) : chkA a b = 0 ↔ (0 ≤ a ∧ a ≤ 1125899906842624) ∧ (0 ≤ b ∧ b ≤ 1125899906842624) := by
  unfold chkA; rw [fst2_iff, chk_iff, chk_iff]
theorem chkB_iff (a b c d : Int) : chkB a b c d = 0 ↔ chkA a b = 0 ∧ chkA c d = 0 := fst2_iff _ _
theorem chkA_yes (a b : Int) (h : chk a = 0) : chkA a b = chk b := by unfold chkA; rw [h]; exact fst2_zero _
theorem chkA_no (a b : Int) (h : ¬ chk a = 0) : chkA a b = chk a := fst2_ne _ h
theorem chkB_yes (a b c d : Int) (h : chkA a b = 0) : chkB a b c d = chkA c d := by unfold chkB; rw [h]; exact fst2_zero _
theorem chkB_no (a b c d : Int) (h : ¬ chkA a b = 0) : chkB a b c d = chkA a b := fst2_ne _ h

theorem hide {p : Prop} (h : p) : Hid p := h
theorem unhide {p : Prop} (h : Hid p) : p := h.out
theorem ret_int {k : IntKind} {a b : Int} (h : a = b) : Ending.returned (.int k a) = .returned (.int k b) := by rw [h]
theorem bcell {W w1 : World} (hb : Below W.heap.size W w1) : (∀ b o, b < W.heap.size → w1.cell? ⟨b, o, none⟩ = W.cell? ⟨b, o, none⟩) ∧ (∀ b o, b < W.heap.size → w1.frozen? ⟨b, o, none⟩ = W.frozen? ⟨b, o, none⟩) :=
  ⟨fun b o h => hb.cell (p := ⟨b, o, none⟩) h, fun b o h => hb.frozen (p := ⟨b, o, none⟩) h⟩

set_option maxHeartbeats 400000 in
theorem check_any (n : Int) (w : World) :
    Calls Try.prog 10 #[.int .i64 n] w fun e w' => e = .returned (.int .i64 (chk n)) ∧ w' = w := by
  by_cases h0 : n < 0
  · have hc := hide (chk_low h0)
    go_enter Try.func10, Try.ntmps10
    go_wp2
    go_ret
    exact ⟨ret_int (unhide hc).symm, rfl⟩
  · by_cases h1 : 1125899906842624 < n
    · have hc := hide (chk_high h1)
      go_enter Try.func10, Try.ntmps10
      go_wp2
      go_ret
      exact ⟨ret_int (unhide hc).symm, rfl⟩
    · have hc := hide (chk_ok (by omega : 0 ≤ n) (by omega))
      go_enter Try.func10, Try.ntmps10
      go_wp2
      go_ret
      exact ⟨ret_int (unhide hc).symm, rfl⟩
set_option maxHeartbeats 400000 in
theorem rcheck_any (n : Int) (w : World) :
    Calls Try.prog 11 #[.int .i64 n] w fun e w' => e = .returned (.int .i64 (chk n)) ∧ w' = w := by
  by_cases h0 : n < 0
  · have hc := hide (chk_low h0)
    go_enter Try.func11, Try.ntmps11
    go_wp2
    go_ret
    exact ⟨ret_int (unhide hc).symm, rfl⟩
  · by_cases h1 : 1125899906842624 < n
    · have hc := hide (chk_high h1)
      go_enter Try.func11, Try.ntmps11
      go_wp2
      go_ret
      exact ⟨ret_int (unhide hc).symm, rfl⟩
    · have hc := hide (chk_ok (by omega : 0 ≤ n) (by omega))
      go_enter Try.func11, Try.ntmps11
      go_wp2
      go_ret
      exact ⟨ret_int (unhide hc).symm, rfl⟩

set_option maxHeartbeats 400000 in
theorem checkAll_any (a b : Int) (w : World) :
    Calls Try.prog 14 #[.agg #[.int .i64 a, .int .i64 b]] w fun e w' => e = .returned (.int .i64 (chkA a b)) ∧ Below w.heap.size w w' := by
  by_cases h : chk a = 0
  · have hf := hide (chkA_yes a b h)
    have hb : (chk a != 0) = false := by simp [h]
    clear h
    go_enter Try.func14, Try.ntmps14
    go_wp2_with (go_at_call 10; refine (check_any _ _).mono ?_; rintro e w' ⟨rfl, rfl⟩)
    go_ret
    exact ⟨ret_int (unhide hf).symm, (Below.refl _ _).alloc (Nat.le_refl _) _⟩
  · have hf := hide (chkA_no a b h)
    have hb : (chk a != 0) = true := by simp [h]
    clear h
    go_enter Try.func14, Try.ntmps14
    go_wp2_with (go_at_call 10; refine (check_any _ _).mono ?_; rintro e w' ⟨rfl, rfl⟩)
    go_ret
    exact ⟨ret_int (unhide hf).symm, (Below.refl _ _).alloc (Nat.le_refl _) _⟩
set_option maxHeartbeats 400000 in
theorem rcheckAll_any (a b : Int) (w : World) :
    Calls Try.prog 12 #[.agg #[.int .i64 a, .int .i64 b]] w fun e w' => e = .returned (.int .i64 (chkA a b)) ∧ Below w.heap.size w w' := by
  by_cases h : chk a = 0
  · have hf := hide (chkA_yes a b h)
    have hb : (chk a != 0) = false := by simp [h]
    clear h
    go_enter Try.func12, Try.ntmps12
    go_wp2_with (go_at_call 11; refine (rcheck_any _ _).mono ?_; rintro e w' ⟨rfl, rfl⟩)
    go_ret
    exact ⟨ret_int (unhide hf).symm, (Below.refl _ _).alloc (Nat.le_refl _) _⟩
  · have hf := hide (chkA_no a b h)
    have hb : (chk a != 0) = true := by simp [h]
    clear h
    go_enter Try.func12, Try.ntmps12
    go_wp2_with (go_at_call 11; refine (rcheck_any _ _).mono ?_; rintro e w' ⟨rfl, rfl⟩)
    go_ret
    exact ⟨ret_int (unhide hf).symm, (Below.refl _ _).alloc (Nat.le_refl _) _⟩

theorem below2 {w w1 : World} {x y : Obj} (h : Below ((w.alloc x).alloc y).heap.size ((w.alloc x).alloc y) w1) : Below w.heap.size w w1 :=
  ((((Below.refl _ _).alloc (Nat.le_refl _) _).alloc (by simp) _).trans (h.mono (by simp; omega)))

set_option maxHeartbeats 400000 in
theorem checkBoth_any (a b c d : Int) (w : World) :
    Calls Try.prog 29 #[.agg #[.int .i64 a, .int .i64 b], .agg #[.int .i64 c, .int .i64 d]] w fun e w' => e = .returned (.int .i64 (chkB a b c d)) ∧ Below w.heap.size w w' := by
  by_cases h : chkA a b = 0
  · have hf := hide (chkB_yes a b c d h)
    have hb : (chkA a b != 0) = false := by simp [h]
    clear h
    go_enter Try.func29, Try.ntmps29
    go_wp2_with fail
    refine (checkAll_any _ _ _).mono ?_
    rintro e w1 ⟨rfl, hw1⟩
    obtain ⟨hc1, hf1⟩ := bcell hw1
    go_wp2_with fail
    refine (checkAll_any _ _ _).mono ?_
    rintro e w2 ⟨rfl, hw2⟩
    go_wp2_with fail
    go_ret
    exact ⟨ret_int (unhide hf).symm, (below2 hw1).trans (hw2.mono (by have := (below2 hw1).size; omega))⟩
  · have hf := hide (chkB_no a b c d h)
    have hb : (chkA a b != 0) = true := by simp [h]
    clear h
    go_enter Try.func29, Try.ntmps29
    go_wp2_with fail
    refine (checkAll_any _ _ _).mono ?_
    rintro e w1 ⟨rfl, hw1⟩
    obtain ⟨hc1, hf1⟩ := bcell hw1
    go_wp2_with fail
    go_ret
    exact ⟨ret_int (unhide hf).symm, below2 hw1⟩
set_option maxHeartbeats 400000 in
theorem rboth_any (a b c d : Int) (w : World) :
    Calls Try.prog 28 #[.agg #[.int .i64 a, .int .i64 b], .agg #[.int .i64 c, .int .i64 d]] w fun e w' => e = .returned (.int .i64 (chkB a b c d)) ∧ Below w.heap.size w w' := by
  by_cases h : chkA a b = 0
  · have hf := hide (chkB_yes a b c d h)
    have hb : (chkA a b != 0) = false := by simp [h]
    clear h
    go_enter Try.func28, Try.ntmps28
    go_wp2_with fail
    refine (rcheckAll_any _ _ _).mono ?_
    rintro e w1 ⟨rfl, hw1⟩
    obtain ⟨hc1, hf1⟩ := bcell hw1
    go_wp2_with fail
    refine (rcheckAll_any _ _ _).mono ?_
    rintro e w2 ⟨rfl, hw2⟩
    go_wp2_with fail
    go_ret
    exact ⟨ret_int (unhide hf).symm, (below2 hw1).trans (hw2.mono (by have := (below2 hw1).size; omega))⟩
  · have hf := hide (chkB_no a b c d h)
    have hb : (chkA a b != 0) = true := by simp [h]
    clear h
    go_enter Try.func28, Try.ntmps28
    go_wp2_with fail
    refine (rcheckAll_any _ _ _).mono ?_
    rintro e w1 ⟨rfl, hw1⟩
    obtain ⟨hc1, hf1⟩ := bcell hw1
    go_wp2_with fail
    go_ret
    exact ⟨ret_int (unhide hf).symm, below2 hw1⟩

/-- What 'told' keeps: the pair where it has no error, else 0. -/
def keep (e n : Int) : Int := if e = 0 then n else 0
theorem keep_yes (e n : Int) (h : e = 0) : keep e n = n := by unfold keep; rw [if_pos h]
theorem keep_no (e n : Int) (h : ¬ e = 0) : keep e n = 0 := by unfold keep; rw [if_neg h]

/-- A pair of amounts and an error, as a call answers them. -/
abbrev two (a b e : Int) : Ending := .returned (.tuple #[.agg #[.int .i64 a, .int .i64 b], .int .i64 e])
theorem two_eq {a b e a' b' e' : Int} (h : a = a') (h1 : b = b') (h2 : e = e') : Ending.returned (.tuple #[.agg #[.int .i64 a, .int .i64 b], .int .i64 e]) = two a' b' e' := by
  subst h h1 h2; rfl

set_option maxHeartbeats 400000 in
theorem told_any (a b : Int) (w : World) :
    Calls Try.prog 31 #[.agg #[.int .i64 a, .int .i64 b]] w fun e w' => e = two (keep (chkA a b) a) (keep (chkA a b) b) (chkA a b) ∧ Below w.heap.size w w' := by
  by_cases h : chkA a b = 0
  · have ha := hide (keep_yes (chkA a b) a h)
    have hb := hide (keep_yes (chkA a b) b h)
    have hz := hide h
    have ht : (chkA a b != 0) = false := by simp [h]
    clear h
    go_enter Try.func31, Try.ntmps31
    go_wp2_with fail
    refine (checkAll_any _ _ _).mono ?_
    rintro e w1 ⟨rfl, hw1⟩
    obtain ⟨hc1, hf1⟩ := bcell hw1
    go_wp2_with fail
    exact bodyPost_ret (v := .tuple #[.agg #[.int .i64 a, .int .i64 b], .int .i64 0]) (by simp [results, Try.results31, go_sem, hc1]) rfl
      ⟨two_eq (unhide ha).symm (unhide hb).symm (unhide hz).symm, ((below2 hw1).setCell (by simp) _).setCell (by simp) _⟩
  · have ha := hide (keep_no (chkA a b) a h)
    have hb := hide (keep_no (chkA a b) b h)
    have ht : (chkA a b != 0) = true := by simp [h]
    clear h
    go_enter Try.func31, Try.ntmps31
    go_wp2_with fail
    refine (checkAll_any _ _ _).mono ?_
    rintro e w1 ⟨rfl, hw1⟩
    obtain ⟨hc1, hf1⟩ := bcell hw1
    go_wp2_with fail
    exact bodyPost_ret (v := .tuple #[.agg #[.int .i64 0, .int .i64 0], .int .i64 (chkA a b)]) (by simp [results, Try.results31, go_sem, hc1]) rfl
      ⟨two_eq (unhide ha).symm (unhide hb).symm rfl, ((below2 hw1).setCell (by simp) _).setCell (by simp) _⟩

end Go.Proofs.Ytkippgdboodlfaa
