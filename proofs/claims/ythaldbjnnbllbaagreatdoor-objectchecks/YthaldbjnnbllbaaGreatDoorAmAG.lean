/- Layer 1: contracts of the small functions of package amount and of the document's answer: Check, CheckAll, checkBoth (both), told. -/
import Derived.Test.YthaldbjnnbllbaaGreatDoorKitA
import Derived.WalkKit
import Derived.WalkSpells
import Derived.WalkLawsBesides
import Derived.Deep.RegionHeld3
import Derived.Deep.QuietTactic
import Derived.BigQuiet
import Derived.ChangeKeysEq
namespace Go.Proofs.YthaldbjnnbllbaaGreatDoor.Am
open Go.RowKit

/-- The error of one number. -/
def chk (n : Int) : Int := if n < 0 then 11 else if 1125899906842624 < n then 10 else 0
/-- The first error of two. -/
def fst2 (e f : Int) : Int := if e = 0 then f else e
/-- The error of two numbers, of two pairs. -/
def chkA (a b : Int) : Int := fst2 (chk a) (chk b)
def chkB (a b c d : Int) : Int := fst2 (chkA a b) (chkA c d)

theorem chk_ok {n : Int} (h0 : 0 ≤ n) (h1 : n ≤ 1125899906842624) : chk n = 0 := by
  unfold chk; rw [if_neg (by omega), if_neg (by omega)]
theorem chk_low {n : Int} (h0 : n < 0) : chk n = 11 := by
  unfold chk; rw [if_pos (by omega)]
theorem chk_high {n : Int} (h1 : 1125899906842624 < n) : chk n = 10 := by
  unfold chk; rw [if_neg (by omega), if_pos (by omega)]
theorem chk_eq {n : Int} (h : chk n = 0) : 0 ≤ n ∧ n ≤ 1125899906842624 := by
  unfold chk at h; split at h
  · omega
  · split at h
    · omega
    · omega
theorem chk_iff (n : Int) : chk n = 0 ↔ 0 ≤ n ∧ n ≤ 1125899906842624 :=
  ⟨chk_eq, fun h => chk_ok h.1 h.2⟩

theorem fst2_zero (f : Int) : fst2 0 f = f := by unfold fst2; rw [if_pos rfl]
theorem fst2_ne {e : Int} (f : Int) (h : ¬ e = 0) : fst2 e f = e := by unfold fst2; rw [if_neg h]
theorem fst2_eq {e f : Int} (h : fst2 e f = 0) : e = 0 ∧ f = 0 := by
  unfold fst2 at h; split at h
  · exact ⟨by assumption, h⟩
  · omega
theorem fst2_iff (e f : Int) : fst2 e f = 0 ↔ e = 0 ∧ f = 0 :=
  ⟨fst2_eq, fun h => by rw [h.1, h.2]; rfl⟩
theorem chkA_iff (a b : Int) : chkA a b = 0 ↔ (0 ≤ a ∧ a ≤ 1125899906842624) ∧ (0 ≤ b ∧ b ≤ 1125899906842624) := by
  unfold chkA; rw [fst2_iff, chk_iff, chk_iff]
theorem chkB_iff (a b c d : Int) : chkB a b c d = 0 ↔ chkA a b = 0 ∧ chkA c d = 0 := fst2_iff _ _
theorem chkA_yes (a b : Int) (h : chk a = 0) : chkA a b = chk b := by unfold chkA; rw [h]; exact fst2_zero _
theorem chkA_no (a b : Int) (h : ¬ chk a = 0) : chkA a b = chk a := fst2_ne _ h
theorem chkB_yes (a b c d : Int) (h : chkA a b = 0) : chkB a b c d = chkA c d := by unfold chkB; rw [h]; exact fst2_zero _
theorem chkB_no (a b c d : Int) (h : ¬ chkA a b = 0) : chkB a b c d = chkA a b := fst2_ne _ h

theorem hide {p : Prop} (h : p) : Hid p := h
theorem unhide {p : Prop} (h : Hid p) : p := h.out
theorem ret_int {k : IntKind} {a b : Int} (h : a = b) : Ending.returned (.int k a) = .returned (.int k b) := by rw [h]
theorem bcell {W w1 : World} (hb : Below W.heap.size W w1) : (∀ b o, b < W.heap.size → w1.cell? ⟨b, o, none⟩ = W.cell? ⟨b, o, none⟩) ∧ (∀ b o, b < W.heap.size → w1.frozen? ⟨b, o, none⟩ = W.frozen? ⟨b, o, none⟩) :=
  ⟨fun b o h => hb.cell (p := ⟨b, o, none⟩) h, fun b o h => hb.frozen (p := ⟨b, o, none⟩) h⟩

set_option maxHeartbeats 400000 in
theorem check_any (n : Int) (w : World) :
    Calls Tryz.prog 36 #[.int .i64 n] w fun e w' => e = .returned (.int .i64 (chk n)) ∧ w' = w := by
  by_cases h0 : n < 0
  · have hc := hide (chk_low h0)
    go_enter Tryz.func36, Tryz.ntmps36
    go_wp2
    go_ret
    exact ⟨ret_int (unhide hc).symm, rfl⟩
  · by_cases h1 : 1125899906842624 < n
    · have hc := hide (chk_high h1)
      go_enter Tryz.func36, Tryz.ntmps36
      go_wp2
      go_ret
      exact ⟨ret_int (unhide hc).symm, rfl⟩
    · have hc := hide (chk_ok (by omega : 0 ≤ n) (by omega))
      go_enter Tryz.func36, Tryz.ntmps36
      go_wp2
      go_ret
      exact ⟨ret_int (unhide hc).symm, rfl⟩
set_option maxHeartbeats 400000 in
theorem rcheck_any (n : Int) (w : World) :
    Calls Tryz.prog 48 #[.int .i64 n] w fun e w' => e = .returned (.int .i64 (chk n)) ∧ w' = w := by
  by_cases h0 : n < 0
  · have hc := hide (chk_low h0)
    go_enter Tryz.func48, Tryz.ntmps48
    go_wp2
    go_ret
    exact ⟨ret_int (unhide hc).symm, rfl⟩
  · by_cases h1 : 1125899906842624 < n
    · have hc := hide (chk_high h1)
      go_enter Tryz.func48, Tryz.ntmps48
      go_wp2
      go_ret
      exact ⟨ret_int (unhide hc).symm, rfl⟩
    · have hc := hide (chk_ok (by omega : 0 ≤ n) (by omega))
      go_enter Tryz.func48, Tryz.ntmps48
      go_wp2
      go_ret
      exact ⟨ret_int (unhide hc).symm, rfl⟩

set_option maxHeartbeats 400000 in
theorem checkAll_any (a b : Int) (w : World) :
    Calls Tryz.prog 25 #[.agg #[.int .i64 a, .int .i64 b]] w fun e w' => e = .returned (.int .i64 (chkA a b)) ∧ Below w.heap.size w w' := by
  by_cases h : chk a = 0
  · have hf := hide (chkA_yes a b h)
    have hb : (chk a != 0) = false := by simp [h]
    clear h
    go_enter Tryz.func25, Tryz.ntmps25
    go_wp2_with (go_at_call 36; refine (check_any _ _).mono ?_; rintro e w' ⟨rfl, rfl⟩)
    go_ret
    exact ⟨ret_int (unhide hf).symm, (Below.refl _ _).alloc (Nat.le_refl _) _⟩
  · have hf := hide (chkA_no a b h)
    have hb : (chk a != 0) = true := by simp [h]
    clear h
    go_enter Tryz.func25, Tryz.ntmps25
    go_wp2_with (go_at_call 36; refine (check_any _ _).mono ?_; rintro e w' ⟨rfl, rfl⟩)
    go_ret
    exact ⟨ret_int (unhide hf).symm, (Below.refl _ _).alloc (Nat.le_refl _) _⟩
set_option maxHeartbeats 400000 in
theorem rcheckAll_any (a b : Int) (w : World) :
    Calls Tryz.prog 41 #[.agg #[.int .i64 a, .int .i64 b]] w fun e w' => e = .returned (.int .i64 (chkA a b)) ∧ Below w.heap.size w w' := by
  by_cases h : chk a = 0
  · have hf := hide (chkA_yes a b h)
    have hb : (chk a != 0) = false := by simp [h]
    clear h
    go_enter Tryz.func41, Tryz.ntmps41
    go_wp2_with (go_at_call 48; refine (rcheck_any _ _).mono ?_; rintro e w' ⟨rfl, rfl⟩)
    go_ret
    exact ⟨ret_int (unhide hf).symm, (Below.refl _ _).alloc (Nat.le_refl _) _⟩
  · have hf := hide (chkA_no a b h)
    have hb : (chk a != 0) = true := by simp [h]
    clear h
    go_enter Tryz.func41, Tryz.ntmps41
    go_wp2_with (go_at_call 48; refine (rcheck_any _ _).mono ?_; rintro e w' ⟨rfl, rfl⟩)
    go_ret
    exact ⟨ret_int (unhide hf).symm, (Below.refl _ _).alloc (Nat.le_refl _) _⟩

theorem below2 {w w1 : World} {x y : Obj} (h : Below ((w.alloc x).alloc y).heap.size ((w.alloc x).alloc y) w1) : Below w.heap.size w w1 :=
  ((((Below.refl _ _).alloc (Nat.le_refl _) _).alloc (by simp) _).trans (h.mono (by simp; omega)))

/-- What 'told' keeps: the pair where it has no error, else 0. -/
def keep (e n : Int) : Int := if e = 0 then n else 0
theorem keep_yes (e n : Int) (h : e = 0) : keep e n = n := by unfold keep; rw [if_pos h]
theorem keep_no (e n : Int) (h : ¬ e = 0) : keep e n = 0 := by unfold keep; rw [if_neg h]

/-- A pair of amounts and an error, as a call answers them. -/
abbrev two (a b e : Int) : Ending := .returned (.tuple #[.agg #[.int .i64 a, .int .i64 b], .int .i64 e])
theorem two_eq {a b e a' b' e' : Int} (h : a = a') (h1 : b = b') (h2 : e = e') : Ending.returned (.tuple #[.agg #[.int .i64 a, .int .i64 b], .int .i64 e]) = two a' b' e' := by
  subst h h1 h2; rfl

end Go.Proofs.YthaldbjnnbllbaaGreatDoor.Am

/- Layer 1: contracts of lower, Fits, Add, Sub, of the program and of the document's answer. -/
namespace Go.Proofs.YthaldbjnnbllbaaGreatDoor.Am
open Go.RowKit

def lo (a b : Int) : Int := if a ≤ b then a else b
theorem lo_eq (a b : Int) (h : a ≤ b) : lo a b = a := by unfold lo; rw [if_pos h]
theorem lo_ne (a b : Int) (h : ¬ a ≤ b) : ¬ lo a b = a := by unfold lo; rw [if_neg h]; omega

theorem below3 {w : World} {x y z : Obj} : Below w.heap.size w (((w.alloc x).alloc y).alloc z) :=
  (((Below.refl _ _).alloc (Nat.le_refl _) _).alloc (by simp) _).alloc (by simp; omega) _
theorem lo_ne' (a b : Int) (h : ¬ a ≤ b) : lo a b = b := by unfold lo; rw [if_neg h]
theorem ret_two {a b a' b' : Int} (h : a = a') (h1 : b = b') : Ending.returned (.agg #[.int .i64 a, .int .i64 b]) = .returned (.agg #[.int .i64 a', .int .i64 b']) := by
  subst h h1; rfl

theorem Tryz.cells2 : Tryz.prog.cellsOf 2 = 1 := by kernel_rfl
theorem eq2 (w : World) (a b c d : Int) :
    (Op.equalIn 10000 23 (.agg #[.int .i64 a, .int .i64 b]) (.agg #[.int .i64 c, .int .i64 d])).run Tryz.prog w = .ok (a == c && b == d) w := by
  obtain ⟨i, hi⟩ : ∃ i, Tryz.prog.info? 2 = some i := Option.isSome_iff_exists.1 (by kernel_rfl)
  rw [run_equalIn_array w 9999 #[.int .i64 a, .int .i64 b] #[.int .i64 c, .int .i64 d] Tryz.underlying23 hi, Tryz.cells2]
  show (Op.eqItems 9999 2 1 #[.int .i64 a, .int .i64 b] #[.int .i64 c, .int .i64 d] [0, 1]).run Tryz.prog w = _
  have h := fun (x y : Int) => run_equalIn_int (P := Tryz.prog) w 9998 2 .i64 .i64 x y Tryz.underlying2
  simp only [Op.eqItems, Sem.run_bind, part, isAgg, run_underlying Tryz.underlying2]
  simp [h]
  by_cases h1 : a = c <;> by_cases h2 : b = d <;> simp [h1, h2]
attribute [local go_sem] eq2

/-- Two boxed pairs lie at block B and the one behind it; all below B is as it was. -/
theorem keep_two {w W w1 : World} {B : Nat} {a b c d : Value}
    (h : W.cell? ⟨B, 0, none⟩ = some a ∧ W.cell? ⟨B, 1, none⟩ = some b ∧ W.cell? ⟨B + 1, 0, none⟩ = some c ∧ W.cell? ⟨B + 1, 1, none⟩ = some d ∧ Below B w W)
    (hb : Below W.heap.size W w1) :
    w1.cell? ⟨B, 0, none⟩ = some a ∧ w1.cell? ⟨B, 1, none⟩ = some b ∧ w1.cell? ⟨B + 1, 0, none⟩ = some c ∧ w1.cell? ⟨B + 1, 1, none⟩ = some d ∧ Below B w w1 := by
  obtain ⟨h1, h2, h3, h4, h5⟩ := h
  have l1 := World.block_lt_of_cell? W _ h1
  have l3 := World.block_lt_of_cell? W _ h3
  refine ⟨by rw [hb.cell (by exact l1)]; exact h1, by rw [hb.cell (by exact l1)]; exact h2, by rw [hb.cell (by exact l3)]; exact h3, by rw [hb.cell (by exact l3)]; exact h4, h5.trans (hb.mono (Nat.le_of_lt l1))⟩
theorem start_two {w : World} {a b c d : Value} {t : TypeId} :
    (((w.alloc (.cells #[a, b] t)).alloc (.cells #[c, d] t)).drew).cell? ⟨w.heap.size, 0, none⟩ = some a ∧ (((w.alloc (.cells #[a, b] t)).alloc (.cells #[c, d] t)).drew).cell? ⟨w.heap.size, 1, none⟩ = some b ∧
    (((w.alloc (.cells #[a, b] t)).alloc (.cells #[c, d] t)).drew).cell? ⟨w.heap.size + 1, 0, none⟩ = some c ∧ (((w.alloc (.cells #[a, b] t)).alloc (.cells #[c, d] t)).drew).cell? ⟨w.heap.size + 1, 1, none⟩ = some d ∧
    Below w.heap.size w (((w.alloc (.cells #[a, b] t)).alloc (.cells #[c, d] t)).drew) :=
  ⟨by simp [go_sem], by simp [go_sem], by simp [go_sem], by simp [go_sem], (((Below.refl _ _).alloc (Nat.le_refl _) _).alloc (by simp) _).drew⟩

theorem below2d {w w1 : World} {x y : Obj} (h : Below ((w.alloc x).alloc y).drew.heap.size ((w.alloc x).alloc y).drew w1) : Below w.heap.size w w1 :=
  (((((Below.refl _ _).alloc (Nat.le_refl _) _).alloc (by simp) _).drew).trans (h.mono (by simp; omega)))

theorem fits_eq (a b c d : Int) : (lo a c == a && lo b d == b) = decide (a ≤ c ∧ b ≤ d) := by
  by_cases h : a ≤ c
  · by_cases g : b ≤ d
    · rw [lo_eq a c h, lo_eq b d g]; simp [h, g]
    · have := lo_ne b d g; simp [h, g, this]
  · have := lo_ne a c h; simp [h, this]
/-- Whether the first pair fits into the second. -/
def fitsB (a b c d : Int) : Bool := decide (chkB a b c d = 0 ∧ a ≤ c ∧ b ≤ d)
theorem ret_bool {x y : Bool} (h : x = y) : Ending.returned (.bool x) = .returned (.bool y) := by rw [h]


end Go.Proofs.YthaldbjnnbllbaaGreatDoor.Am

/- Layer 1: contracts of Add and Sub, of the program and of the document's answer. -/
namespace Go.Proofs.YthaldbjnnbllbaaGreatDoor.Am
open Go.RowKit

/-- The error of a sum, and of a difference. -/
def eAdd (a b c d : Int) : Int := fst2 (chkB a b c d) (chkA (a + c) (b + d))
def eSub (a b c d : Int) : Int := fst2 (chkB a b c d) (if c ≤ a ∧ d ≤ b then 0 else 11)
theorem eAdd_yes (a b c d : Int) (h : chkB a b c d = 0) : eAdd a b c d = chkA (a + c) (b + d) := by unfold eAdd; rw [h]; exact fst2_zero _
theorem eAdd_no (a b c d : Int) (h : ¬ chkB a b c d = 0) : eAdd a b c d = chkB a b c d := fst2_ne _ h
theorem chkB_bd (a b c d : Int) (h : chkB a b c d = 0) : (0 ≤ a ∧ a ≤ 1125899906842624) ∧ (0 ≤ b ∧ b ≤ 1125899906842624) ∧ (0 ≤ c ∧ c ≤ 1125899906842624) ∧ (0 ≤ d ∧ d ≤ 1125899906842624) := by
  rw [chkB_iff, chkA_iff, chkA_iff] at h
  exact ⟨h.1.1, h.1.2, h.2.1, h.2.2⟩
theorem below3' {w w1 : World} {x y z : Obj} (h : Below (((w.alloc x).alloc y).alloc z).heap.size (((w.alloc x).alloc y).alloc z) w1) : Below w.heap.size w w1 :=
  below3.trans (h.mono (by simp; omega))

theorem eSub_yes (a b c d : Int) (h : chkB a b c d = 0) (g : c ≤ a ∧ d ≤ b) : eSub a b c d = 0 := by unfold eSub; rw [h, if_pos g]; exact fst2_zero _
theorem eSub_low (a b c d : Int) (h : chkB a b c d = 0) (g : ¬ (c ≤ a ∧ d ≤ b)) : eSub a b c d = 11 := by unfold eSub; rw [h, if_neg g]; exact fst2_zero _
theorem eSub_no (a b c d : Int) (h : ¬ chkB a b c d = 0) : eSub a b c d = chkB a b c d := fst2_ne _ h
theorem fitsB_back (a b c d : Int) (h : chkB a b c d = 0) : fitsB c d a b = decide (c ≤ a ∧ d ≤ b) := by
  have : chkB c d a b = 0 := by rw [chkB_iff] at h ⊢; exact ⟨h.2, h.1⟩
  unfold fitsB; simp [this]

end Go.Proofs.YthaldbjnnbllbaaGreatDoor.Am
