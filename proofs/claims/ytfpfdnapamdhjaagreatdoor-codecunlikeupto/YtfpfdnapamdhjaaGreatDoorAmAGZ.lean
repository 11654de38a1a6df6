/- Layer 1: contracts of the small functions of package amount and of the document's answer: Check,CheckAll,checkBoth (both),told. -/
import Derived.Test.YtfpfdnapamdhjaaGreatDoorKitAZ
import Derived.WalkKit
import Derived.WalkSpells
import Derived.WalkLawsBesides
import Derived.Deep.RegionHeld3
import Derived.Deep.QuietTactic
import Derived.BigQuiet
import Derived.ChangeKeysEq
namespace Go.Proofs.YtfpfdnapamdhjaaGreatDoor.Am
open Go.RowKit

/-- The error of one number. -/
def chk (n : Int) : Int := if n < 0 then 11 else if 1125899906842624 < n then 10 else 0
/-- The first error of two. -/
def fst2 (e f : Int) : Int := if e = 0 then f else e
/-- The error of two numbers,of two pairs. -/
def chkA (a b : Int) : Int := fst2 (chk a) (chk b)

theorem chk_ok {n : Int} (h0 : 0 <= n) (h1 : n <= 1125899906842624) : chk n = 0 := by
  unfold chk; rw [if_neg (by omega),if_neg (by omega)]
theorem chk_low {n : Int} (h0 : n < 0) : chk n = 11 := by
  unfold chk; rw [if_pos (by omega)]
theorem chk_high {n : Int} (h1 : 1125899906842624 < n) : chk n = 10 := by
  unfold chk; rw [if_neg (by omega),if_pos (by omega)]
theorem chk_eq {n : Int} (h : chk n = 0) : 0 <= n /\ n <= 1125899906842624 := by
  unfold chk at h; split at h
  · omega
  · split at h
    · omega
    · omega

theorem fst2_zero (f : Int) : fst2 0 f = f := by unfold fst2; rw [if_pos rfl]
theorem fst2_ne {e : Int} (f : Int) (h : ¬ e = 0) : fst2 e f = e := by unfold fst2; rw [if_neg h]
theorem fst2_eq {e f : Int} (h : fst2 e f = 0) : e = 0 /\ f = 0 := by
  unfold fst2 at h; split at h
  · exact ⟨by assumption,h⟩
  · omega
theorem chkA_yes (a b : Int) (h : chk a = 0) : chkA a b = chk b := by unfold chkA; rw [h]; exact fst2_zero _
theorem chkA_no (a b : Int) (h : ¬ chk a = 0) : chkA a b = chk a := fst2_ne _ h

theorem hide {p : Prop} (h : p) : Hid p := h
theorem unhide {p : Prop} (h : Hid p) : p := h.out
theorem ret_int {k : IntKind} {a b : Int} (h : a = b) : Ending.returned (.int k a) = .returned (.int k b) := by rw [h]

set_option maxHeartbeats 400000 in
theorem check_any (n : Int) (w : World) :
    Calls Tryz.prog 116 #[.int .i64 n] w fun e w' => e = .returned (.int .i64 (chk n)) /\ w' = w := by
  by_cases h0 : n < 0
  · have hc := hide (chk_low h0)
    go_enter Tryz.func116,Tryz.ntmps116
    go_wp2
    go_ret
    exact ⟨ret_int (unhide hc).symm,rfl⟩
  · by_cases h1 : 1125899906842624 < n
    · have hc := hide (chk_high h1)
      go_enter Tryz.func116,Tryz.ntmps116
      go_wp2
      go_ret
      exact ⟨ret_int (unhide hc).symm,rfl⟩
    · have hc := hide (chk_ok (by omega : 0 <= n) (by omega))
      go_enter Tryz.func116,Tryz.ntmps116
      go_wp2
      go_ret
      exact ⟨ret_int (unhide hc).symm,rfl⟩
set_option maxHeartbeats 400000 in
theorem rcheck_any (n : Int) (w : World) :
    Calls Tryz.prog 93 #[.int .i64 n] w fun e w' => e = .returned (.int .i64 (chk n)) /\ w' = w := by
  by_cases h0 : n < 0
  · have hc := hide (chk_low h0)
    go_enter Tryz.func93,Tryz.ntmps93
    go_wp2
    go_ret
    exact ⟨ret_int (unhide hc).symm,rfl⟩
  · by_cases h1 : 1125899906842624 < n
    · have hc := hide (chk_high h1)
      go_enter Tryz.func93,Tryz.ntmps93
      go_wp2
      go_ret
      exact ⟨ret_int (unhide hc).symm,rfl⟩
    · have hc := hide (chk_ok (by omega : 0 <= n) (by omega))
      go_enter Tryz.func93,Tryz.ntmps93
      go_wp2
      go_ret
      exact ⟨ret_int (unhide hc).symm,rfl⟩

set_option maxHeartbeats 400000 in
theorem checkAll_any (a b : Int) (w : World) :
    Calls Tryz.prog 105 #[.agg #[.int .i64 a,.int .i64 b]] w fun e w' => e = .returned (.int .i64 (chkA a b)) /\ Below w.heap.size w w' := by
  by_cases h : chk a = 0
  · have hf := hide (chkA_yes a b h)
    have hb : (chk a != 0) = false := by simp [h]
    clear h
    go_enter Tryz.func105,Tryz.ntmps105
    go_wp2_with (go_at_call 116; refine (check_any _ _).mono ?_; rintro e w' ⟨rfl,rfl⟩)
    go_ret
    exact ⟨ret_int (unhide hf).symm,(Below.refl _ _).alloc (Nat.le_refl _) _⟩
  · have hf := hide (chkA_no a b h)
    have hb : (chk a != 0) = true := by simp [h]
    clear h
    go_enter Tryz.func105,Tryz.ntmps105
    go_wp2_with (go_at_call 116; refine (check_any _ _).mono ?_; rintro e w' ⟨rfl,rfl⟩)
    go_ret
    exact ⟨ret_int (unhide hf).symm,(Below.refl _ _).alloc (Nat.le_refl _) _⟩
set_option maxHeartbeats 400000 in
theorem rcheckAll_any (a b : Int) (w : World) :
    Calls Tryz.prog 86 #[.agg #[.int .i64 a,.int .i64 b]] w fun e w' => e = .returned (.int .i64 (chkA a b)) /\ Below w.heap.size w w' := by
  by_cases h : chk a = 0
  · have hf := hide (chkA_yes a b h)
    have hb : (chk a != 0) = false := by simp [h]
    clear h
    go_enter Tryz.func86,Tryz.ntmps86
    go_wp2_with (go_at_call 93; refine (rcheck_any _ _).mono ?_; rintro e w' ⟨rfl,rfl⟩)
    go_ret
    exact ⟨ret_int (unhide hf).symm,(Below.refl _ _).alloc (Nat.le_refl _) _⟩
  · have hf := hide (chkA_no a b h)
    have hb : (chk a != 0) = true := by simp [h]
    clear h
    go_enter Tryz.func86,Tryz.ntmps86
    go_wp2_with (go_at_call 93; refine (rcheck_any _ _).mono ?_; rintro e w' ⟨rfl,rfl⟩)
    go_ret
    exact ⟨ret_int (unhide hf).symm,(Below.refl _ _).alloc (Nat.le_refl _) _⟩

/-- What 'told' keeps: the pair where it has no error,else 0. -/
def keep (e n : Int) : Int := if e = 0 then n else 0

/-- A pair of amounts and an error,as a call answers them. -/
abbrev two (a b e : Int) : Ending := .returned (.tuple #[.agg #[.int .i64 a,.int .i64 b],.int .i64 e])

end Go.Proofs.YtfpfdnapamdhjaaGreatDoor.Am

/- Layer 1: contracts of lower,Fits,Add,Sub,of the program and of the document's answer. -/
namespace Go.Proofs.YtfpfdnapamdhjaaGreatDoor.Am
open Go.RowKit

def lo (a b : Int) : Int := if a <= b then a else b

theorem Tryz.cells2 : Tryz.prog.cellsOf 2 = 1 := by kernel_rfl
theorem eq2 (w : World) (a b c d : Int) :
    (Op.equalIn 10000 23 (.agg #[.int .i64 a,.int .i64 b]) (.agg #[.int .i64 c,.int .i64 d])).run Tryz.prog w = .ok (a == c && b == d) w := by
  obtain ⟨i,hi⟩ : ∃ i,Tryz.prog.info? 2 = some i := Option.isSome_iff_exists.1 (by kernel_rfl)
  rw [run_equalIn_array w 9999 #[.int .i64 a,.int .i64 b] #[.int .i64 c,.int .i64 d] Tryz.underlying23 hi,Tryz.cells2]
  show (Op.eqItems 9999 2 1 #[.int .i64 a,.int .i64 b] #[.int .i64 c,.int .i64 d] [0,1]).run Tryz.prog w = _
  have h := fun (x y : Int) => run_equalIn_int (P := Tryz.prog) w 9998 2 .i64 .i64 x y Tryz.underlying2
  simp only [Op.eqItems,Sem.run_bind,part,isAgg,run_underlying Tryz.underlying2]
  simp [h]
  by_cases h1 : a = c <;> by_cases h2 : b = d <;> simp [h1,h2]
attribute [local go_sem] eq2

theorem ret_bool {x y : Bool} (h : x = y) : Ending.returned (.bool x) = .returned (.bool y) := by rw [h]

end Go.Proofs.YtfpfdnapamdhjaaGreatDoor.Am
