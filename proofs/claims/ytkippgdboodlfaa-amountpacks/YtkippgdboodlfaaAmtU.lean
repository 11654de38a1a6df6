/- Layer 1: the contract of Unpack. -/
import Derived.Test.YtkippgdboodlfaaAmtH
namespace Go.Proofs.Ytkippgdboodlfaa
open Go.RowKit

/-- The number of n bytes from place o on, the lowest one first. -/
def acc (f : Nat → Int) (o : Nat) : Nat → Int
  | 0 => 0
  | n + 1 => acc f o n + f (o + n) * 256 ^ n
def accA (f : Nat → Int) (k : Nat) : Int := acc f 0 (min k 7)
def accB (f : Nat → Int) (k : Nat) : Int := acc f 7 (k - 7)

theorem Try.cells5 : Try.prog.cellsOf 5 = 1 := by kernel_rfl
theorem idx14 (f : Nat → Int) (k : Nat) (hk : k < 14) (w : World) : (Instr.index 37 (arr14 f) (.int .i64 k)).run Try.prog w = .ok (.int .u8 (f k)) w := by
  obtain ⟨i, hi⟩ : ∃ i, Try.prog.info? 5 = some i := ⟨_, rfl⟩
  have hs := run_sizeOf (P := Try.prog) w hi
  rw [Try.cells5] at hs
  have h0 : (0 : Int) ≤ (k : Int) ∧ (k : Int) < ((14 : Nat) : Int) := by omega
  simp only [Instr.index, asIntOf, Sem.run_bind, Sem.run_pure, Result.andThen_ok, run_underlying Try.underlying37, if_pos h0, hs, Nat.mul_one, Int.toNat_natCast]
  match k, hk with
  | 0, _ | 1, _ | 2, _ | 3, _ | 4, _ | 5, _ | 6, _ | 7, _ | 8, _ | 9, _ | 10, _ | 11, _ | 12, _ | 13, _ => simp [part, isAgg, run_underlying Try.underlying5]

theorem acc_bd (f : Nat → Int) (o : Nat) : ∀ n : Nat, (∀ j, j < n → 0 ≤ f (o + j) ∧ f (o + j) < 256) → 0 ≤ acc f o n ∧ acc f o n < 256 ^ n
  | 0, _ => ⟨Int.le_refl _, show (0 : Int) < 1 by omega⟩
  | n + 1, h => by
    have ih := acc_bd f o n (fun j hj => h j (by omega))
    have hn := h n (by omega)
    have hp : (0 : Int) < 256 ^ n := Int.pow_pos (by omega)
    have h1 : f (o + n) * 256 ^ n ≤ 255 * 256 ^ n := Int.mul_le_mul_of_nonneg_right (by omega) (by omega)
    have h2 : 0 ≤ f (o + n) * 256 ^ n := Int.mul_nonneg hn.1 (by omega)
    show 0 ≤ acc f o n + f (o + n) * 256 ^ n ∧ acc f o n + f (o + n) * 256 ^ n < 256 ^ (n + 1)
    rw [Int.pow_succ]
    omega
theorem pow_small (n : Nat) (h : n ≤ 7) : (256 : Int) ^ n ≤ 72057594037927936 := by
  match n, h with
  | 0, _ | 1, _ | 2, _ | 3, _ | 4, _ | 5, _ | 6, _ | 7, _ => decide
theorem wrap_i64_id (n : Int) (h0 : 0 ≤ n) (h1 : n < 9223372036854775808) : IntKind.i64.wrap n = n := by
  simp only [IntKind.wrap, IntKind.bits, IntKind.signed]
  simp
  omega
theorem wrap64_id (n : Int) (h0 : 0 ≤ n) (h1 : n < 9223372036854775808) : wrap64 n = n := by
  unfold wrap64; omega
theorem bits_or_i64_nat (a b : Nat) (ha : a < 9223372036854775808) (hb : b < 9223372036854775808) :
    bits .or .i64 (a : Int) (b : Int) = ((a ||| b : Nat) : Int) := by
  have hx : a ||| b < 2 ^ 63 := Nat.or_lt_two_pow (by omega) (by omega)
  have h1 : (BitVec.ofInt 64 (a : Int)).toNat = a := by
    rw [BitVec.ofInt_natCast, BitVec.toNat_ofNat]; exact Nat.mod_eq_of_lt (by omega)
  have h2 : (BitVec.ofInt 64 (b : Int)).toNat = b := by
    rw [BitVec.ofInt_natCast, BitVec.toNat_ofNat]; exact Nat.mod_eq_of_lt (by omega)
  show IntKind.i64.wrap ((BitVec.ofInt 64 (a : Int) ||| BitVec.ofInt 64 (b : Int)).toNat : Int) = _
  rw [BitVec.toNat_or, h1, h2]
  exact wrap_i64_id _ (by omega) (by omega)
theorem or_add (v c k : Nat) (h : v < 2 ^ (k * 8)) : v ||| c * 2 ^ (k * 8) = v + c * 2 ^ (k * 8) := by
  have := Nat.two_pow_add_eq_or_of_lt h c
  rw [Nat.or_comm, Nat.mul_comm c, ← this]; omega
theorem pow8n (k : Nat) : (2 : Nat) ^ (k * 8) = 256 ^ k := by rw [Nat.mul_comm, Nat.pow_mul]
/-- A byte more, shifted to its place and laid over what there is. -/
theorem or_acc (f : Nat → Int) (o k : Nat) (hk : k < 7) (h : ∀ j, j < 7 → 0 ≤ f (o + j) ∧ f (o + j) < 256) :
    bits .or .i64 (acc f o k) (wrap64 (f (o + k) * 2 ^ (k * 8))) = acc f o (k + 1) := by
  have hb := acc_bd f o k (fun j hj => h j (by omega))
  have hs := acc_bd f o (k + 1) (fun j hj => h j (by omega))
  have hp := pow_small (k + 1) (by omega)
  have hc := h k hk
  have hq : (0 : Int) < 256 ^ k := Int.pow_pos (by omega)
  have h2 : 0 ≤ f (o + k) * 256 ^ k := Int.mul_nonneg hc.1 (by omega)
  have e : acc f o (k + 1) = acc f o k + f (o + k) * 256 ^ k := rfl
  rw [pow8, wrap64_id (f (o + k) * 256 ^ k) h2 (by omega), e]
  obtain ⟨c, ec⟩ := Int.eq_ofNat_of_zero_le hc.1
  obtain ⟨v, ev⟩ := Int.eq_ofNat_of_zero_le hb.1
  have em : f (o + k) * 256 ^ k = ((c * 256 ^ k : Nat) : Int) := by rw [ec, Int.natCast_mul, Int.natCast_pow]; rfl
  have hv : v < 256 ^ k := by
    have := hb.2; rw [ev] at this
    have e2 : ((256 : Int)) ^ k = ((256 ^ k : Nat) : Int) := by rw [Int.natCast_pow]; rfl
    rw [e2] at this; omega
  rw [em] at h2 ⊢
  rw [e, em, ev] at hs
  rw [ev]
  rw [bits_or_i64_nat _ _ (by omega) (by omega), ← pow8n, or_add v c k (by rw [pow8n]; exact hv)]
  omega

theorem set_same {W : World} {p : Addr} {u x : Value} (h : W.cell? p = some u) : (W.setCell p x).drew.cell? p = some x := by
  rw [World.cell?_drew]; exact World.cell?_setCell_same _ _ _ h
theorem set_off {W : World} {B i j : Nat} {v x : Value} (h : W.cell? ⟨B, j, none⟩ = some v) (hij : i ≠ j) : (W.setCell ⟨B, i, none⟩ x).drew.cell? ⟨B, j, none⟩ = some v := by
  rw [World.cell?_drew, World.cell?_setCell_other _ _ _ _ (by intro c; injection c with c1 c2; exact hij c2)]; exact h

set_option maxHeartbeats 1000000 in
theorem unpack_any (f : Nat → Int) (w : World) (hf : ∀ j, j < 14 → 0 ≤ f j ∧ f j < 256) :
    Calls Try.prog 26 #[arr14 f] w fun e w' => e = two (keep (chkA (acc f 0 7) (acc f 7 7)) (acc f 0 7)) (keep (chkA (acc f 0 7) (acc f 7 7)) (acc f 7 7)) (chkA (acc f 0 7) (acc f 7 7)) ∧ Below w.heap.size w w' := by
  have hA : ∀ j, j < 7 → 0 ≤ f (0 + j) ∧ f (0 + j) < 256 := fun j hj => hf _ (by omega)
  have hB : ∀ j, j < 7 → 0 ≤ f (7 + j) ∧ f (7 + j) < 256 := fun j hj => hf _ (by omega)
  have HF := hide hf
  have HFA := hide hA
  have HFB := hide hB
  clear hf hA hB
  go_enter Try.func26, Try.ntmps26
  go_wp2_with fail
  go_loopw [9] (fun i W => ∃ k : Nat, k ≤ 14 ∧ i = .int .i64 k ∧ Hid (Below (w.heap.size + 2) ((w.alloc (.cells #[.int .u8 (f 0), .int .u8 (f 1), .int .u8 (f 2), .int .u8 (f 3), .int .u8 (f 4), .int .u8 (f 5), .int .u8 (f 6), .int .u8 (f 7), .int .u8 (f 8), .int .u8 (f 9), .int .u8 (f 10), .int .u8 (f 11), .int .u8 (f 12), .int .u8 (f 13)] 37)).alloc (.cells #[.int .i64 0, .int .i64 0] 26)) W)
      ∧ W.cell? ⟨w.heap.size + 1 + 1, 0, none⟩ = some (.int .i64 (accA f k)) ∧ W.cell? ⟨w.heap.size + 1 + 1, 1, none⟩ = some (.int .i64 (accB f k)) ∧ (∀ o, W.frozen? ⟨w.heap.size + 1 + 1, o, none⟩ = false)) (fun i _ => 14 - (intOf i).toNat)
  case atStart => exact ⟨0, Nat.zero_le _, rfl, (Below.refl _ _).alloc (by simp) _, by simp [go_sem]; rfl, by simp [go_sem]; rfl, fun o => by simp [go_sem]⟩
  case round =>
    obtain ⟨k, hk, rfl, hbel, c0, c1, hfr⟩ := hrel
    by_cases hlt : k < 14
    · have hidx := fun W => idx14 f k hlt W
      obtain ⟨f0, f1⟩ := unhide HF k hlt
      have hk0 : (0 : Int) ≤ (k : Int) := by omega
      have hk1 : (k : Int) < 14 := by omega
      by_cases h7 : k < 7
      · have hq : (k : Int) / 7 = 0 := by omega
        have hr : (k : Int) % 7 = k := by omega
        have hwr : IntKind.i64.wrap 0 = 0 := by rfl
        have hv : Hid (bits .or .i64 (accA f k) (wrap64 (f k * 2 ^ (k * 8))) = accA f (k + 1)) := by
          have := or_acc f 0 k h7 (unhide HFA)
          rw [Nat.zero_add] at this
          unfold accA; rw [Nat.min_eq_left (by omega), Nat.min_eq_left (by omega)]; exact this
        have hu : Hid (accB f (k + 1) = accB f k) := by
          unfold accB; rw [show k + 1 - 7 = 0 by omega, show k - 7 = 0 by omega]; rfl
        go_wp2_with fail
        go_region_with (first | (go_at_call 32; refine (shift_any _ _ ?_ ?_).mono ?_; omega; omega; rintro e w' ⟨rfl, rfl⟩))
        all_goals
          go_wp2_with fail
          go_roundw
          case rel =>
            refine ⟨k + 1, by omega, by go_num, ((unhide hbel).setCell (by simp) _).drew, ?_, ?_, fun o => by simp [hfr]⟩
            · rw [← unhide hv]; exact set_same c0
            · rw [unhide hu]; exact set_off c1 (by omega)
          case measure => simp [intOf]; omega
      · have hq : (k : Int) / 7 = 1 := by omega
        have hr : (k : Int) % 7 = ((k - 7 : Nat) : Int) := by omega
        have hwr : IntKind.i64.wrap 1 = 1 := by rfl
        have hv : Hid (bits .or .i64 (accB f k) (wrap64 (f k * 2 ^ ((k - 7) * 8))) = accB f (k + 1)) := by
          have := or_acc f 7 (k - 7) (by omega) (unhide HFB)
          rw [show 7 + (k - 7) = k by omega] at this
          unfold accB; rw [show k + 1 - 7 = k - 7 + 1 by omega]; exact this
        have hu : Hid (accA f (k + 1) = accA f k) := by
          unfold accA; rw [Nat.min_eq_right (by omega), Nat.min_eq_right (by omega)]; rfl
        go_wp2_with fail
        go_region_with (first | (go_at_call 32; refine (shift_any _ _ ?_ ?_).mono ?_; omega; omega; rintro e w' ⟨rfl, rfl⟩))
        all_goals
          go_wp2_with fail
          go_roundw
          case rel =>
            refine ⟨k + 1, by omega, by go_num, ((unhide hbel).setCell (by simp) _).drew, ?_, ?_, fun o => by simp [hfr]⟩
            · rw [unhide hu]; exact set_off c0 (by omega)
            · rw [← unhide hv]; exact set_same c1
          case measure => simp [intOf]; omega
    · have hk14 : k = 14 := by omega
      subst hk14
      have g0 : Hid (accA f 14 = acc f 0 7) := rfl
      have g1 : Hid (accB f 14 = acc f 7 7) := rfl
      rw [unhide g0] at c0
      rw [unhide g1] at c1
      clear g0 g1 HF HFA HFB
      obtain ⟨x, hx⟩ : ∃ x, x = acc f 0 7 := ⟨_, rfl⟩
      obtain ⟨y, hy⟩ : ∃ y, y = acc f 7 7 := ⟨_, rfl⟩
      rw [← hx] at c0
      rw [← hy] at c1
      have HX := hide hx
      have HY := hide hy
      clear hx hy
      have e0 : wr.cell? ⟨w.heap.size + 1, 0, none⟩ = some (.int .i64 0) := by rw [(unhide hbel).cell (p := ⟨w.heap.size + 1, 0, none⟩) (by simp)]; simp [go_sem]
      have e1 : wr.cell? ⟨w.heap.size + 1, 1, none⟩ = some (.int .i64 0) := by rw [(unhide hbel).cell (p := ⟨w.heap.size + 1, 1, none⟩) (by simp)]; simp [go_sem]
      have ef : ∀ o, wr.frozen? ⟨w.heap.size + 1, o, none⟩ = false := fun o => by rw [(unhide hbel).frozen (p := ⟨w.heap.size + 1, o, none⟩) (by simp)]; simp [go_sem]
      have z0 : w.heap.size + 1 < wr.heap.size := World.block_lt_of_cell? _ _ e0
      have HB : Hid (Below w.heap.size w wr) := (((Below.refl _ _).alloc (Nat.le_refl _) _).alloc (by simp) _).trans ((unhide hbel).mono (by omega))
      clear hbel
      go_wp2_with fail
      refine (told_any _ _ _).mono ?_
      rintro e w1 ⟨rfl, hw1⟩
      have d0 := cell_kept hw1 e0
      have d1 := cell_kept hw1 e1
      have df : ∀ o, w1.frozen? ⟨w.heap.size + 1, o, none⟩ = false := fun o => by rw [hw1.frozen (p := ⟨w.heap.size + 1, o, none⟩) z0]; exact ef o
      have H1 : Hid (Below w.heap.size w w1) := below_call (unhide HB) (unhide HB).size hw1
      clear hw1 e0 e1 ef
      go_wp2_with fail
      exact bodyPost_ret (v := .tuple #[.agg #[.int .i64 (keep (chkA x y) x), .int .i64 (keep (chkA x y) y)], .int .i64 (chkA x y)]) (by simp [results, Try.results26, go_sem, d0, d1]) rfl
        ⟨by rw [← unhide HX, ← unhide HY], ((unhide H1).setCell (by simp) _).setCell (by simp) _⟩
end Go.Proofs.Ytkippgdboodlfaa
