/- Layer 1: contracts of shift, Pack and Unpack. -/
import Derived.Test.YtkippgdboodlfaaAmtE
namespace Go.Proofs.Ytkippgdboodlfaa
open Go.RowKit

set_option maxHeartbeats 400000 in
theorem shift_any (i : Int) (w : World) (h0 : 0 ≤ i) (h1 : i < 14) :
    Calls Try.prog 32 #[.int .i64 i] w fun e w' => e = .returned (.int .u64 (i % 7 * 8)) ∧ w' = w := by
  have a0 : 0 ≤ i % 7 := by omega
  have a1 : i % 7 < 7 := by omega
  go_enter Try.func32, Try.ntmps32
  go_wp2
  go_ret
  exact ⟨rfl, rfl⟩

/-- Byte number k of a number, the lowest one first; and of two numbers, seven bytes each. -/
def pb (n : Int) (k : Nat) : Int := n / 256 ^ k % 256
def pbs (a b : Int) (j : Nat) : Int := if j < 7 then pb a j else pb b (j - 7)
/-- Fourteen bytes as an array's value. -/
abbrev arr14 (f : Nat → Int) : Value := .agg #[.int .u8 (f 0), .int .u8 (f 1), .int .u8 (f 2), .int .u8 (f 3), .int .u8 (f 4), .int .u8 (f 5), .int .u8 (f 6), .int .u8 (f 7), .int .u8 (f 8), .int .u8 (f 9), .int .u8 (f 10), .int .u8 (f 11), .int .u8 (f 12), .int .u8 (f 13)]

set_option maxHeartbeats 1000000 in
theorem pack_no (a b : Int) (w : World) (h : ¬ chkA a b = 0) :
    Calls Try.prog 24 #[.agg #[.int .i64 a, .int .i64 b]] w fun e w' => e = .returned (.tuple #[arr14 (fun _ => 0), .int .i64 (chkA a b)]) ∧ Below w.heap.size w w' := by
  have ht : (chkA a b != 0) = true := bne_iff_ne.2 h
  clear h
  go_enter Try.func24, Try.ntmps24
  go_wp2_with fail
  refine (checkAll_any _ _ _).mono ?_
  rintro e w1 ⟨rfl, hw1⟩
  obtain ⟨hc1, hf1⟩ := bcell hw1
  go_wp2_with fail
  refine bodyPost_ret (v := .tuple #[arr14 (fun _ => 0), .int .i64 (chkA a b)]) (by simp [results, Try.results24, go_sem, hc1]) rfl ⟨rfl, ?_⟩
  repeat refine Below.setCell ?_ (by simp) _
  exact below2 hw1

theorem pow8 : ∀ k : Nat, (2 : Int) ^ (k * 8) = 256 ^ k
  | 0 => rfl
  | k + 1 => by rw [Nat.succ_mul, Int.pow_add, pow8 k, Int.pow_succ]; rfl
theorem shr_pb (n : Int) (k : Nat) : IntKind.u8.wrap (n / 2 ^ ((k : Int) * 8).toNat) = pb n k := by
  rw [IntKind.wrap_u8, show ((k : Int) * 8).toNat = k * 8 by omega, pow8]; rfl
theorem far_drew {W : World} {p q : Addr} {v x : Value} (h : W.cell? p = some v) (hb : q.block ≠ p.block) : (W.setCell q x).drew.cell? p = some v := by
  rw [World.cell?_drew, World.cell?_setCell_far _ _ _ _ hb]; exact h
/-- One byte more of fourteen is stored. -/
theorem store14 {W : World} {B k : Nat} {f : Nat → Int} {x : Int} (hx : x = f k)
    (h : ∀ j, j < 14 → W.cell? ⟨B, j, none⟩ = some (.int .u8 (if j < k then f j else 0)) ∧ W.frozen? ⟨B, j, none⟩ = false) (hk : k < 14) :
    ∀ j, j < 14 → (W.setCell ⟨B, k, none⟩ (.int .u8 x)).drew.cell? ⟨B, j, none⟩ = some (.int .u8 (if j < k + 1 then f j else 0)) ∧ (W.setCell ⟨B, k, none⟩ (.int .u8 x)).drew.frozen? ⟨B, j, none⟩ = false := by
  intro j hj
  refine ⟨?_, ?_⟩
  · rw [World.cell?_drew]
    by_cases e : j = k
    · subst e
      rw [World.cell?_setCell_same _ _ _ (h j hj).1, if_pos (by omega), hx]
    · rw [World.cell?_setCell_other _ _ _ _ (by intro c; injection c with c1 c2; exact e c2.symm), (h j hj).1]
      by_cases l : j < k
      · rw [if_pos l, if_pos (by omega)]
      · rw [if_neg l, if_neg (by omega)]
  · show (W.setCell ⟨B, k, none⟩ (.int .u8 x)).frozen? ⟨B, j, none⟩ = false
    rw [World.frozen?_setCell]; exact (h j hj).2
theorem start14 (w1 : World) (f : Nat → Int) : ∀ j, j < 14 →
    (w1.alloc (.cells #[.int .u8 0, .int .u8 0, .int .u8 0, .int .u8 0, .int .u8 0, .int .u8 0, .int .u8 0, .int .u8 0, .int .u8 0, .int .u8 0, .int .u8 0, .int .u8 0, .int .u8 0, .int .u8 0] 37)).cell? ⟨w1.heap.size, j, none⟩ = some (.int .u8 (if j < 0 then f j else 0))
    ∧ (w1.alloc (.cells #[.int .u8 0, .int .u8 0, .int .u8 0, .int .u8 0, .int .u8 0, .int .u8 0, .int .u8 0, .int .u8 0, .int .u8 0, .int .u8 0, .int .u8 0, .int .u8 0, .int .u8 0, .int .u8 0] 37)).frozen? ⟨w1.heap.size, j, none⟩ = false := by
  intro j hj
  rw [if_neg (by omega)]
  match j, hj with
  | 0, _ | 1, _ | 2, _ | 3, _ | 4, _ | 5, _ | 6, _ | 7, _ | 8, _ | 9, _ | 10, _ | 11, _ | 12, _ | 13, _ => exact ⟨by simp [go_sem], by simp [go_sem]⟩

set_option maxHeartbeats 1000000 in
theorem pack_yes (a b : Int) (w : World) (h : chkA a b = 0) :
    Calls Try.prog 24 #[.agg #[.int .i64 a, .int .i64 b]] w fun e w' => e = .returned (.tuple #[arr14 (pbs a b), .int .i64 0]) ∧ Below w.heap.size w w' := by
  have ht : (chkA a b != 0) = false := by rw [h]; rfl
  obtain ⟨⟨a0, a1⟩, ⟨b0, b1⟩⟩ := (chkA_iff a b).1 h
  clear h
  go_enter Try.func24, Try.ntmps24
  go_wp2_with fail
  refine (checkAll_any _ _ _).mono ?_
  rintro e w1 ⟨rfl, hw1⟩
  obtain ⟨hc1, hf1⟩ := bcell hw1
  have hz : w.heap.size + 1 < w1.heap.size := by have := hw1.size; simp at this; omega
  have d0 : w1.cell? ⟨w.heap.size, 0, none⟩ = some (.int .i64 a) := by rw [hc1 _ _ (by simp; omega)]; simp [go_sem]
  have d1 : w1.cell? ⟨w.heap.size, 1, none⟩ = some (.int .i64 b) := by rw [hc1 _ _ (by simp; omega)]; simp [go_sem]
  have H1 := hide hw1
  clear hc1 hf1 hw1
  go_wp2_with fail
  go_loopw [14] (fun i W => ∃ k : Nat, k ≤ 14 ∧ i = .int .i64 k ∧ Hid (Below w1.heap.size w1 W) ∧ Hid (∀ j, j < 14 → W.cell? ⟨w1.heap.size, j, none⟩ = some (.int .u8 (if j < k then pbs a b j else 0)) ∧ W.frozen? ⟨w1.heap.size, j, none⟩ = false)) (fun i _ => 14 - (intOf i).toNat)
  case atStart => exact ⟨0, Nat.zero_le _, rfl, (Below.refl _ _).alloc (Nat.le_refl _) _, start14 w1 _⟩
  case round =>
    obtain ⟨k, hk, rfl, hbel, hcs⟩ := hrel
    by_cases hlt : k < 14
    · have e0 := cell_kept (unhide hbel) d0
      have e1 := cell_kept (unhide hbel) d1
      obtain ⟨ck, fk⟩ := unhide hcs k hlt
      have hk0 : (0 : Int) ≤ (k : Int) := by omega
      have hk1 : (k : Int) < 14 := by omega
      have hne2 : ¬ w1.heap.size = w.heap.size := by omega
      by_cases h7 : k < 7
      · have hq : (k : Int) / 7 = 0 := by omega
        have hr : (k : Int) % 7 = k := by omega
        have hwr : IntKind.i64.wrap 0 = 0 := by rfl
        have hv := hide (show IntKind.u8.wrap (a / 2 ^ ((k : Int) * 8).toNat) = pbs a b k by rw [shr_pb]; unfold pbs; rw [if_pos h7])
        go_wp2_with fail
        go_region_held3 (fun W => W.cell? ⟨w.heap.size, 0, none⟩ = some (.int .i64 a)) (first | exact e0 | exact far_drew e0 hne2)
          (first | (go_at_call 32; refine (shift_any _ _ ?_ ?_).mono ?_; omega; omega; rintro e w' ⟨rfl, rfl⟩))
        go_wp2_with fail
        go_roundw
        case rel => exact ⟨k + 1, by omega, by go_num, ((unhide hbel).setCell (by simp) _).drew, store14 (unhide hv) (unhide hcs) hlt⟩
        case measure => simp [intOf]; omega
      · have hq : (k : Int) / 7 = 1 := by omega
        have hr : (k : Int) % 7 = ((k - 7 : Nat) : Int) := by omega
        have hwr : IntKind.i64.wrap 1 = 1 := by rfl
        have hv := hide (show IntKind.u8.wrap (b / 2 ^ (((k - 7 : Nat) : Int) * 8).toNat) = pbs a b k by rw [shr_pb]; unfold pbs; rw [if_neg h7])
        go_wp2_with fail
        go_region_held3 (fun W => W.cell? ⟨w.heap.size, 1, none⟩ = some (.int .i64 b)) (first | exact e1 | exact far_drew e1 hne2)
          (first | (go_at_call 32; refine (shift_any _ _ ?_ ?_).mono ?_; omega; omega; rintro e w' ⟨rfl, rfl⟩))
        go_wp2_with fail
        go_roundw
        case rel => exact ⟨k + 1, by omega, by go_num, ((unhide hbel).setCell (by simp) _).drew, store14 (unhide hv) (unhide hcs) hlt⟩
        case measure => simp [intOf]; omega
    · have hb2 := (unhide hbel)
      have g0 : ∀ j, j < 14 → wr.cell? ⟨w1.heap.size, j, none⟩ = some (.int .u8 (pbs a b j)) := fun j hj => by rw [(unhide hcs j hj).1, if_pos (by omega)]
      have g1 : ∀ j, j < 14 → wr.cell? ⟨w.heap.size + 1, j, none⟩ = some (.int .u8 0) := fun j hj => by
        rw [hb2.cell (p := ⟨w.heap.size + 1, j, none⟩) hz, (unhide H1).cell (p := ⟨w.heap.size + 1, j, none⟩) (by simp)]
        have := (start14 (w.alloc (.cells #[.int .i64 a, .int .i64 b] 26)) (fun _ => 0) j hj).1
        simpa using this
      have g2 : ∀ j, wr.frozen? ⟨w.heap.size + 1, j, none⟩ = false := fun j => by
        rw [hb2.frozen (p := ⟨w.heap.size + 1, j, none⟩) hz, (unhide H1).frozen (p := ⟨w.heap.size + 1, j, none⟩) (by simp)]; simp [go_sem]
      have hB : Hid (Below w.heap.size w wr) := (below2 (unhide H1)).trans (hb2.mono (by omega))
      clear hb2 hbel hcs H1
      go_wp2_with fail
      refine bodyPost_ret (v := .tuple #[arr14 (pbs a b), .int .i64 0]) (by simp [results, Try.results24, go_sem, g1]) rfl ⟨rfl, ?_⟩
      repeat refine Below.setCell ?_ (by simp) _
      exact unhide hB

theorem pack_any (a b : Int) (w : World) :
    Calls Try.prog 24 #[.agg #[.int .i64 a, .int .i64 b]] w fun e w' => e = .returned (.tuple #[arr14 (fun j => keep (chkA a b) (pbs a b j)), .int .i64 (chkA a b)]) ∧ Below w.heap.size w w' := by
  by_cases h : chkA a b = 0
  · have hk : (fun j => keep (chkA a b) (pbs a b j)) = pbs a b := funext fun j => keep_yes _ _ h
    rw [hk, h]
    exact pack_yes a b w h
  · have hk : (fun j => keep (chkA a b) (pbs a b j)) = fun _ => 0 := funext fun j => keep_no _ _ h
    rw [hk]
    exact pack_no a b w h

end Go.Proofs.Ytkippgdboodlfaa
