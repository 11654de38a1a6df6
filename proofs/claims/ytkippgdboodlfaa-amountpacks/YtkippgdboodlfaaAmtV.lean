/- Layer 1: contracts of the document's Pack and Unpack. -/
import Derived.Test.YtkippgdboodlfaaAmtU
namespace Go.Proofs.Ytkippgdboodlfaa
open Go.RowKit

theorem store14n {W : World} {B k : Nat} {f : Nat → Int} {x : Int} (hx : x = f k)
    (h : ∀ j, j < 14 → W.cell? ⟨B, j, none⟩ = some (.int .u8 (if j < k then f j else 0)) ∧ W.frozen? ⟨B, j, none⟩ = false) (hk : k < 14) :
    ∀ j, j < 14 → (W.setCell ⟨B, k, none⟩ (.int .u8 x)).cell? ⟨B, j, none⟩ = some (.int .u8 (if j < k + 1 then f j else 0)) ∧ (W.setCell ⟨B, k, none⟩ (.int .u8 x)).frozen? ⟨B, j, none⟩ = false := by
  intro j hj
  have := store14 hx h hk j hj
  rw [World.cell?_drew] at this
  exact this

set_option maxHeartbeats 1000000 in
theorem rpack_yes (a b : Int) (w : World) (h : chkA a b = 0) :
    Calls Try.prog 25 #[.agg #[.int .i64 a, .int .i64 b]] w fun e w' => e = .returned (.tuple #[arr14 (pbs a b), .int .i64 0]) ∧ Below w.heap.size w w' := by
  have ht : (chkA a b != 0) = false := by rw [h]; rfl
  obtain ⟨⟨a0, a1⟩, ⟨b0, b1⟩⟩ := (chkA_iff a b).1 h
  clear h
  go_enter Try.func25, Try.ntmps25
  go_wp2_with fail
  refine (rcheckAll_any _ _ _).mono ?_
  rintro e w1 ⟨rfl, hw1⟩
  have d0 := cell_kept hw1 (p := ⟨w.heap.size, 0, none⟩) (v := .int .i64 a) (by simp [go_sem])
  have d1 := cell_kept hw1 (p := ⟨w.heap.size, 1, none⟩) (v := .int .i64 b) (by simp [go_sem])
  have r0 : Hid (∀ j, j < 14 → w1.cell? ⟨w.heap.size + 1, j, none⟩ = some (.int .u8 0) ∧ w1.frozen? ⟨w.heap.size + 1, j, none⟩ = false) := fun j hj => by
    rw [hw1.cell (p := ⟨w.heap.size + 1, j, none⟩) (by simp), hw1.frozen (p := ⟨w.heap.size + 1, j, none⟩) (by simp)]
    have := start14 (w.alloc (.cells #[.int .i64 a, .int .i64 b] 26)) (fun _ => 0) j hj
    simpa [go_sem] using this
  have o0 : Hid (∀ j, j < 14 → w1.cell? ⟨w.heap.size + 1 + 1, j, none⟩ = some (.int .u8 (if j < 0 then pbs a b j else 0)) ∧ w1.frozen? ⟨w.heap.size + 1 + 1, j, none⟩ = false) := fun j hj => by
    rw [hw1.cell (p := ⟨w.heap.size + 1 + 1, j, none⟩) (by simp), hw1.frozen (p := ⟨w.heap.size + 1 + 1, j, none⟩) (by simp)]
    have := start14 ((w.alloc (.cells #[.int .i64 a, .int .i64 b] 26)).alloc (.cells #[.int .u8 0, .int .u8 0, .int .u8 0, .int .u8 0, .int .u8 0, .int .u8 0, .int .u8 0, .int .u8 0, .int .u8 0, .int .u8 0, .int .u8 0, .int .u8 0, .int .u8 0, .int .u8 0] 37)) (pbs a b) j hj
    simpa using this
  have HB : Hid (Below w.heap.size w w1) := below3' hw1
  clear hw1
  go_wp2_with fail
  go_loopw [6] (fun i W => ∃ m : Nat, m ≤ 2 ∧ i = .int .i64 m ∧ Hid (Below (w.heap.size + 1 + 1) w1 W) ∧ Hid (∀ j, j < 14 → W.cell? ⟨w.heap.size + 1 + 1, j, none⟩ = some (.int .u8 (if j < m * 7 then pbs a b j else 0)) ∧ W.frozen? ⟨w.heap.size + 1 + 1, j, none⟩ = false)) (fun i _ => 2 - (intOf i).toNat)
  case atStart => exact ⟨0, Nat.zero_le _, rfl, Below.refl _ _, unhide o0⟩
  case round =>
    obtain ⟨m, hm, rfl, hbel, hcs⟩ := hrel
    have e0 : wr.cell? ⟨w.heap.size, 0, none⟩ = some (.int .i64 a) := by rw [(unhide hbel).cell (p := ⟨w.heap.size, 0, none⟩) (by simp; omega)]; exact d0
    have e1 : wr.cell? ⟨w.heap.size, 1, none⟩ = some (.int .i64 b) := by rw [(unhide hbel).cell (p := ⟨w.heap.size, 1, none⟩) (by simp; omega)]; exact d1
    by_cases hm0 : m = 0
    · subst hm0
      rename World => W1
      go_wp2_with fail
      go_loopw [7, 8] (fun n i W => ∃ k : Nat, k ≤ 7 ∧ i = .int .i64 k ∧ n = .int .i64 (a / 256 ^ k) ∧ Hid (Below (w.heap.size + 1 + 1) w1 W) ∧ Hid (∀ j, j < 14 → W.cell? ⟨w.heap.size + 1 + 1, j, none⟩ = some (.int .u8 (if j < k then pbs a b j else 0)) ∧ W.frozen? ⟨w.heap.size + 1 + 1, j, none⟩ = false)) (fun _ i _ => 7 - (intOf i).toNat)
      case atStart => exact ⟨0, Nat.zero_le _, rfl, by simp, hbel, hcs⟩
      case round =>
        obtain ⟨k, hk, rfl, rfl, hbel2, hcs2⟩ := hrel
        by_cases hlt : k < 7
        · obtain ⟨ck, fk⟩ := unhide hcs2 (k) (by omega)
          have nn : 0 ≤ a / 256 ^ k := Int.ediv_nonneg a0 (by apply Int.pow_nonneg; omega)
          have nm : a / 256 ^ k ≤ 1125899906842624 := Int.le_trans (Int.ediv_le_self _ a0) a1
          have nx := hide (show a / 256 ^ k / 256 = a / 256 ^ (k + 1) by rw [Int.ediv_ediv_of_nonneg (by apply Int.pow_nonneg; omega), Int.pow_succ])
          have nv := hide (show a / 256 ^ k % 256 = pbs a b (k) by unfold pbs; rw [if_pos hlt]; rfl)
          generalize hq : a / 256 ^ k = q at *
          clear hq
          go_wp2_with fail
          go_roundw
          case rel => exact ⟨k + 1, by omega, by go_num, by rw [unhide nx], (unhide hbel2).setCell (by simp) _, store14n (unhide nv) (unhide hcs2) (by omega)⟩
          case measure => simp [intOf]; omega
        · have hk7 : k = 7 := by omega
          subst hk7
          go_wp2_with fail
          go_roundw
          case rel => exact ⟨1, by omega, by go_num, hbel2, hcs2⟩
          case measure => simp [intOf]
    · by_cases hm1 : m = 1
      · subst hm1
        rename World => W1
        go_wp2_with fail
        go_loopw [7, 8] (fun n i W => ∃ k : Nat, k ≤ 7 ∧ i = .int .i64 k ∧ n = .int .i64 (b / 256 ^ k) ∧ Hid (Below (w.heap.size + 1 + 1) w1 W) ∧ Hid (∀ j, j < 14 → W.cell? ⟨w.heap.size + 1 + 1, j, none⟩ = some (.int .u8 (if j < 7 + k then pbs a b j else 0)) ∧ W.frozen? ⟨w.heap.size + 1 + 1, j, none⟩ = false)) (fun _ i _ => 7 - (intOf i).toNat)
        case atStart => exact ⟨0, Nat.zero_le _, rfl, by simp, hbel, hcs⟩
        case round =>
          obtain ⟨k, hk, rfl, rfl, hbel2, hcs2⟩ := hrel
          by_cases hlt : k < 7
          · obtain ⟨ck, fk⟩ := unhide hcs2 (7 + k) (by omega)
            have nn : 0 ≤ b / 256 ^ k := Int.ediv_nonneg b0 (by apply Int.pow_nonneg; omega)
            have nm : b / 256 ^ k ≤ 1125899906842624 := Int.le_trans (Int.ediv_le_self _ b0) b1
            have nx := hide (show b / 256 ^ k / 256 = b / 256 ^ (k + 1) by rw [Int.ediv_ediv_of_nonneg (by apply Int.pow_nonneg; omega), Int.pow_succ])
            have nv := hide (show b / 256 ^ k % 256 = pbs a b (7 + k) by unfold pbs; rw [if_neg (by omega), Nat.add_sub_cancel_left]; rfl)
            generalize hq : b / 256 ^ k = q at *
            clear hq
            go_wp2_with fail
            go_roundw
            case rel => exact ⟨k + 1, by omega, by go_num, by rw [unhide nx], (unhide hbel2).setCell (by simp) _, store14n (unhide nv) (unhide hcs2) (by omega)⟩
            case measure => simp [intOf]; omega
          · have hk7 : k = 7 := by omega
            subst hk7
            go_wp2_with fail
            go_roundw
            case rel => exact ⟨2, by omega, by go_num, hbel2, hcs2⟩
            case measure => simp [intOf]
      · have hm2 : m = 2 := by omega
        subst hm2
        have g0 : ∀ j, j < 14 → wr.cell? ⟨w.heap.size + 1 + 1, j, none⟩ = some (.int .u8 (pbs a b j)) := fun j hj => by rw [(unhide hcs j hj).1, if_pos (by omega)]
        have g1 : ∀ j, j < 14 → wr.cell? ⟨w.heap.size + 1, j, none⟩ = some (.int .u8 0) := fun j hj => by
          rw [(unhide hbel).cell (p := ⟨w.heap.size + 1, j, none⟩) (by simp)]; exact (unhide r0 j hj).1
        have g2 : ∀ j, j < 14 → wr.frozen? ⟨w.heap.size + 1, j, none⟩ = false := fun j hj => by
          rw [(unhide hbel).frozen (p := ⟨w.heap.size + 1, j, none⟩) (by simp)]; exact (unhide r0 j hj).2
        have hB : Hid (Below w.heap.size w wr) := (unhide HB).trans ((unhide hbel).mono (by omega))
        clear hbel hcs r0 o0 HB e0 e1 d0 d1
        go_wp2_with fail
        refine bodyPost_ret (v := .tuple #[arr14 (pbs a b), .int .i64 0]) (by simp [results, Try.results25, go_sem, g1]) rfl ⟨rfl, ?_⟩
        repeat refine Below.setCell ?_ (by simp) _
        exact unhide hB

set_option maxHeartbeats 1000000 in
theorem rpack_no (a b : Int) (w : World) (h : ¬ chkA a b = 0) :
    Calls Try.prog 25 #[.agg #[.int .i64 a, .int .i64 b]] w fun e w' => e = .returned (.tuple #[arr14 (fun _ => 0), .int .i64 (chkA a b)]) ∧ Below w.heap.size w w' := by
  have ht : (chkA a b != 0) = true := bne_iff_ne.2 h
  clear h
  go_enter Try.func25, Try.ntmps25
  go_wp2_with fail
  refine (rcheckAll_any _ _ _).mono ?_
  rintro e w1 ⟨rfl, hw1⟩
  obtain ⟨hc1, hf1⟩ := bcell hw1
  go_wp2_with fail
  refine bodyPost_ret (v := .tuple #[arr14 (fun _ => 0), .int .i64 (chkA a b)]) (by simp [results, Try.results25, go_sem, hc1]) rfl ⟨rfl, ?_⟩
  repeat refine Below.setCell ?_ (by simp) _
  exact below3' hw1

theorem rpack_any (a b : Int) (w : World) :
    Calls Try.prog 25 #[.agg #[.int .i64 a, .int .i64 b]] w fun e w' => e = .returned (.tuple #[arr14 (fun j => keep (chkA a b) (pbs a b j)), .int .i64 (chkA a b)]) ∧ Below w.heap.size w w' := by
  by_cases h : chkA a b = 0
  · have hk : (fun j => keep (chkA a b) (pbs a b j)) = pbs a b := funext fun j => keep_yes _ _ h
    rw [hk, h]
    exact rpack_yes a b w h
  · have hk : (fun j => keep (chkA a b) (pbs a b j)) = fun _ => 0 := funext fun j => keep_no _ _ h
    rw [hk]
    exact rpack_no a b w h

end Go.Proofs.Ytkippgdboodlfaa
