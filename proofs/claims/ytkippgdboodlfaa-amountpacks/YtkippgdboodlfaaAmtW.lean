/- Layer 1: the contract of the document's Unpack; two arrays of fourteen bytes held against each other. -/
import Derived.Test.YtkippgdboodlfaaAmtV
namespace Go.Proofs.Ytkippgdboodlfaa
open Go.RowKit

/-- The number of the c highest ones of seven bytes from place o on. -/
def hs (f : Nat → Int) (o : Nat) : Nat → Int
  | 0 => 0
  | c + 1 => hs f o c * 256 + f (o + (6 - c))
theorem hs_bd (f : Nat → Int) (o : Nat) (h : ∀ j, j < 7 → 0 ≤ f (o + j) ∧ f (o + j) < 256) : ∀ c : Nat, 0 ≤ hs f o c ∧ hs f o c < 256 ^ c
  | 0 => ⟨Int.le_refl _, show (0 : Int) < 1 by omega⟩
  | c + 1 => by
    have ih := hs_bd f o h c
    have hn := h (6 - c) (by omega)
    show 0 ≤ hs f o c * 256 + f (o + (6 - c)) ∧ hs f o c * 256 + f (o + (6 - c)) < 256 ^ (c + 1)
    rw [Int.pow_succ]
    omega
theorem hs_acc (f : Nat → Int) (o : Nat) : hs f o 7 = acc f o 7 := by
  simp [hs, acc]; omega

theorem pow_small6 (n : Nat) (h : n ≤ 6) : (256 : Int) ^ n ≤ 281474976710656 := by
  match n, h with
  | 0, _ | 1, _ | 2, _ | 3, _ | 4, _ | 5, _ | 6, _ => decide
theorem setn_same {W : World} {p : Addr} {u x : Value} (h : W.cell? p = some u) : (W.setCell p x).cell? p = some x := World.cell?_setCell_same _ _ _ h
theorem setn_off {W : World} {B i j : Nat} {v x : Value} (h : W.cell? ⟨B, j, none⟩ = some v) (hij : i ≠ j) : (W.setCell ⟨B, i, none⟩ x).cell? ⟨B, j, none⟩ = some v := by
  rw [World.cell?_setCell_other _ _ _ _ (by intro c; injection c with c1 c2; exact hij c2)]; exact h

set_option maxHeartbeats 1000000 in
theorem runpack_any (f : Nat → Int) (w : World) (hf : ∀ j, j < 14 → 0 ≤ f j ∧ f j < 256) :
    Calls Try.prog 27 #[arr14 f] w fun e w' => e = two (keep (chkA (acc f 0 7) (acc f 7 7)) (acc f 0 7)) (keep (chkA (acc f 0 7) (acc f 7 7)) (acc f 7 7)) (chkA (acc f 0 7) (acc f 7 7)) ∧ Below w.heap.size w w' := by
  have HFA : Hid (∀ j, j < 7 → 0 ≤ f (0 + j) ∧ f (0 + j) < 256) := fun j hj => hf _ (by omega)
  have HFB : Hid (∀ j, j < 7 → 0 ≤ f (7 + j) ∧ f (7 + j) < 256) := fun j hj => hf _ (by omega)
  have HF := hide hf
  clear hf
  go_enter Try.func27, Try.ntmps27
  go_wp2_with fail
  go_loopw [5] (fun i W => ∃ m : Nat, m ≤ 2 ∧ i = .int .i64 m ∧ Hid (Below (w.heap.size + 1 + 1) ((w.alloc (.cells #[.int .u8 (f 0), .int .u8 (f 1), .int .u8 (f 2), .int .u8 (f 3), .int .u8 (f 4), .int .u8 (f 5), .int .u8 (f 6), .int .u8 (f 7), .int .u8 (f 8), .int .u8 (f 9), .int .u8 (f 10), .int .u8 (f 11), .int .u8 (f 12), .int .u8 (f 13)] 37)).alloc (.cells #[.int .i64 0, .int .i64 0] 26)) W)
      ∧ W.cell? ⟨w.heap.size + 1 + 1, 0, none⟩ = some (.int .i64 (if m = 0 then 0 else acc f 0 7)) ∧ W.cell? ⟨w.heap.size + 1 + 1, 1, none⟩ = some (.int .i64 (if m = 2 then acc f 7 7 else 0)) ∧ (∀ o, W.frozen? ⟨w.heap.size + 1 + 1, o, none⟩ = false)) (fun i _ => 2 - (intOf i).toNat)
  case atStart => exact ⟨0, Nat.zero_le _, rfl, (Below.refl _ _).alloc (by simp) _, by simp [go_sem], by simp [go_sem], fun o => by simp [go_sem]⟩
  case round =>
    obtain ⟨m, hm, rfl, hbel, c0, c1, hfr⟩ := hrel
    have ha : ∀ j, j < 14 → wr.cell? ⟨w.heap.size, j, none⟩ = some (.int .u8 (f j)) := fun j hj => by
      rw [(unhide hbel).cell (p := ⟨w.heap.size, j, none⟩) (by simp; omega)]
      match j, hj with
      | 0, _ | 1, _ | 2, _ | 3, _ | 4, _ | 5, _ | 6, _ | 7, _ | 8, _ | 9, _ | 10, _ | 11, _ | 12, _ | 13, _ => simp [go_sem]
    have HC := hide ha
    clear ha
    by_cases hm0 : m = 0
    · subst hm0
      go_wp2_with fail
      go_loop [6, 7] (fun n i => ∃ (k : Nat) (z : Int), k ≤ 7 ∧ i = .int .i64 z ∧ z = (k : Int) - 1 ∧ n = .int .i64 (hs f 0 (7 - k))) (fun _ i => (intOf i + 1).toNat)
      case atStart => exact ⟨7, 6, by omega, rfl, by omega, rfl⟩
      case round =>
        obtain ⟨k, z, hk, rfl, hz, rfl⟩ := hrel
        by_cases hk0 : k = 0
        · subst hk0
          obtain rfl : z = -1 := by omega
          clear hz
          have hA := hide (hs_acc f 0)
          go_wp2_with fail
          go_roundw
          case rel =>
            refine ⟨1, by omega, by go_num, (unhide hbel).setCell (by simp) _, ?_, ?_, fun o => by simp [hfr]⟩
            · rw [← unhide hA]; exact setn_same c0
            · exact setn_off c1 (by omega)
          case measure => simp [intOf]
        · obtain ⟨d, rfl⟩ : ∃ d, k = d + 1 := ⟨k - 1, by omega⟩
          obtain rfl : z = (d : Int) := by omega
          clear hz
          have hd := unhide HC (0 + d) (by omega)
          have nb := hs_bd f 0 (unhide HFA) (7 - (d + 1))
          have np := pow_small6 (7 - (d + 1)) (by omega)
          obtain ⟨n0, n1⟩ := nb
          have nx := hide (show hs f 0 (7 - d) = hs f 0 (7 - (d + 1)) * 256 + f (0 + d) by rw [show 7 - d = 7 - (d + 1) + 1 by omega]; show hs f 0 (7 - (d + 1)) * 256 + f (0 + (6 - (7 - (d + 1)))) = _; rw [show 0 + (6 - (7 - (d + 1))) = 0 + d by omega])
          have fb := unhide HF (0 + d) (by omega)
          rw [Nat.zero_add] at fb hd
          obtain ⟨f0, f1⟩ := fb
          have n2 : hs f 0 (7 - (d + 1)) < 281474976710656 := by omega
          clear n1 np
          generalize hs f 0 (7 - (d + 1)) = q at *
          go_wp2_with fail
          go_round
          case rel => exact ⟨d, (d : Int) - 1, by omega, rfl, rfl, by rw [unhide nx, Nat.zero_add]⟩
          case measure => simp [intOf]
    · by_cases hm1 : m = 1
      · subst hm1
        go_wp2_with fail
        go_loop [6, 7] (fun n i => ∃ (k : Nat) (z : Int), k ≤ 7 ∧ i = .int .i64 z ∧ z = (k : Int) - 1 ∧ n = .int .i64 (hs f 7 (7 - k))) (fun _ i => (intOf i + 1).toNat)
        case atStart => exact ⟨7, 6, by omega, rfl, by omega, rfl⟩
        case round =>
          obtain ⟨k, z, hk, rfl, hz, rfl⟩ := hrel
          by_cases hk0 : k = 0
          · subst hk0
            obtain rfl : z = -1 := by omega
            clear hz
            have hA := hide (hs_acc f 7)
            go_wp2_with fail
            go_roundw
            case rel =>
              refine ⟨2, by omega, by go_num, (unhide hbel).setCell (by simp) _, ?_, ?_, fun o => by simp [hfr]⟩
              · exact setn_off c0 (by omega)
              · rw [← unhide hA]; exact setn_same c1
            case measure => simp [intOf]
          · obtain ⟨d, rfl⟩ : ∃ d, k = d + 1 := ⟨k - 1, by omega⟩
            obtain rfl : z = (d : Int) := by omega
            clear hz
            have hd := unhide HC (7 + d) (by omega)
            have nb := hs_bd f 7 (unhide HFB) (7 - (d + 1))
            have np := pow_small6 (7 - (d + 1)) (by omega)
            obtain ⟨n0, n1⟩ := nb
            have nx := hide (show hs f 7 (7 - d) = hs f 7 (7 - (d + 1)) * 256 + f (7 + d) by rw [show 7 - d = 7 - (d + 1) + 1 by omega]; show hs f 7 (7 - (d + 1)) * 256 + f (7 + (6 - (7 - (d + 1)))) = _; rw [show 7 + (6 - (7 - (d + 1))) = 7 + d by omega])
            have fb := unhide HF (7 + d) (by omega)
            skip
            obtain ⟨f0, f1⟩ := fb
            have n2 : hs f 7 (7 - (d + 1)) < 281474976710656 := by omega
            clear n1 np
            generalize hs f 7 (7 - (d + 1)) = q at *
            go_wp2_with fail
            go_round
            case rel => exact ⟨d, (d : Int) - 1, by omega, rfl, rfl, by rw [unhide nx]⟩
            case measure => simp [intOf]
      · have hm2 : m = 2 := by omega
        subst hm2
        replace c0 : wr.cell? ⟨w.heap.size + 1 + 1, 0, none⟩ = some (.int .i64 (acc f 0 7)) := c0
        replace c1 : wr.cell? ⟨w.heap.size + 1 + 1, 1, none⟩ = some (.int .i64 (acc f 7 7)) := c1
        obtain ⟨x, hx⟩ : ∃ x, x = acc f 0 7 := ⟨_, rfl⟩
        obtain ⟨y, hy⟩ : ∃ y, y = acc f 7 7 := ⟨_, rfl⟩
        rw [← hx] at c0
        rw [← hy] at c1
        have HX := hide hx
        have HY := hide hy
        clear hx hy HC HFA HFB HF
        have e0 : wr.cell? ⟨w.heap.size + 1, 0, none⟩ = some (.int .i64 0) := by rw [(unhide hbel).cell (p := ⟨w.heap.size + 1, 0, none⟩) (by simp)]; simp [go_sem]
        have e1 : wr.cell? ⟨w.heap.size + 1, 1, none⟩ = some (.int .i64 0) := by rw [(unhide hbel).cell (p := ⟨w.heap.size + 1, 1, none⟩) (by simp)]; simp [go_sem]
        have ef : ∀ o, wr.frozen? ⟨w.heap.size + 1, o, none⟩ = false := fun o => by rw [(unhide hbel).frozen (p := ⟨w.heap.size + 1, o, none⟩) (by simp)]; simp [go_sem]
        have z0 : w.heap.size + 1 < wr.heap.size := World.block_lt_of_cell? _ _ e0
        have HB : Hid (Below w.heap.size w wr) := (((Below.refl _ _).alloc (Nat.le_refl _) _).alloc (by simp) _).trans ((unhide hbel).mono (by omega))
        clear hbel
        by_cases hP : chkA x y = 0
        · have ht : (chkA x y != 0) = false := by rw [hP]; rfl
          have HP := hide hP
          clear hP
          go_wp2_with fail
          refine (rcheckAll_any _ _ _).mono ?_
          rintro e w1 ⟨rfl, hw1⟩
          have b0 := cell_kept hw1 c0
          have b1 := cell_kept hw1 c1
          have d0 := cell_kept hw1 e0
          have d1 := cell_kept hw1 e1
          have df : ∀ o, w1.frozen? ⟨w.heap.size + 1, o, none⟩ = false := fun o => by rw [hw1.frozen (p := ⟨w.heap.size + 1, o, none⟩) z0]; exact ef o
          have H1 : Hid (Below w.heap.size w w1) := below_call (unhide HB) (unhide HB).size hw1
          clear hw1 e0 e1 ef c0 c1
          go_wp2_with fail
          exact bodyPost_ret (v := .tuple #[.agg #[.int .i64 x, .int .i64 y], .int .i64 0]) (by simp [results, Try.results27, go_sem, d0, d1]) rfl
            ⟨by rw [← unhide HX, ← unhide HY, unhide HP, keep_yes 0 _ rfl, keep_yes 0 _ rfl], ((unhide H1).setCell (by simp) _).setCell (by simp) _⟩
        · have ht : (chkA x y != 0) = true := bne_iff_ne.2 hP
          have HP := hide hP
          clear hP
          go_wp2_with fail
          refine (rcheckAll_any _ _ _).mono ?_
          rintro e w1 ⟨rfl, hw1⟩
          have d0 := cell_kept hw1 e0
          have d1 := cell_kept hw1 e1
          have df : ∀ o, w1.frozen? ⟨w.heap.size + 1, o, none⟩ = false := fun o => by rw [hw1.frozen (p := ⟨w.heap.size + 1, o, none⟩) z0]; exact ef o
          have H1 : Hid (Below w.heap.size w w1) := below_call (unhide HB) (unhide HB).size hw1
          clear hw1 e0 e1 ef c0 c1
          go_wp2_with fail
          exact bodyPost_ret (v := .tuple #[.agg #[.int .i64 0, .int .i64 0], .int .i64 (chkA x y)]) (by simp [results, Try.results27, go_sem, d0, d1]) rfl
            ⟨by rw [← unhide HX, ← unhide HY, keep_no _ _ (unhide HP), keep_no _ _ (unhide HP)], ((unhide H1).setCell (by simp) _).setCell (by simp) _⟩

theorem eqItems_self (w : World) (xs : Array Value) (g : Nat → Int) : ∀ is : List Nat, (∀ i ∈ is, xs[i]? = some (.int .u8 (g i))) → (Op.eqItems 9999 5 1 xs xs is).run Try.prog w = .ok true w
  | [], _ => by simp [Op.eqItems]
  | i :: is, h => by
    have ih := eqItems_self w xs g is (fun j hj => h j (by simp [hj]))
    have hp : (part 5 xs (i * 1)).run Try.prog w = .ok (.int .u8 (g i)) w := by
      simp [part, isAgg, run_underlying Try.underlying5, h i (by simp)]
    have he := run_equalIn_int (P := Try.prog) w 9998 5 .u8 .u8 (g i) (g i) Try.underlying5
    simp only [Op.eqItems, Sem.run_bind, hp, Result.andThen_ok]
    rw [he]
    simp [ih]
theorem eq14 (w : World) (f : Nat → Int) :
    (Op.equalIn 10000 37 (arr14 f) (arr14 f)).run Try.prog w = .ok true w := by
  obtain ⟨i, hi⟩ : ∃ i, Try.prog.info? 5 = some i := ⟨_, rfl⟩
  have hx := run_equalIn_array (P := Try.prog) w 9999 #[.int .u8 (f 0), .int .u8 (f 1), .int .u8 (f 2), .int .u8 (f 3), .int .u8 (f 4), .int .u8 (f 5), .int .u8 (f 6), .int .u8 (f 7), .int .u8 (f 8), .int .u8 (f 9), .int .u8 (f 10), .int .u8 (f 11), .int .u8 (f 12), .int .u8 (f 13)] #[.int .u8 (f 0), .int .u8 (f 1), .int .u8 (f 2), .int .u8 (f 3), .int .u8 (f 4), .int .u8 (f 5), .int .u8 (f 6), .int .u8 (f 7), .int .u8 (f 8), .int .u8 (f 9), .int .u8 (f 10), .int .u8 (f 11), .int .u8 (f 12), .int .u8 (f 13)] Try.underlying37 hi
  rw [Try.cells5] at hx
  rw [hx]
  apply eqItems_self w _ f
  intro j hj
  have hj' : j < 14 := by simpa using hj
  match j, hj' with
  | 0, _ | 1, _ | 2, _ | 3, _ | 4, _ | 5, _ | 6, _ | 7, _ | 8, _ | 9, _ | 10, _ | 11, _ | 12, _ | 13, _ => rfl

end Go.Proofs.Ytkippgdboodlfaa
