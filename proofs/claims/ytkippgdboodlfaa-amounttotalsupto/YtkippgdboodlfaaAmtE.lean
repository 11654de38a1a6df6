/- Layer 1: the contract of Sum. -/
import Derived.Test.YtkippgdboodlfaaAmtD
namespace Go.Proofs.Ytkippgdboodlfaa
open Go.RowKit

/-- The error of the first pair of a list that has one; both sums; the error of the sums. -/
def chkP : List (Int × Int) → Int
  | [] => 0
  | p :: ps => fst2 (chkA p.1 p.2) (chkP ps)
def sumA (ps : List (Int × Int)) : Int := zsum (ps.map (·.1))
def sumB (ps : List (Int × Int)) : Int := zsum (ps.map (·.2))
def eSum (ps : List (Int × Int)) : Int := fst2 (chkP ps) (chkA (sumA ps) (sumB ps))
theorem chkP_append : ∀ (xs ys : List (Int × Int)), chkP (xs ++ ys) = fst2 (chkP xs) (chkP ys)
  | [], ys => by rw [List.nil_append]; exact (fst2_zero _).symm
  | y :: zs, ys => by
    show fst2 (chkA y.1 y.2) (chkP (zs ++ ys)) = fst2 (fst2 (chkA y.1 y.2) (chkP zs)) (chkP ys)
    rw [chkP_append zs ys]
    unfold fst2
    by_cases h : chkA y.1 y.2 = 0
    · simp [h]
    · simp [h]
theorem chkP_one (p : Int × Int) : chkP [p] = chkA p.1 p.2 := by
  show fst2 (chkA p.1 p.2) 0 = _; unfold fst2; split <;> omega
theorem takeP_snoc (zs : List (Int × Int)) (k : Nat) (h : k < zs.length) : zs.take (k + 1) = zs.take k ++ [zs.getD k (0, 0)] := by
  rw [List.take_succ_eq_append_getElem h]; simp [List.getD, List.getElem?_eq_getElem h]
theorem chkP_split (zs : List (Int × Int)) (k : Nat) : chkP zs = fst2 (chkP (zs.take k)) (chkP (zs.drop k)) := by
  rw [← chkP_append, List.take_append_drop]
theorem chkP_at (zs : List (Int × Int)) (k : Nat) (h : k < zs.length) (h0 : chkP (zs.take k) = 0) (h1 : ¬ chkA (zs.getD k (0, 0)).1 (zs.getD k (0, 0)).2 = 0) : chkP zs = chkA (zs.getD k (0, 0)).1 (zs.getD k (0, 0)).2 := by
  rw [chkP_split zs (k + 1), takeP_snoc zs k h, chkP_append, h0, fst2_zero, chkP_one, fst2_ne _ h1]
theorem chkP_next (zs : List (Int × Int)) (k : Nat) (h : k < zs.length) (h0 : chkP (zs.take k) = 0) (h1 : chkA (zs.getD k (0, 0)).1 (zs.getD k (0, 0)).2 = 0) : chkP (zs.take (k + 1)) = 0 := by
  rw [takeP_snoc zs k h, chkP_append, h0, fst2_zero, chkP_one, h1]
theorem chkP_el (zs : List (Int × Int)) (k : Nat) (h : k < zs.length) (h0 : chkP zs = 0) : chkA (zs.getD k (0, 0)).1 (zs.getD k (0, 0)).2 = 0 := by
  rw [chkP_split zs (k + 1), takeP_snoc zs k h, chkP_append, chkP_one] at h0
  exact (fst2_eq (fst2_eq h0).1).2
theorem chkP_take (zs : List (Int × Int)) (k : Nat) (h0 : chkP zs = 0) : chkP (zs.take k) = 0 := by
  rw [chkP_split zs k] at h0; exact (fst2_eq h0).1
theorem chkP_drop (zs : List (Int × Int)) (k : Nat) (h0 : chkP zs = 0) : chkP (zs.drop k) = 0 := by
  rw [chkP_split zs k] at h0; exact (fst2_eq h0).2
theorem sums_nonneg : ∀ (ps : List (Int × Int)), chkP ps = 0 → 0 ≤ sumA ps ∧ 0 ≤ sumB ps
  | [], _ => ⟨Int.le_refl _, Int.le_refl _⟩
  | p :: ps, h => by
    have h' := fst2_eq (show fst2 (chkA p.1 p.2) (chkP ps) = 0 from h)
    have hp := (chkA_iff _ _).1 h'.1
    have hr := sums_nonneg ps h'.2
    have e1 : sumA (p :: ps) = p.1 + sumA ps := rfl
    have e2 : sumB (p :: ps) = p.2 + sumB ps := rfl
    omega
theorem sumA_next (zs : List (Int × Int)) (k : Nat) (h : k < zs.length) : sumA (zs.take (k + 1)) = sumA (zs.take k) + (zs.getD k (0, 0)).1 := by
  unfold sumA; rw [takeP_snoc zs k h, List.map_append, zsum_append]; show _ + ((zs.getD k (0, 0)).1 + 0) = _; omega
theorem sumB_next (zs : List (Int × Int)) (k : Nat) (h : k < zs.length) : sumB (zs.take (k + 1)) = sumB (zs.take k) + (zs.getD k (0, 0)).2 := by
  unfold sumB; rw [takeP_snoc zs k h, List.map_append, zsum_append]; show _ + ((zs.getD k (0, 0)).2 + 0) = _; omega
theorem sums_split (zs : List (Int × Int)) (k : Nat) : sumA zs = sumA (zs.take k) + sumA (zs.drop k) ∧ sumB zs = sumB (zs.take k) + sumB (zs.drop k) := by
  unfold sumA sumB
  rw [← zsum_append, ← zsum_append, ← List.map_append, ← List.map_append, List.take_append_drop]
  exact ⟨rfl, rfl⟩
theorem eSum_bad (zs : List (Int × Int)) (h0 : ¬ chkP zs = 0) : eSum zs = chkP zs := fst2_ne _ h0
theorem eSum_ok (zs : List (Int × Int)) (h0 : chkP zs = 0) : eSum zs = chkA (sumA zs) (sumB zs) := by unfold eSum; rw [h0]; exact fst2_zero _
theorem chkA_over (a b : Int) (ha : 0 ≤ a) (hb : 0 ≤ b) (h : 1125899906842624 < a ∨ 1125899906842624 < b) : chkA a b = 10 := by
  by_cases h1 : 1125899906842624 < a
  · rw [chkA_no _ _ (by rw [chk_high h1]; omega), chk_high h1]
  · rw [chkA_yes _ _ (chk_ok ha (by omega)), chk_high (by omega)]
/-- A running sum that is over stays over. -/
theorem eSum_over (zs : List (Int × Int)) (k : Nat) (h0 : chkP zs = 0) (h1 : ¬ chkA (sumA (zs.take (k + 1))) (sumB (zs.take (k + 1))) = 0) :
    eSum zs = 10 ∧ chkA (sumA (zs.take (k + 1))) (sumB (zs.take (k + 1))) = 10 := by
  have p := sums_nonneg _ (chkP_take zs (k + 1) h0)
  have q := sums_nonneg _ (chkP_drop zs (k + 1) h0)
  have s := sums_split zs (k + 1)
  have o : 1125899906842624 < sumA (zs.take (k + 1)) ∨ 1125899906842624 < sumB (zs.take (k + 1)) := by
    rw [chkA_iff] at h1; omega
  rw [eSum_ok zs h0]
  exact ⟨chkA_over _ _ (by omega) (by omega) (by omega), chkA_over _ _ p.1 p.2 o⟩

section
variable {w W : World} {x y : Value} {t : TypeId}
/-- What was there ahead of a new box of two is there still. -/
theorem old_cell (h : Below (w.heap.size + 1) (w.alloc (.cells #[x, y] t)) W) {p : Addr} {v : Value} (hc : w.cell? p = some v) : W.cell? p = some v := by
  have l := World.block_lt_of_cell? w p hc
  rw [h.cell (p := p) (by omega), World.cell?_alloc_lt _ _ _ l]; exact hc
theorem box_cell0 (h : Below (w.heap.size + 1) (w.alloc (.cells #[x, y] t)) W) : W.cell? ⟨w.heap.size, 0, none⟩ = some x := by
  rw [h.cell (p := ⟨w.heap.size, 0, none⟩) (by simp)]; simp [go_sem]
theorem box_cell1 (h : Below (w.heap.size + 1) (w.alloc (.cells #[x, y] t)) W) : W.cell? ⟨w.heap.size, 1, none⟩ = some y := by
  rw [h.cell (p := ⟨w.heap.size, 1, none⟩) (by simp)]; simp [go_sem]
theorem box_frozen (h : Below (w.heap.size + 1) (w.alloc (.cells #[x, y] t)) W) (o : Nat) : W.frozen? ⟨w.heap.size, o, none⟩ = false := by
  rw [h.frozen (p := ⟨w.heap.size, o, none⟩) (by simp)]; simp [go_sem]
theorem cell_kept {V V' : World} (h : Below V.heap.size V V') {p : Addr} {v : Value} (hc : V.cell? p = some v) : V'.cell? p = some v := by
  rw [h.cell (World.block_lt_of_cell? V p hc)]; exact hc
theorem box_size (h : Below (w.heap.size + 1) (w.alloc (.cells #[x, y] t)) W) : w.heap.size < W.heap.size := by
  have := h.size; simp at this; omega
theorem box_below (h : Below (w.heap.size + 1) (w.alloc (.cells #[x, y] t)) W) : Below w.heap.size w W :=
  ((Below.refl _ _).alloc (Nat.le_refl _) _).trans (h.mono (by omega))
end

set_option maxHeartbeats 1000000 in
theorem sum_any (ps : List (Int × Int)) (a : Option Addr) (b off len cap : Nat) (w : World) (hl : len = ps.length) (hm : ps.length ≤ maxLen) (ha : 0 < ps.length → a = some ⟨b, off, none⟩)
    (hc : ∀ i, i < ps.length → w.cell? ⟨b, off + i * 2, none⟩ = some (.int .i64 (ps.getD i (0, 0)).1) ∧ w.cell? ⟨b, off + i * 2 + 1, none⟩ = some (.int .i64 (ps.getD i (0, 0)).2)) :
    Calls Try.prog 20 #[.slice a len cap] w fun e w' => e = two (keep (eSum ps) (sumA ps)) (keep (eSum ps) (sumB ps)) (eSum ps) ∧ Below w.heap.size w w' := by
  subst hl
  unfold maxLen at hm
  have HC := hide hc
  have HA := hide ha
  clear hc ha
  go_enter Try.func20, Try.ntmps20
  go_wp2_with fail
  go_loopw [14] (fun i W => ∃ k : Nat, k ≤ ps.length ∧ i = .int .i64 k ∧ Hid (chkP (ps.take k) = 0) ∧ Hid (Below (w.heap.size + 1) (w.alloc (.cells #[.int .i64 0, .int .i64 0] 26)) W)) (fun i _ => ps.length - (intOf i).toNat)
  case atStart => exact ⟨0, Nat.zero_le _, rfl, rfl, Below.refl _ _⟩
  case round =>
    obtain ⟨k, hk, rfl, hchk, hbel⟩ := hrel
    have hsz := box_size (unhide hbel)
    by_cases hlt : k < ps.length
    · obtain ⟨c0, c1⟩ := unhide HC k hlt
      obtain rfl := unhide HA (by omega)
      have d0 := old_cell (unhide hbel) c0
      have d1 := old_cell (unhide hbel) c1
      clear c0 c1
      have hz0 : w.heap.size < wr.heap.size + 1 := by omega
      have hz1 : ¬ w.heap.size = wr.heap.size := by omega
      by_cases hz : chkA (ps.getD k (0, 0)).1 (ps.getD k (0, 0)).2 = 0
      · have hn := hide (chkP_next ps k hlt (unhide hchk) hz)
        have ht : (chkA (ps.getD k (0, 0)).1 (ps.getD k (0, 0)).2 != 0) = false := by rw [hz]; rfl
        clear hz hchk
        generalize (ps.getD k (0, 0)).1 = p at *
        generalize (ps.getD k (0, 0)).2 = q at *
        go_wp2_with fail
        refine (checkAll_any _ _ _).mono ?_
        rintro e w1 ⟨rfl, hw1⟩
        have H1 := hide hw1
        clear hw1
        go_wp2_with fail
        go_roundw
        case rel => exact ⟨k + 1, by omega, by go_num, hn, ((unhide hbel).alloc (by omega) _).trans ((unhide H1).mono (by simp; omega))⟩
        case measure => simp [intOf]; omega
      · have he := chkP_at ps k hlt (unhide hchk) hz
        have hx := hide ((eSum_bad ps (by rw [he]; exact hz)).trans he)
        have hy := hide (keep_no (chkA (ps.getD k (0, 0)).1 (ps.getD k (0, 0)).2) (sumA ps) hz)
        have hy2 := hide (keep_no (chkA (ps.getD k (0, 0)).1 (ps.getD k (0, 0)).2) (sumB ps) hz)
        have ht : (chkA (ps.getD k (0, 0)).1 (ps.getD k (0, 0)).2 != 0) = true := bne_iff_ne.2 hz
        clear hz hchk he
        generalize (ps.getD k (0, 0)).1 = p at *
        generalize (ps.getD k (0, 0)).2 = q at *
        go_wp2_with fail
        refine (checkAll_any _ _ _).mono ?_
        rintro e w1 ⟨rfl, hw1⟩
        have hB : Hid (Below (w.heap.size + 1) (w.alloc (.cells #[.int .i64 0, .int .i64 0] 26)) w1) := ((unhide hbel).alloc (by omega) _).trans (hw1.mono (by simp; omega))
        have e0 := box_cell0 (unhide hB)
        have e1 := box_cell1 (unhide hB)
        have ef := box_frozen (unhide hB)
        clear hw1
        go_wp2_with fail
        exact bodyPost_ret (v := .tuple #[.agg #[.int .i64 0, .int .i64 0], .int .i64 (chkA p q)]) (by simp [results, Try.results20, go_sem, e0, e1]) rfl
          ⟨by rw [unhide hx]; exact two_eq (unhide hy).symm (unhide hy2).symm rfl, ((box_below (unhide hB)).setCell (by simp) _).setCell (by simp) _⟩
    · have h0 : Hid (chkP ps = 0) := by
        have := unhide hchk; rw [List.take_of_length_le (by omega)] at this; exact this
      clear hchk
      rename World => W1
      go_wp2_with fail
      go_loopw [28] (fun i W => ∃ k : Nat, k ≤ ps.length ∧ i = .int .i64 k ∧ W.cell? ⟨W1.heap.size, 0, none⟩ = some (.int .i64 (sumA (ps.take k))) ∧ W.cell? ⟨W1.heap.size, 1, none⟩ = some (.int .i64 (sumB (ps.take k)))
          ∧ Hid (W.frozen? ⟨W1.heap.size, 0, none⟩ = false ∧ W.frozen? ⟨W1.heap.size, 1, none⟩ = false) ∧ Hid (chkA (sumA (ps.take k)) (sumB (ps.take k)) = 0) ∧ Hid (Below (w.heap.size + 1) (w.alloc (.cells #[.int .i64 0, .int .i64 0] 26)) W)) (fun i _ => ps.length - (intOf i).toNat)
      case atStart => exact ⟨0, Nat.zero_le _, rfl, by simp [go_sem]; rfl, by simp [go_sem]; rfl, ⟨by simp [go_sem], by simp [go_sem]⟩, rfl, (unhide hbel).alloc (by omega) _⟩
      case round =>
        obtain ⟨j, hj, rfl, s0, s1, sf, hin, hbel2⟩ := hrel
        have hsz2 := box_size (unhide hbel2)
        have hsz3 := World.block_lt_of_cell? wr _ s0
        simp only at hsz3
        by_cases hlt : j < ps.length
        · obtain ⟨c0, c1⟩ := unhide HC j hlt
          obtain rfl := unhide HA (by omega)
          have d0 := old_cell (unhide hbel2) c0
          have d1 := old_cell (unhide hbel2) c1
          clear c0 c1
          have hel := chkP_el ps j hlt (unhide h0)
          have hB0 : chkB (sumA (ps.take j)) (sumB (ps.take j)) (ps.getD j (0, 0)).1 (ps.getD j (0, 0)).2 = 0 := (chkB_iff _ _ _ _).2 ⟨unhide hin, hel⟩
          have hE := eAdd_yes _ _ _ _ hB0
          have na := hide (sumA_next ps j hlt)
          have nb := hide (sumB_next ps j hlt)
          have hz0 : W1.heap.size < wr.heap.size + 1 := by omega
          have hz1 : ¬ W1.heap.size = wr.heap.size := by omega
          by_cases hz : chkA (sumA (ps.take j) + (ps.getD j (0, 0)).1) (sumB (ps.take j) + (ps.getD j (0, 0)).2) = 0
          · rw [hz] at hE
            have HE := hide hE
            have HZ := hide hz
            clear hE hel hB0 hz
            generalize (ps.getD j (0, 0)).1 = p at *
            generalize (ps.getD j (0, 0)).2 = q at *
            generalize sumA (ps.take j) = sa at *
            generalize sumB (ps.take j) = sb at *
            go_wp2_with fail
            refine (add_any _ _ _ _ _).mono ?_
            rintro e w1 ⟨he, hw1⟩
            rw [unhide HE, keep_yes 0 _ rfl, keep_yes 0 _ rfl] at he
            subst he
            have hB : Hid (Below (w.heap.size + 1) (w.alloc (.cells #[.int .i64 0, .int .i64 0] 26)) w1) := ((unhide hbel2).alloc (by omega) _).trans (hw1.mono (by simp; omega))
            have f0 := cell_kept hw1 (p := ⟨W1.heap.size, 0, none⟩) (v := .int .i64 sa) (by rw [World.cell?_alloc_lt _ _ _ hsz3]; exact s0)
            have f1 := cell_kept hw1 (p := ⟨W1.heap.size, 1, none⟩) (v := .int .i64 sb) (by rw [World.cell?_alloc_lt _ _ _ hsz3]; exact s1)
            have g0 : w1.frozen? ⟨W1.heap.size, 0, none⟩ = false := by rw [hw1.frozen (by simp; omega)]; simp [go_sem, (unhide sf).1, hsz3]
            have g1 : w1.frozen? ⟨W1.heap.size, 1, none⟩ = false := by rw [hw1.frozen (by simp; omega)]; simp [go_sem, (unhide sf).2, hsz3]
            have hz2 : W1.heap.size < w1.heap.size := by have := hw1.size; simp at this; omega
            have hz3 : ¬ W1.heap.size = w1.heap.size := by omega
            have hz4 : W1.heap.size < w1.heap.size + 1 := by omega
            have G := hide hw1
            clear hw1
            go_wp2_with fail
            go_roundw
            case rel =>
              have hsw : w.heap.size + 1 ≤ W1.heap.size := hsz
              have hsw1 : w.heap.size + 1 ≤ w1.heap.size := by omega
              refine ⟨j + 1, by omega, by go_num, by rw [unhide na]; simp [go_sem, f0, hz2], by rw [unhide nb]; simp [go_sem, f1, hz2], ⟨by simp [go_sem, g0, hz2], by simp [go_sem, g1, hz2]⟩, ?_, ?_⟩
              · rw [unhide na, unhide nb]; exact unhide HZ
              · exact (((unhide hB).setCell (by simp; omega) _).setCell (by simp; omega) _).alloc (by simp; omega) _
            case measure => simp [intOf]; omega
          · have ho := eSum_over ps j (unhide h0) (by rw [unhide na, unhide nb]; exact hz)
            rw [unhide na, unhide nb] at ho
            rw [ho.2] at hE
            have HE := hide hE
            have HO := hide ho.1
            have hy := hide (keep_no 10 (sumA ps) (by omega))
            have hy2 := hide (keep_no 10 (sumB ps) (by omega))
            clear hE hel hB0 hz ho
            generalize (ps.getD j (0, 0)).1 = p at *
            generalize (ps.getD j (0, 0)).2 = q at *
            generalize sumA (ps.take j) = sa at *
            generalize sumB (ps.take j) = sb at *
            go_wp2_with fail
            refine (add_any _ _ _ _ _).mono ?_
            rintro e w1 ⟨he, hw1⟩
            rw [unhide HE, keep_no 10 _ (by omega), keep_no 10 _ (by omega)] at he
            subst he
            have hB : Hid (Below (w.heap.size + 1) (w.alloc (.cells #[.int .i64 0, .int .i64 0] 26)) w1) := ((unhide hbel2).alloc (by omega) _).trans (hw1.mono (by simp; omega))
            have e0 := box_cell0 (unhide hB)
            have e1 := box_cell1 (unhide hB)
            have ef := box_frozen (unhide hB)
            have hz2 := box_size (unhide hB)
            have hz3 : ¬ w.heap.size = w1.heap.size := by omega
            have hz4 : w.heap.size < w1.heap.size + 1 := by omega
            clear hw1
            go_wp2_with fail
            exact bodyPost_ret (v := .tuple #[.agg #[.int .i64 0, .int .i64 0], .int .i64 10]) (by simp [results, Try.results20, go_sem, e0, e1, hz2]) rfl
              ⟨by rw [unhide HO]; exact two_eq (unhide hy).symm (unhide hy2).symm rfl, (((box_below (unhide hB)).setCell (by simp) _).setCell (by simp) _).alloc (by simp; omega) _⟩
        · have hfull : ps.take j = ps := List.take_of_length_le (by omega)
          rw [hfull] at s0 s1 hin
          have hx := hide ((eSum_ok ps (unhide h0)).trans (unhide hin))
          have e0 := box_cell0 (unhide hbel2)
          have e1 := box_cell1 (unhide hbel2)
          have ef := box_frozen (unhide hbel2)
          clear hfull
          have hne : ¬ w.heap.size = W1.heap.size := by omega
          have hne2 : ¬ W1.heap.size = w.heap.size := by omega
          go_wp2_with fail
          exact bodyPost_ret (v := .tuple #[.agg #[.int .i64 (sumA ps), .int .i64 (sumB ps)], .int .i64 0]) (by simp [results, Try.results20, go_sem, e0, e1]) rfl
            ⟨by rw [unhide hx]; exact two_eq (keep_yes 0 _ rfl).symm (keep_yes 0 _ rfl).symm rfl, ((box_below (unhide hbel2)).setCell (by simp) _).setCell (by simp) _⟩

end Go.Proofs.Ytkippgdboodlfaa
