/- Layer 1: slices of the call's own; the contract of the document's Sum. -/
import Derived.Test.YtkippgdboodlfaaAmtS
namespace Go.Proofs.Ytkippgdboodlfaa
open Go.ChangeShapes Go.WideShapes Go.ChangeAt Go.RowKit

/-- The cells of some pairs, two each. -/
def flat : List (Int × Int) → List Value
  | [] => []
  | q :: qs => .int .i64 q.1 :: .int .i64 q.2 :: flat qs
theorem flat_append : ∀ xs ys : List (Int × Int), flat (xs ++ ys) = flat xs ++ flat ys
  | [], _ => rfl
  | q :: qs, ys => by show _ :: _ :: flat (qs ++ ys) = _ :: _ :: (flat qs ++ flat ys); rw [flat_append qs ys]
theorem flat_length : ∀ xs : List (Int × Int), (flat xs).length = xs.length * 2
  | [] => rfl
  | q :: qs => by show (flat qs).length + 1 + 1 = (qs.length + 1) * 2; rw [flat_length qs]; omega
theorem flat_at : ∀ (xs : List (Int × Int)) (i : Nat), i < xs.length → (flat xs)[i * 2]? = some (.int .i64 (xs.getD i (0, 0)).1) ∧ (flat xs)[i * 2 + 1]? = some (.int .i64 (xs.getD i (0, 0)).2)
  | q :: qs, 0, _ => ⟨rfl, rfl⟩
  | q :: qs, i + 1, h => by
    have ih := flat_at qs i (by simpa using h)
    rw [show (i + 1) * 2 = i * 2 + 2 by omega]
    exact ih

theorem Try.infoPair : (Try.prog.info? 26).map (fun i => (i.zero, i.size, i.bytes)) = some (some (.agg #[.int .i64 0, .int .i64 0]), 2, 16) := by kernel_rfl
theorem own_ge {W : World} {base e size n : Nat} {v : Value} {xs : List Value} (h : W.ownsRow base e size v n xs) : ∀ k, v.ownBlock = some k → base ≤ k := by
  intro k hk
  rcases h.2 with ⟨rfl, _⟩ | ⟨g, cap, cur, rfl, hb, _⟩
  · cases hk
  · cases hk; exact hb
theorem block_new (W : World) (c : Array Value) (t : TypeId) : (W.alloc (.cells c t)).heap[W.heap.size]? = some (.cells c t) := by
  unfold World.alloc; simp
theorem own_none (W : World) (t : TypeId) : (W.alloc (.cells #[] t)).ownsRow W.heap.size t 2 (.slice (some ⟨W.heap.size, 0, none⟩) 0 0) 0 [] :=
  ⟨rfl, Or.inr ⟨W.heap.size, 0, #[], rfl, Nat.le_refl _, block_new W #[] t, Nat.le_refl _, Nat.zero_le _, rfl, rfl⟩⟩
theorem own_pairs {W : World} {base e : Nat} {v : Value} {qs : List (Int × Int)} (h : W.ownsRow base e 2 v qs.length (flat qs)) : ∃ a cap g, v = .slice a qs.length cap ∧ PairsAt W a g 0 qs := by
  have hc := h
  rcases h.2 with ⟨hv, hn⟩ | ⟨g, cap, cur, rfl, _, _⟩
  · refine ⟨none, 0, 0, by rw [hv, hn], fun h0 => absurd h0 (by omega), fun i hi => absurd hi (by omega)⟩
  · refine ⟨some ⟨g, 0, none⟩, cap, g, rfl, fun _ => rfl, fun i hi => ?_⟩
    have hf := flat_at qs i hi
    have k0 := hc.cells (g := g) rfl _ _ hf.1
    have k1 := hc.cells (g := g) rfl _ _ hf.2
    rw [add_off] at k0 k1
    exact ⟨k0, k1⟩
theorem new_cells2 {W : World} {t : TypeId} {x y : Value} : ∀ (j : Nat) (u : Value), [x, y][j]? = some u → (W.alloc (.cells #[x, y] t)).cell? ((⟨W.heap.size, 0, none⟩ : Addr).add j) = some u := by
  intro j u hu
  rw [add_off]
  match j, hu with
  | 0, hu => simp at hu; subst hu; simp [go_sem]
  | 1, hu => simp at hu; subst hu; simp [go_sem]
  | j + 2, hu => simp at hu
theorem one_cells2 {k : IntKind} {x y : Int} : ∀ u ∈ [Value.int k x, Value.int k y], u.oneCell' = true := by
  intro u hu
  simp at hu
  rcases hu with rfl | rfl <;> rfl
section
variable {W V : World} {p q r t : Addr} {x y z u v : Value} {o : Obj}
/-- Four cells that are there are there still: behind a call, a new block, a store elsewhere. -/
theorem four_call (hb : Below W.heap.size W V) (h : W.cell? p = some x ∧ W.cell? q = some y ∧ W.cell? r = some z ∧ W.cell? t = some u) : V.cell? p = some x ∧ V.cell? q = some y ∧ V.cell? r = some z ∧ V.cell? t = some u :=
  ⟨cell_kept hb h.1, cell_kept hb h.2.1, cell_kept hb h.2.2.1, cell_kept hb h.2.2.2⟩
theorem four_new (h : W.cell? p = some x ∧ W.cell? q = some y ∧ W.cell? r = some z ∧ W.cell? t = some u) : (W.alloc o).cell? p = some x ∧ (W.alloc o).cell? q = some y ∧ (W.alloc o).cell? r = some z ∧ (W.alloc o).cell? t = some u :=
  four_call ((Below.refl _ _).alloc (Nat.le_refl _) _) h
theorem four_newd (h : W.cell? p = some x ∧ W.cell? q = some y ∧ W.cell? r = some z ∧ W.cell? t = some u) : (W.alloc o).drew.cell? p = some x ∧ (W.alloc o).drew.cell? q = some y ∧ (W.alloc o).drew.cell? r = some z ∧ (W.alloc o).drew.cell? t = some u :=
  four_call (((Below.refl _ _).alloc (Nat.le_refl _) _).drew) h
theorem four_set {B : Nat} {x' y' : Value} (hp : B ≠ p.block) (hq : B ≠ q.block) (hr : B ≠ r.block) (ht : B ≠ t.block) (h : W.cell? p = some x ∧ W.cell? q = some y ∧ W.cell? r = some z ∧ W.cell? t = some u) :
    ((W.setCell ⟨B, 0, none⟩ x').setCell ⟨B, 1, none⟩ y').cell? p = some x ∧ ((W.setCell ⟨B, 0, none⟩ x').setCell ⟨B, 1, none⟩ y').cell? q = some y ∧ ((W.setCell ⟨B, 0, none⟩ x').setCell ⟨B, 1, none⟩ y').cell? r = some z ∧ ((W.setCell ⟨B, 0, none⟩ x').setCell ⟨B, 1, none⟩ y').cell? t = some u := by
  refine ⟨?_, ?_, ?_, ?_⟩
  · rw [World.cell?_setCell_far _ _ _ _ hp, World.cell?_setCell_far _ _ _ _ hp]; exact h.1
  · rw [World.cell?_setCell_far _ _ _ _ hq, World.cell?_setCell_far _ _ _ _ hq]; exact h.2.1
  · rw [World.cell?_setCell_far _ _ _ _ hr, World.cell?_setCell_far _ _ _ _ hr]; exact h.2.2.1
  · rw [World.cell?_setCell_far _ _ _ _ ht, World.cell?_setCell_far _ _ _ _ ht]; exact h.2.2.2
end
theorem eAdd_parts (a b c d : Int) (h : eAdd a b c d = 0) : chkA c d = 0 ∧ chkA (a + c) (b + d) = 0 := by
  unfold eAdd at h; rw [fst2_iff, chkB_iff] at h; exact ⟨h.1.2, h.2⟩

set_option maxHeartbeats 1000000 in
theorem rsum_any (ps : List (Int × Int)) (a : Option Addr) (b off len cap : Nat) (w : World) (hl : len = ps.length) (hm : ps.length ≤ maxLen) (ha : 0 < ps.length → a = some ⟨b, off, none⟩)
    (hc : ∀ i, i < ps.length → w.cell? ⟨b, off + i * 2, none⟩ = some (.int .i64 (ps.getD i (0, 0)).1) ∧ w.cell? ⟨b, off + i * 2 + 1, none⟩ = some (.int .i64 (ps.getD i (0, 0)).2)) :
    Calls Try.prog 21 #[.slice a len cap] w fun e w' => e = two (keep (eSum ps) (sumA ps)) (keep (eSum ps) (sumB ps)) (eSum ps) ∧ Below w.heap.size w w' := by
  subst hl
  unfold maxLen at hm
  have HC := hide hc
  have HA := hide ha
  clear hc ha
  go_enter Try.func21, Try.ntmps21
  go_wp2_with fail
  go_loopw [4] (fun i W => ∃ k : Nat, k ≤ ps.length ∧ i = .int .i64 k ∧ Hid (chkP (ps.take k) = 0) ∧ Hid (Below (w.heap.size + 1) (w.alloc (.cells #[.int .i64 0, .int .i64 0] 26)) W)) (fun i _ => ps.length - (intOf i).toNat)
  case atStart => exact ⟨0, Nat.zero_le _, rfl, rfl, Below.refl _ _⟩
  case round =>
    obtain ⟨k, hk, rfl, hchk, hbel⟩ := hrel
    have hsz := box_size (unhide hbel)
    by_cases hlt : k < ps.length
    · obtain ⟨c0, c1⟩ := unhide HC k hlt
      obtain rfl := unhide HA (by omega)
      have d0 := old_cell (unhide hbel) c0
      have d1 := old_cell (unhide hbel) c1
      clear c0 c1
      have hz0 : w.heap.size < wr.heap.size + 1 := by omega
      have hz1 : ¬ w.heap.size = wr.heap.size := by omega
      by_cases hz : chkA (ps.getD k (0, 0)).1 (ps.getD k (0, 0)).2 = 0
      · have hn := hide (chkP_next ps k hlt (unhide hchk) hz)
        have ht : (chkA (ps.getD k (0, 0)).1 (ps.getD k (0, 0)).2 != 0) = false := by rw [hz]; rfl
        clear hz hchk
        generalize (ps.getD k (0, 0)).1 = p at *
        generalize (ps.getD k (0, 0)).2 = q at *
        go_wp2_with fail
        refine (rcheckAll_any _ _ _).mono ?_
        rintro e w1 ⟨rfl, hw1⟩
        have H1 := hide hw1
        clear hw1
        go_wp2_with fail
        go_roundw
        case rel => exact ⟨k + 1, by omega, by go_num, hn, (unhide hbel).trans ((unhide H1).mono (by omega))⟩
        case measure => simp [intOf]; omega
      · have he := chkP_at ps k hlt (unhide hchk) hz
        have hx := hide ((eSum_bad ps (by rw [he]; exact hz)).trans he)
        have hy := hide (keep_no (chkA (ps.getD k (0, 0)).1 (ps.getD k (0, 0)).2) (sumA ps) hz)
        have hy2 := hide (keep_no (chkA (ps.getD k (0, 0)).1 (ps.getD k (0, 0)).2) (sumB ps) hz)
        have ht : (chkA (ps.getD k (0, 0)).1 (ps.getD k (0, 0)).2 != 0) = true := bne_iff_ne.2 hz
        clear hz hchk he
        generalize (ps.getD k (0, 0)).1 = p at *
        generalize (ps.getD k (0, 0)).2 = q at *
        go_wp2_with fail
        refine (rcheckAll_any _ _ _).mono ?_
        rintro e w1 ⟨rfl, hw1⟩
        have hB : Hid (Below (w.heap.size + 1) (w.alloc (.cells #[.int .i64 0, .int .i64 0] 26)) w1) := (unhide hbel).trans (hw1.mono (by omega))
        have e0 := box_cell0 (unhide hB)
        have e1 := box_cell1 (unhide hB)
        have ef := box_frozen (unhide hB)
        clear hw1
        go_wp2_with fail
        exact bodyPost_ret (v := .tuple #[.agg #[.int .i64 0, .int .i64 0], .int .i64 (chkA p q)]) (by simp [results, Try.results21, go_sem, e0, e1]) rfl
          ⟨by rw [unhide hx]; exact two_eq (unhide hy).symm (unhide hy2).symm rfl, ((box_below (unhide hB)).setCell (by simp) _).setCell (by simp) _⟩
    · have h0 : Hid (chkP ps = 0) := by
        have := unhide hchk; rw [List.take_of_length_le (by omega)] at this; exact this
      clear hchk
      rename World => W1
      go_wp2_with fail
      go_loopw [7] (fun i W => ∃ k : Nat, k ≤ ps.length ∧ i = .int .i64 k ∧ W.cell? ⟨W1.heap.size, 0, none⟩ = some (.int .i64 (sumA (ps.take k))) ∧ W.cell? ⟨W1.heap.size, 1, none⟩ = some (.int .i64 (sumB (ps.take k))) ∧ Hid (W.frozen? ⟨W1.heap.size, 0, none⟩ = false ∧ W.frozen? ⟨W1.heap.size, 1, none⟩ = false) ∧ Hid (chkA (sumA (ps.take k)) (sumB (ps.take k)) = 0) ∧ Hid (Below (w.heap.size + 1) (w.alloc (.cells #[.int .i64 0, .int .i64 0] 26)) W)) (fun i _ => ps.length - (intOf i).toNat)
      case atStart => exact ⟨0, Nat.zero_le _, rfl, by simp [go_sem]; rfl, by simp [go_sem]; rfl, ⟨by simp [go_sem], by simp [go_sem]⟩, rfl, (unhide hbel).alloc (by omega) _⟩
      case round =>
        obtain ⟨k2, hk2, rfl, s0, s1, sf, hin, hbel2⟩ := hrel
        by_cases hlt2 : k2 < ps.length
        · obtain rfl := unhide HA (by omega)
          obtain ⟨c0, c1⟩ := unhide HC k2 (by omega)
          have d0 := old_cell (unhide hbel2) c0
          have d1 := old_cell (unhide hbel2) c1
          clear c0 c1
          have hkl : (k2 : Int) < ps.length := by omega
          have n2 : W1.heap.size < wr.heap.size := World.block_lt_of_cell? _ _ s0
          have n0 : wr.heap.size ≠ W1.heap.size := by omega
          have n1 : wr.heap.size ≠ b := by have := World.block_lt_of_cell? _ _ d0; simp only at this; omega
          generalize hpv : (ps.getD k2 (0, 0)).1 = p at *
          generalize hqv : (ps.getD k2 (0, 0)).2 = q at *
          generalize hsa : sumA (ps.take k2) = sa at *
          generalize hsb : sumB (ps.take k2) = sb at *
          have Hpv := hide hpv
          have Hqv := hide hqv
          have Hsa := hide hsa
          have Hsb := hide hsb
          clear hpv hqv hsa hsb
          go_wp2_with fail
          go_region_held3 (fun W => W.cell? ⟨W1.heap.size, 0, none⟩ = some (.int .i64 sa) ∧ W.cell? ⟨W1.heap.size, 1, none⟩ = some (.int .i64 sb) ∧ W.cell? ⟨b, off + k2 * 2, none⟩ = some (.int .i64 p) ∧ W.cell? ⟨b, off + k2 * 2 + 1, none⟩ = some (.int .i64 q))
            (first | exact ⟨s0, s1, d0, d1⟩ | assumption | (refine four_call (hb := hw3) ?_; assumption) | (refine four_newd ?_; assumption) | (refine four_new ?_; assumption) | (refine four_new (four_call (hb := hw3) ?_); exact ⟨s0, s1, d0, d1⟩) | (refine four_set n0 n0 n1 n1 ?_; assumption))
            (first | (go_at_call 17; refine (radd_any _ _ _ _ _).mono ?_; rintro e w3 ⟨rfl, hw3⟩; obtain ⟨hc3, hf3⟩ := bcell hw3))
          · rename_i hH
            have V0 : (w3.alloc (.cells #[.int .i64 (keep (eAdd sa sb p q) (sa + p)), .int .i64 (keep (eAdd sa sb p q) (sb + q))] 26)).cell? ⟨w3.heap.size, 0, none⟩ = some (.int .i64 (keep (eAdd sa sb p q) (sa + p))) := by simp [go_sem]
            have V1 : (w3.alloc (.cells #[.int .i64 (keep (eAdd sa sb p q) (sa + p)), .int .i64 (keep (eAdd sa sb p q) (sb + q))] 26)).cell? ⟨w3.heap.size, 1, none⟩ = some (.int .i64 (keep (eAdd sa sb p q) (sb + q))) := by simp [go_sem]
            have hw3' : Below wr.heap.size wr w3 := (Below.refl _ _).drew.trans (hw3.mono (Nat.le_refl _))
            have BB : Below (w.heap.size + 1) (w.alloc (.cells #[.int .i64 0, .int .i64 0] 26)) (w3.alloc (.cells #[.int .i64 (keep (eAdd sa sb p q) (sa + p)), .int .i64 (keep (eAdd sa sb p q) (sb + q))] 26)) := ((unhide hbel2).trans (hw3'.mono (by omega))).alloc (by have := hw3'.size; omega) _
            have F : ∀ o, (w3.alloc (.cells #[.int .i64 (keep (eAdd sa sb p q) (sa + p)), .int .i64 (keep (eAdd sa sb p q) (sb + q))] 26)).frozen? ⟨W1.heap.size, o, none⟩ = w3.frozen? ⟨W1.heap.size, o, none⟩ := fun o => ((Below.refl w3.heap.size w3).alloc (Nat.le_refl _) _).frozen (p := ⟨W1.heap.size, o, none⟩) (by have := hw3'.size; simp only; omega)
            have F0 : (w3.alloc (.cells #[.int .i64 (keep (eAdd sa sb p q) (sa + p)), .int .i64 (keep (eAdd sa sb p q) (sb + q))] 26)).frozen? ⟨W1.heap.size, 0, none⟩ = false := by rw [F, hw3'.frozen (p := ⟨W1.heap.size, 0, none⟩) (by simp; omega)]; exact (unhide sf).1
            have F1 : (w3.alloc (.cells #[.int .i64 (keep (eAdd sa sb p q) (sa + p)), .int .i64 (keep (eAdd sa sb p q) (sb + q))] 26)).frozen? ⟨W1.heap.size, 1, none⟩ = false := by rw [F, hw3'.frozen (p := ⟨W1.heap.size, 1, none⟩) (by simp; omega)]; exact (unhide sf).2
            have nB : w3.heap.size ≠ W1.heap.size := by have := hw3'.size; omega
            obtain ⟨O0, O1, _, _⟩ := hH
            generalize w3.alloc (.cells #[.int .i64 (keep (eAdd sa sb p q) (sa + p)), .int .i64 (keep (eAdd sa sb p q) (sb + q))] 26) = V at *
            generalize w3.heap.size = B at *
            clear hw3 hw3' F
            by_cases hE : eAdd sa sb p q = 0
            · have ht : (eAdd sa sb p q != 0) = false := by rw [hE]; rfl
              rw [hE, keep_yes 0 _ rfl] at V0 V1
              have hx := hide (eAdd_parts sa sb p q hE)
              clear hE
              go_wp2_with fail
              go_roundw
              case rel =>
                refine ⟨k2 + 1, by omega, by go_num, ?_, ?_, ⟨by simp [F0], by simp [F1]⟩, ?_, (BB.setCell (by simp; omega) _).setCell (by simp; omega) _⟩
                · rw [sumA_next ps k2 hlt2, unhide Hsa, unhide Hpv]; simp [go_sem, O0]
                · rw [sumB_next ps k2 hlt2, unhide Hsb, unhide Hqv]; simp [go_sem, O1]
                · rw [sumA_next ps k2 hlt2, sumB_next ps k2 hlt2, unhide Hsa, unhide Hsb, unhide Hpv, unhide Hqv]; exact (unhide hx).2
              case measure => simp [intOf]; omega
            · have ht : (eAdd sa sb p q != 0) = true := bne_iff_ne.2 hE
              have hel := chkP_el ps k2 hlt2 (unhide h0)
              have ho := eSum_over ps k2 (unhide h0) (by
                rw [sumA_next ps k2 hlt2, sumB_next ps k2 hlt2, unhide Hsa, unhide Hsb, unhide Hpv, unhide Hqv]
                intro hz
                rw [unhide Hpv, unhide Hqv] at hel
                exact hE ((eAdd_yes _ _ _ _ ((chkB_iff _ _ _ _).2 ⟨unhide hin, hel⟩)).trans hz))
              have HO := hide ho.1
              have hy := hide (keep_no 10 (sumA ps) (by omega))
              have hy2 := hide (keep_no 10 (sumB ps) (by omega))
              have e0 := box_cell0 BB
              have e1 := box_cell1 BB
              have ef := box_frozen BB
              clear hE V0 V1 O0 O1 F0 F1 ho hel
              go_wp2_with fail
              exact bodyPost_ret (v := .tuple #[.agg #[.int .i64 0, .int .i64 0], .int .i64 10]) (by simp [results, Try.results21, go_sem, e0, e1]) rfl
                ⟨by rw [unhide HO]; exact two_eq (unhide hy).symm (unhide hy2).symm rfl, ((box_below BB).setCell (by simp) _).setCell (by simp) _⟩
          · rename_i hH
            have V0 : ((w3.setCell ⟨wr.heap.size, 0, none⟩ (.int .i64 (keep (eAdd sa sb p q) (sa + p)))).setCell ⟨wr.heap.size, 1, none⟩ (.int .i64 (keep (eAdd sa sb p q) (sb + q)))).cell? ⟨wr.heap.size, 0, none⟩ = some (.int .i64 (keep (eAdd sa sb p q) (sa + p))) := by
              rw [World.cell?_setCell_other _ _ _ _ (by simp)]
              exact World.cell?_setCell_same _ _ _ (cell_kept hw3 (p := ⟨wr.heap.size, 0, none⟩) (v := .int .i64 0) (by simp [go_sem]))
            have V1 : ((w3.setCell ⟨wr.heap.size, 0, none⟩ (.int .i64 (keep (eAdd sa sb p q) (sa + p)))).setCell ⟨wr.heap.size, 1, none⟩ (.int .i64 (keep (eAdd sa sb p q) (sb + q)))).cell? ⟨wr.heap.size, 1, none⟩ = some (.int .i64 (keep (eAdd sa sb p q) (sb + q))) := by
              exact World.cell?_setCell_same _ _ _ (u := .int .i64 0) (by rw [World.cell?_setCell_other _ _ _ _ (by simp)]; exact cell_kept hw3 (p := ⟨wr.heap.size, 1, none⟩) (v := .int .i64 0) (by simp [go_sem]))
            have hw3' : Below wr.heap.size wr w3 := ((Below.refl _ _).alloc (Nat.le_refl _) _).drew.trans (hw3.mono (by simp))
            have BB : Below (w.heap.size + 1) (w.alloc (.cells #[.int .i64 0, .int .i64 0] 26)) ((w3.setCell ⟨wr.heap.size, 0, none⟩ (.int .i64 (keep (eAdd sa sb p q) (sa + p)))).setCell ⟨wr.heap.size, 1, none⟩ (.int .i64 (keep (eAdd sa sb p q) (sb + q)))) := (((unhide hbel2).trans (hw3'.mono (by omega))).setCell (by simp; omega) _).setCell (by simp; omega) _
            have F0 : ((w3.setCell ⟨wr.heap.size, 0, none⟩ (.int .i64 (keep (eAdd sa sb p q) (sa + p)))).setCell ⟨wr.heap.size, 1, none⟩ (.int .i64 (keep (eAdd sa sb p q) (sb + q)))).frozen? ⟨W1.heap.size, 0, none⟩ = false := by rw [World.frozen?_setCell, World.frozen?_setCell, hw3'.frozen (p := ⟨W1.heap.size, 0, none⟩) (by simp; omega)]; exact (unhide sf).1
            have F1 : ((w3.setCell ⟨wr.heap.size, 0, none⟩ (.int .i64 (keep (eAdd sa sb p q) (sa + p)))).setCell ⟨wr.heap.size, 1, none⟩ (.int .i64 (keep (eAdd sa sb p q) (sb + q)))).frozen? ⟨W1.heap.size, 1, none⟩ = false := by rw [World.frozen?_setCell, World.frozen?_setCell, hw3'.frozen (p := ⟨W1.heap.size, 1, none⟩) (by simp; omega)]; exact (unhide sf).2
            have nB : wr.heap.size ≠ W1.heap.size := n0
            obtain ⟨O0, O1, _, _⟩ := hH
            generalize (w3.setCell ⟨wr.heap.size, 0, none⟩ (.int .i64 (keep (eAdd sa sb p q) (sa + p)))).setCell ⟨wr.heap.size, 1, none⟩ (.int .i64 (keep (eAdd sa sb p q) (sb + q))) = V at *
            generalize wr.heap.size = B at *
            clear hw3 hw3' 
            by_cases hE : eAdd sa sb p q = 0
            · have ht : (eAdd sa sb p q != 0) = false := by rw [hE]; rfl
              rw [hE, keep_yes 0 _ rfl] at V0 V1
              have hx := hide (eAdd_parts sa sb p q hE)
              clear hE
              go_wp2_with fail
              go_roundw
              case rel =>
                refine ⟨k2 + 1, by omega, by go_num, ?_, ?_, ⟨by simp [F0], by simp [F1]⟩, ?_, (BB.setCell (by simp; omega) _).setCell (by simp; omega) _⟩
                · rw [sumA_next ps k2 hlt2, unhide Hsa, unhide Hpv]; simp [go_sem, O0]
                · rw [sumB_next ps k2 hlt2, unhide Hsb, unhide Hqv]; simp [go_sem, O1]
                · rw [sumA_next ps k2 hlt2, sumB_next ps k2 hlt2, unhide Hsa, unhide Hsb, unhide Hpv, unhide Hqv]; exact (unhide hx).2
              case measure => simp [intOf]; omega
            · have ht : (eAdd sa sb p q != 0) = true := bne_iff_ne.2 hE
              have hel := chkP_el ps k2 hlt2 (unhide h0)
              have ho := eSum_over ps k2 (unhide h0) (by
                rw [sumA_next ps k2 hlt2, sumB_next ps k2 hlt2, unhide Hsa, unhide Hsb, unhide Hpv, unhide Hqv]
                intro hz
                rw [unhide Hpv, unhide Hqv] at hel
                exact hE ((eAdd_yes _ _ _ _ ((chkB_iff _ _ _ _).2 ⟨unhide hin, hel⟩)).trans hz))
              have HO := hide ho.1
              have hy := hide (keep_no 10 (sumA ps) (by omega))
              have hy2 := hide (keep_no 10 (sumB ps) (by omega))
              have e0 := box_cell0 BB
              have e1 := box_cell1 BB
              have ef := box_frozen BB
              clear hE V0 V1 O0 O1 F0 F1 ho hel
              go_wp2_with fail
              exact bodyPost_ret (v := .tuple #[.agg #[.int .i64 0, .int .i64 0], .int .i64 10]) (by simp [results, Try.results21, go_sem, e0, e1]) rfl
                ⟨by rw [unhide HO]; exact two_eq (unhide hy).symm (unhide hy2).symm rfl, ((box_below BB).setCell (by simp) _).setCell (by simp) _⟩
        · have hfull : ps.take k2 = ps := List.take_of_length_le (by omega)
          rw [hfull] at s0 s1 hin
          have hx := hide ((eSum_ok ps (unhide h0)).trans (unhide hin))
          have e0 := box_cell0 (unhide hbel2)
          have e1 := box_cell1 (unhide hbel2)
          have ef := box_frozen (unhide hbel2)
          clear hfull
          have hne : ¬ w.heap.size = W1.heap.size := by omega
          have hne2 : ¬ W1.heap.size = w.heap.size := by omega
          go_wp2_with fail
          exact bodyPost_ret (v := .tuple #[.agg #[.int .i64 (sumA ps), .int .i64 (sumB ps)], .int .i64 0]) (by simp [results, Try.results21, go_sem, e0, e1]) rfl
            ⟨by rw [unhide hx]; exact two_eq (keep_yes 0 _ rfl).symm (keep_yes 0 _ rfl).symm rfl, ((box_below (unhide hbel2)).setCell (by simp) _).setCell (by simp) _⟩

end Go.Proofs.Ytkippgdboodlfaa
