/- Proved: AmountOrder returns true for every input. No condition. -/
import Derived.Test.YtkippgdboodlfabAmtS
import Derived.Deep.DeepCutAuto
namespace Go.Proofs.Ytkippgdboodlfab.amountOrder
open Go.ChangeShapes Go.WideShapes Go.ChangeAt Go.RowKit
attribute [local go_sem] eq2

/-- The cells of some pairs, two each. -/
def flat : List (Int × Int) → List Value
  | [] => []
  | q :: qs => .int .i64 q.1 :: .int .i64 q.2 :: flat qs
theorem flat_append : ∀ xs ys : List (Int × Int), flat (xs ++ ys) = flat xs ++ flat ys
  | [], _ => rfl
  | q :: qs, ys => by show _ :: _ :: flat (qs ++ ys) = _ :: _ :: (flat qs ++ flat ys); rw [flat_append qs ys]
theorem flat_length : ∀ xs : List (Int × Int), (flat xs).length = xs.length * 2
  | [] => rfl
  | q :: qs => by show (flat qs).length + 1 + 1 = (qs.length + 1) * 2; rw [flat_length qs]; omega
theorem flat_at : ∀ (xs : List (Int × Int)) (i : Nat), i < xs.length → (flat xs)[i * 2]? = some (.int .i64 (xs.getD i (0, 0)).1) ∧ (flat xs)[i * 2 + 1]? = some (.int .i64 (xs.getD i (0, 0)).2)
  | q :: qs, 0, _ => ⟨rfl, rfl⟩
  | q :: qs, i + 1, h => by
    have ih := flat_at qs i (by simpa using h)
    rw [show (i + 1) * 2 = i * 2 + 2 by omega]
    exact ih

theorem Try.infoPair : (Try.prog.info? 24).map (fun i => (i.zero, i.size, i.bytes)) = some (some (.agg #[.int .i64 0, .int .i64 0]), 2, 16) := by kernel_rfl
theorem own_ge {W : World} {base e size n : Nat} {v : Value} {xs : List Value} (h : W.ownsRow base e size v n xs) : ∀ k, v.ownBlock = some k → base ≤ k := by
  intro k hk
  rcases h.2 with ⟨rfl, _⟩ | ⟨g, cap, cur, rfl, hb, _⟩
  · cases hk
  · cases hk; exact hb
theorem block_new (W : World) (c : Array Value) (t : TypeId) : (W.alloc (.cells c t)).heap[W.heap.size]? = some (.cells c t) := by
  unfold World.alloc; simp
theorem own_none (W : World) (t : TypeId) : (W.alloc (.cells #[] t)).ownsRow W.heap.size t 2 (.slice (some ⟨W.heap.size, 0, none⟩) 0 0) 0 [] :=
  ⟨rfl, Or.inr ⟨W.heap.size, 0, #[], rfl, Nat.le_refl _, block_new W #[] t, Nat.le_refl _, Nat.zero_le _, rfl, rfl⟩⟩
theorem own_pairs {W : World} {base e : Nat} {v : Value} {qs : List (Int × Int)} (h : W.ownsRow base e 2 v qs.length (flat qs)) : ∃ a cap g, v = .slice a qs.length cap ∧ PairsAt W a g 0 qs := by
  have hc := h
  rcases h.2 with ⟨hv, hn⟩ | ⟨g, cap, cur, rfl, _, _⟩
  · refine ⟨none, 0, 0, by rw [hv, hn], fun h0 => absurd h0 (by omega), fun i hi => absurd hi (by omega)⟩
  · refine ⟨some ⟨g, 0, none⟩, cap, g, rfl, fun _ => rfl, fun i hi => ?_⟩
    have hf := flat_at qs i hi
    have k0 := hc.cells (g := g) rfl _ _ hf.1
    have k1 := hc.cells (g := g) rfl _ _ hf.2
    rw [add_off] at k0 k1
    exact ⟨k0, k1⟩
theorem new_cells2 {W : World} {t : TypeId} {x y : Value} : ∀ (j : Nat) (u : Value), [x, y][j]? = some u → (W.alloc (.cells #[x, y] t)).cell? ((⟨W.heap.size, 0, none⟩ : Addr).add j) = some u := by
  intro j u hu
  rw [add_off]
  match j, hu with
  | 0, hu => simp at hu; subst hu; simp [go_sem]
  | 1, hu => simp at hu; subst hu; simp [go_sem]
  | j + 2, hu => simp at hu
theorem one_cells2 {k : IntKind} {x y : Int} : ∀ u ∈ [Value.int k x, Value.int k y], u.oneCell' = true := by
  intro u hu
  simp at hu
  rcases hu with rfl | rfl <;> rfl
theorem chkP_all : ∀ ps : List (Int × Int), chkP ps = 0 ↔ ∀ q ∈ ps, chkA q.1 q.2 = 0
  | [] => by simp [chkP]
  | q :: qs => by
    show fst2 (chkA q.1 q.2) (chkP qs) = 0 ↔ _
    rw [fst2_iff, chkP_all qs]; simp
theorem zsum_rev : ∀ zs : List Int, zsum zs.reverse = zsum zs
  | [] => rfl
  | z :: zs => by rw [List.reverse_cons, zsum_snoc, zsum_rev zs]; show _ = z + zsum zs; omega
theorem sumA_rev (ps : List (Int × Int)) : sumA ps.reverse = sumA ps := by unfold sumA; rw [List.map_reverse, zsum_rev]
theorem sumB_rev (ps : List (Int × Int)) : sumB ps.reverse = sumB ps := by unfold sumB; rw [List.map_reverse, zsum_rev]
theorem eSum_rev (ps : List (Int × Int)) : (eSum ps.reverse == 0) = (eSum ps == 0) := by
  rw [Bool.eq_iff_iff, beq_iff_eq, beq_iff_eq]
  unfold eSum; rw [fst2_iff, fst2_iff, chkP_all, chkP_all, sumA_rev, sumB_rev]; simp
theorem keep_bool (e n : Int) : keep e n = if (e == 0) = true then n else 0 := by
  unfold keep; simp
theorem rev1 (ps : List (Int × Int)) : keep (eSum ps.reverse) (sumA ps.reverse) = keep (eSum ps) (sumA ps) := by rw [keep_bool, keep_bool, eSum_rev, sumA_rev]
theorem rev2 (ps : List (Int × Int)) : keep (eSum ps.reverse) (sumB ps.reverse) = keep (eSum ps) (sumB ps) := by rw [keep_bool, keep_bool, eSum_rev, sumB_rev]

theorem eAdd_parts (a b c d : Int) (h : eAdd a b c d = 0) : chkA c d = 0 ∧ chkA (a + c) (b + d) = 0 := by
  unfold eAdd at h; rw [fst2_iff, chkB_iff] at h; exact ⟨h.1.2, h.2⟩
theorem sum_bad (ps : List (Int × Int)) (k : Nat) (hk : k < ps.length) (_ : chkP (ps.take k) = 0) (h : ¬ eAdd (sumA (ps.take k)) (sumB (ps.take k)) (ps.getD k (0, 0)).1 (ps.getD k (0, 0)).2 = 0)
    (hin : chkA (sumA (ps.take k)) (sumB (ps.take k)) = 0) : ¬ eSum ps = 0 := by
  intro he
  have hc : chkP ps = 0 := (fst2_eq (show fst2 (chkP ps) (chkA (sumA ps) (sumB ps)) = 0 from he)).1
  apply h
  rw [eAdd_yes _ _ _ _ ((chkB_iff _ _ _ _).2 ⟨hin, chkP_el ps k hk hc⟩), ← sumA_next ps k hk, ← sumB_next ps k hk]
  apply Classical.byContradiction
  intro hx
  have := (eSum_over ps k hc hx).1
  omega

section
variable {W V : World} {p q r t : Addr} {x y z u v : Value} {o : Obj}
/-- Four cells that are there are there still: behind a call, a new block, a store elsewhere. -/
theorem four_call (hb : Below W.heap.size W V) (h : W.cell? p = some x ∧ W.cell? q = some y ∧ W.cell? r = some z ∧ W.cell? t = some u) : V.cell? p = some x ∧ V.cell? q = some y ∧ V.cell? r = some z ∧ V.cell? t = some u :=
  ⟨cell_kept hb h.1, cell_kept hb h.2.1, cell_kept hb h.2.2.1, cell_kept hb h.2.2.2⟩
theorem four_new (h : W.cell? p = some x ∧ W.cell? q = some y ∧ W.cell? r = some z ∧ W.cell? t = some u) : (W.alloc o).cell? p = some x ∧ (W.alloc o).cell? q = some y ∧ (W.alloc o).cell? r = some z ∧ (W.alloc o).cell? t = some u :=
  four_call ((Below.refl _ _).alloc (Nat.le_refl _) _) h
theorem four_newd (h : W.cell? p = some x ∧ W.cell? q = some y ∧ W.cell? r = some z ∧ W.cell? t = some u) : (W.alloc o).drew.cell? p = some x ∧ (W.alloc o).drew.cell? q = some y ∧ (W.alloc o).drew.cell? r = some z ∧ (W.alloc o).drew.cell? t = some u :=
  four_call (((Below.refl _ _).alloc (Nat.le_refl _) _).drew) h
theorem four_set {B : Nat} {x' y' : Value} (hp : B ≠ p.block) (hq : B ≠ q.block) (hr : B ≠ r.block) (ht : B ≠ t.block) (h : W.cell? p = some x ∧ W.cell? q = some y ∧ W.cell? r = some z ∧ W.cell? t = some u) :
    ((W.setCell ⟨B, 0, none⟩ x').setCell ⟨B, 1, none⟩ y').cell? p = some x ∧ ((W.setCell ⟨B, 0, none⟩ x').setCell ⟨B, 1, none⟩ y').cell? q = some y ∧ ((W.setCell ⟨B, 0, none⟩ x').setCell ⟨B, 1, none⟩ y').cell? r = some z ∧ ((W.setCell ⟨B, 0, none⟩ x').setCell ⟨B, 1, none⟩ y').cell? t = some u := by
  refine ⟨?_, ?_, ?_, ?_⟩
  · rw [World.cell?_setCell_far _ _ _ _ hp, World.cell?_setCell_far _ _ _ _ hp]; exact h.1
  · rw [World.cell?_setCell_far _ _ _ _ hq, World.cell?_setCell_far _ _ _ _ hq]; exact h.2.1
  · rw [World.cell?_setCell_far _ _ _ _ hr, World.cell?_setCell_far _ _ _ _ hr]; exact h.2.2.1
  · rw [World.cell?_setCell_far _ _ _ _ ht, World.cell?_setCell_far _ _ _ _ ht]; exact h.2.2.2
end
theorem rev_drop (ps : List (Int × Int)) (d : Nat) (h : d < ps.length) : (ps.drop d).reverse = (ps.drop (d + 1)).reverse ++ [ps.getD d (0, 0)] := by
  rw [List.drop_eq_getElem_cons h, List.reverse_cons]; simp [List.getD, List.getElem?_eq_getElem h]

set_option maxRecDepth 100000 in
set_option maxHeartbeats 2000000 in
theorem walk (a : Option Addr) (len cap : Nat) (ps : List (Int × Int)) (b off : Nat) (w : World) (hl : len = ps.length) (hm : len ≤ maxLen) (hp : PairsAt w a b off ps) (hreach : ps.length * 16 ≤ 140737488351232) :
    Calls Try.prog 3 #[.slice a len cap] w fun e w' => e = .returned (.bool true) ∧ Below w.heap.size w w' := by
  subst hl
  unfold maxLen at hm
  have HP := hide hp
  have HM : Hid (ps.length ≤ maxLen) := hm
  clear hp
  go_enter Try.func3, Try.ntmps3
  go_wp2_with fail
  refine (sum_any ps a b off _ cap _ rfl (unhide HM) (unhide HP).1 (unhide HP).2).mono ?_
  rintro e w1 ⟨rfl, hw1⟩
  have L1 := hide hw1
  clear hw1
  go_wp2_with fail
  obtain ⟨i0, hi, hz0, hz1, hz2⟩ := info_parts Try.infoPair
  have HI := hide hi
  have HZ := hide hz0
  have HS := hide hz1
  have HY := hide hz2
  clear hi hz0 hz1 hz2
  go_loopw [5, 6] (fun v i W => ∃ (k : Nat) (z : Int), k ≤ ps.length ∧ i = .int .i64 z ∧ z = (k : Int) - 1 ∧ Hid (W.ownsRow (w1.heap.size + 1) 24 2 v (ps.length - k) (flat (ps.drop k).reverse)) ∧ Hid (Below (w1.heap.size + 1) (w1.alloc (.cells #[.int .i64 (keep (eSum ps) (sumA ps)), .int .i64 (keep (eSum ps) (sumB ps))] 24)) W)) (fun _ i _ => (intOf i + 1).toNat)
  case atStart =>
    refine ⟨ps.length, _, Nat.le_refl _, rfl, by omega, ?_, (Below.refl _ _).alloc (by simp) _⟩
    rw [Nat.sub_self, List.drop_length]
    have := own_none (w1.alloc (.cells #[.int .i64 (keep (eSum ps) (sumA ps)), .int .i64 (keep (eSum ps) (sumB ps))] 24)) 24
    rw [World.size_alloc] at this
    exact this
  case round =>
    obtain ⟨k, z, hk, rfl, hz, hown, hbel⟩ := hrel
    have hsz := box_size (unhide hbel)
    by_cases hk0 : k = 0
    · subst hk0
      obtain rfl : z = -1 := by omega
      clear hz
      have hown2 := unhide hown
      rw [List.drop_zero, Nat.sub_zero, ← List.length_reverse] at hown2
      obtain ⟨a2, cap2, g, rfl, hp2⟩ := own_pairs hown2
      have HP2 := hide hp2
      clear hown2 hown hp2
      have x0 := box_cell0 (unhide hbel)
      have x1 := box_cell1 (unhide hbel)
      have HB : Hid (Below w.heap.size w wr) := box_below (w := w1) (unhide hbel) |> fun h => (unhide L1).trans (h.mono (unhide L1).size)
      clear hbel
      go_wp2_with fail
      refine (sum_any ps.reverse a2 g 0 ps.length cap2 _ List.length_reverse.symm (by rw [List.length_reverse]; exact unhide HM) (unhide HP2).1 (unhide HP2).2).mono ?_
      rintro e w2 ⟨he, hw2⟩
      rw [rev1, rev2] at he
      subst he
      have hcm := eSum_rev ps
      replace x0 := cell_kept hw2 x0
      replace x1 := cell_kept hw2 x1
      have HB2 := hide (below_call (unhide HB) (unhide HB).size hw2)
      have z2 := size_le (unhide HB2)
      clear HB hw2 HP2 hsz
      go_wp2_with fail
      go_loopw [10, 11] (fun al i W => ∃ k : Nat, k ≤ ps.length ∧ i = .int .i64 k ∧ al = .bool true ∧ W.cell? ⟨w2.heap.size + 1, 0, none⟩ = some (.int .i64 (sumA (ps.take k))) ∧ W.cell? ⟨w2.heap.size + 1, 1, none⟩ = some (.int .i64 (sumB (ps.take k)))
          ∧ Hid (W.frozen? ⟨w2.heap.size + 1, 0, none⟩ = false ∧ W.frozen? ⟨w2.heap.size + 1, 1, none⟩ = false) ∧ Hid (chkP (ps.take k) = 0) ∧ Hid (chkA (sumA (ps.take k)) (sumB (ps.take k)) = 0) ∧ Hid (Below (w2.heap.size + 1) (w2.alloc (.cells #[.int .i64 (keep (eSum ps) (sumA ps)), .int .i64 (keep (eSum ps) (sumB ps))] 24)) W)) (fun _ i _ => ps.length - (intOf i).toNat)
      case atStart => exact ⟨0, Nat.zero_le _, rfl, rfl, by simp [go_sem]; rfl, by simp [go_sem]; rfl, ⟨by simp [go_sem], by simp [go_sem]⟩, rfl, rfl, (Below.refl _ _).alloc (by simp) _⟩
      case round =>
        obtain ⟨k, hk, rfl, rfl, s0, s1, sf, hch, hin, hbel2⟩ := hrel
        by_cases hlt : k < ps.length
        · obtain rfl := (unhide HP).1 (by omega)
          obtain ⟨c0, c1⟩ := (unhide HP).2 k (by omega)
          have d0 := old_cell (unhide hbel2) (cell_kept (unhide HB2) c0)
          have d1 := old_cell (unhide hbel2) (cell_kept (unhide HB2) c1)
          clear c0 c1
          have hkl : (k : Int) < ps.length := by omega
          have n2 : w2.heap.size + 1 < wr.heap.size := World.block_lt_of_cell? _ _ s0
          have n0 : wr.heap.size ≠ w2.heap.size + 1 := by have := World.block_lt_of_cell? _ _ s0; simp only at this; omega
          have n1 : wr.heap.size ≠ b := by have := World.block_lt_of_cell? _ _ d0; simp only at this; omega
          generalize hpv : (ps.getD k (0, 0)).1 = p at *
          generalize hqv : (ps.getD k (0, 0)).2 = q at *
          generalize hsa : sumA (ps.take k) = sa at *
          generalize hsb : sumB (ps.take k) = sb at *
          have Hpv := hide hpv
          have Hqv := hide hqv
          have Hsa := hide hsa
          have Hsb := hide hsb
          clear hpv hqv hsa hsb
          go_wp2_with fail
          go_region_held3 (fun W => W.cell? ⟨w2.heap.size + 1, 0, none⟩ = some (.int .i64 sa) ∧ W.cell? ⟨w2.heap.size + 1, 1, none⟩ = some (.int .i64 sb) ∧ W.cell? ⟨b, off + k * 2, none⟩ = some (.int .i64 p) ∧ W.cell? ⟨b, off + k * 2 + 1, none⟩ = some (.int .i64 q))
            (first | exact ⟨s0, s1, d0, d1⟩ | assumption | (refine four_call (hb := hw3) ?_; assumption) | (refine four_newd ?_; assumption) | (refine four_new ?_; assumption) | (refine four_new (four_call (hb := hw3) ?_); exact ⟨s0, s1, d0, d1⟩) | (refine four_set n0 n0 n1 n1 ?_; assumption))
            (first | (go_at_call 5; refine (add_any _ _ _ _ _).mono ?_; rintro e w3 ⟨rfl, hw3⟩; obtain ⟨hc3, hf3⟩ := bcell hw3))
          -- the two orders
          · rename_i hH
            have V0 : (w3.alloc (.cells #[.int .i64 (keep (eAdd sa sb p q) (sa + p)), .int .i64 (keep (eAdd sa sb p q) (sb + q))] 24)).cell? ⟨w3.heap.size, 0, none⟩ = some (.int .i64 (keep (eAdd sa sb p q) (sa + p))) := by simp [go_sem]
            have V1 : (w3.alloc (.cells #[.int .i64 (keep (eAdd sa sb p q) (sa + p)), .int .i64 (keep (eAdd sa sb p q) (sb + q))] 24)).cell? ⟨w3.heap.size, 1, none⟩ = some (.int .i64 (keep (eAdd sa sb p q) (sb + q))) := by simp [go_sem]
            have hw3' : Below wr.heap.size wr w3 := (Below.refl _ _).drew.trans (hw3.mono (Nat.le_refl _))
            have BB : Below (w2.heap.size + 1) (w2.alloc (.cells #[.int .i64 (keep (eSum ps) (sumA ps)), .int .i64 (keep (eSum ps) (sumB ps))] 24)) (w3.alloc (.cells #[.int .i64 (keep (eAdd sa sb p q) (sa + p)), .int .i64 (keep (eAdd sa sb p q) (sb + q))] 24)) := ((unhide hbel2).trans (hw3'.mono (by omega))).alloc (by have := hw3'.size; omega) _
            have F : ∀ o, (w3.alloc (.cells #[.int .i64 (keep (eAdd sa sb p q) (sa + p)), .int .i64 (keep (eAdd sa sb p q) (sb + q))] 24)).frozen? ⟨w2.heap.size + 1, o, none⟩ = w3.frozen? ⟨w2.heap.size + 1, o, none⟩ := fun o => ((Below.refl w3.heap.size w3).alloc (Nat.le_refl _) _).frozen (p := ⟨w2.heap.size + 1, o, none⟩) (by have := hw3'.size; simp only; omega)
            have F0 : (w3.alloc (.cells #[.int .i64 (keep (eAdd sa sb p q) (sa + p)), .int .i64 (keep (eAdd sa sb p q) (sb + q))] 24)).frozen? ⟨w2.heap.size + 1, 0, none⟩ = false := by rw [F, hw3'.frozen (p := ⟨w2.heap.size + 1, 0, none⟩) (by simp; omega)]; exact (unhide sf).1
            have F1 : (w3.alloc (.cells #[.int .i64 (keep (eAdd sa sb p q) (sa + p)), .int .i64 (keep (eAdd sa sb p q) (sb + q))] 24)).frozen? ⟨w2.heap.size + 1, 1, none⟩ = false := by rw [F, hw3'.frozen (p := ⟨w2.heap.size + 1, 1, none⟩) (by simp; omega)]; exact (unhide sf).2
            have nB : w3.heap.size ≠ w2.heap.size + 1 := by have := hw3'.size; omega
            have lB : w2.heap.size + 1 ≤ w3.heap.size := by have := hw3'.size; omega
            obtain ⟨O0, O1, _, _⟩ := hH
            generalize w3.alloc (.cells #[.int .i64 (keep (eAdd sa sb p q) (sa + p)), .int .i64 (keep (eAdd sa sb p q) (sb + q))] 24) = V at *
            generalize w3.heap.size = B at *
            clear hw3 hw3' F
            by_cases hE : eAdd sa sb p q = 0
            · have ht : (eAdd sa sb p q != 0) = false := by rw [hE]; rfl
              rw [hE, keep_yes 0 _ rfl] at V0 V1
              have hx := hide (eAdd_parts sa sb p q hE)
              clear hE
              go_wp2_with fail
              go_roundw
              case rel =>
                refine ⟨k + 1, by omega, by go_num, rfl, ?_, ?_, ⟨by simp [F0], by simp [F1]⟩, ?_, ?_, (BB.setCell (by simp) _).setCell (by simp) _⟩
                · rw [sumA_next ps k hlt, unhide Hsa, unhide Hpv]; simp [go_sem, O0]
                · rw [sumB_next ps k hlt, unhide Hsb, unhide Hqv]; simp [go_sem, O1]
                · exact chkP_next ps k hlt (unhide hch) (by rw [unhide Hpv, unhide Hqv]; exact (unhide hx).1)
                · rw [sumA_next ps k hlt, sumB_next ps k hlt, unhide Hsa, unhide Hsb, unhide Hpv, unhide Hqv]; exact (unhide hx).2
              case measure => simp [intOf]; omega
            · have ht : (eAdd sa sb p q != 0) = true := bne_iff_ne.2 hE
              have he0 : (eSum ps == 0) = false := beq_eq_false_iff_ne.2 (sum_bad ps k hlt (unhide hch) (by rw [unhide Hsa, unhide Hsb, unhide Hpv, unhide Hqv]; exact hE) (by rw [unhide Hsa, unhide Hsb]; exact unhide hin))
              have X0 := old_cell BB x0
              have X1 := old_cell BB x1
              have Y0 := box_cell0 BB
              have Y1 := box_cell1 BB
              have BV := hide ((unhide HB2).trans ((box_below BB).mono z2))
              clear hE V0 V1 O0 O1 F0 F1 BB x0 x1
              go_wp2_with fail
              refine (live_any _).mono ?_
              rintro e w9 ⟨rfl, hw9⟩
              replace X0 := cell_kept hw9 X0
              replace X1 := cell_kept hw9 X1
              replace Y0 := cell_kept hw9 Y0
              replace Y1 := cell_kept hw9 Y1
              have HL := hide (below_call (unhide BV) (unhide BV).size hw9)
              clear hw9
              go_wp2_with fail
              go_ret
              exact ⟨by simp, unhide HL⟩
          · rename_i hH
            have V0 : ((w3.setCell ⟨wr.heap.size, 0, none⟩ (.int .i64 (keep (eAdd sa sb p q) (sa + p)))).setCell ⟨wr.heap.size, 1, none⟩ (.int .i64 (keep (eAdd sa sb p q) (sb + q)))).cell? ⟨wr.heap.size, 0, none⟩ = some (.int .i64 (keep (eAdd sa sb p q) (sa + p))) := by
              rw [World.cell?_setCell_other _ _ _ _ (by simp)]
              exact World.cell?_setCell_same _ _ _ (cell_kept hw3 (p := ⟨wr.heap.size, 0, none⟩) (v := .int .i64 0) (by simp [go_sem]))
            have V1 : ((w3.setCell ⟨wr.heap.size, 0, none⟩ (.int .i64 (keep (eAdd sa sb p q) (sa + p)))).setCell ⟨wr.heap.size, 1, none⟩ (.int .i64 (keep (eAdd sa sb p q) (sb + q)))).cell? ⟨wr.heap.size, 1, none⟩ = some (.int .i64 (keep (eAdd sa sb p q) (sb + q))) := by
              exact World.cell?_setCell_same _ _ _ (u := .int .i64 0) (by rw [World.cell?_setCell_other _ _ _ _ (by simp)]; exact cell_kept hw3 (p := ⟨wr.heap.size, 1, none⟩) (v := .int .i64 0) (by simp [go_sem]))
            have hw3' : Below wr.heap.size wr w3 := ((Below.refl _ _).alloc (Nat.le_refl _) _).drew.trans (hw3.mono (by simp))
            have BB : Below (w2.heap.size + 1) (w2.alloc (.cells #[.int .i64 (keep (eSum ps) (sumA ps)), .int .i64 (keep (eSum ps) (sumB ps))] 24)) ((w3.setCell ⟨wr.heap.size, 0, none⟩ (.int .i64 (keep (eAdd sa sb p q) (sa + p)))).setCell ⟨wr.heap.size, 1, none⟩ (.int .i64 (keep (eAdd sa sb p q) (sb + q)))) := (((unhide hbel2).trans (hw3'.mono (by omega))).setCell (by simp; omega) _).setCell (by simp; omega) _
            have F0 : ((w3.setCell ⟨wr.heap.size, 0, none⟩ (.int .i64 (keep (eAdd sa sb p q) (sa + p)))).setCell ⟨wr.heap.size, 1, none⟩ (.int .i64 (keep (eAdd sa sb p q) (sb + q)))).frozen? ⟨w2.heap.size + 1, 0, none⟩ = false := by rw [World.frozen?_setCell, World.frozen?_setCell, hw3'.frozen (p := ⟨w2.heap.size + 1, 0, none⟩) (by simp; omega)]; exact (unhide sf).1
            have F1 : ((w3.setCell ⟨wr.heap.size, 0, none⟩ (.int .i64 (keep (eAdd sa sb p q) (sa + p)))).setCell ⟨wr.heap.size, 1, none⟩ (.int .i64 (keep (eAdd sa sb p q) (sb + q)))).frozen? ⟨w2.heap.size + 1, 1, none⟩ = false := by rw [World.frozen?_setCell, World.frozen?_setCell, hw3'.frozen (p := ⟨w2.heap.size + 1, 1, none⟩) (by simp; omega)]; exact (unhide sf).2
            have nB : wr.heap.size ≠ w2.heap.size + 1 := n0
            have lB : w2.heap.size + 1 ≤ wr.heap.size := by omega
            obtain ⟨O0, O1, _, _⟩ := hH
            generalize (w3.setCell ⟨wr.heap.size, 0, none⟩ (.int .i64 (keep (eAdd sa sb p q) (sa + p)))).setCell ⟨wr.heap.size, 1, none⟩ (.int .i64 (keep (eAdd sa sb p q) (sb + q))) = V at *
            generalize wr.heap.size = B at *
            clear hw3 hw3' 
            by_cases hE : eAdd sa sb p q = 0
            · have ht : (eAdd sa sb p q != 0) = false := by rw [hE]; rfl
              rw [hE, keep_yes 0 _ rfl] at V0 V1
              have hx := hide (eAdd_parts sa sb p q hE)
              clear hE
              go_wp2_with fail
              go_roundw
              case rel =>
                refine ⟨k + 1, by omega, by go_num, rfl, ?_, ?_, ⟨by simp [F0], by simp [F1]⟩, ?_, ?_, (BB.setCell (by simp) _).setCell (by simp) _⟩
                · rw [sumA_next ps k hlt, unhide Hsa, unhide Hpv]; simp [go_sem, O0]
                · rw [sumB_next ps k hlt, unhide Hsb, unhide Hqv]; simp [go_sem, O1]
                · exact chkP_next ps k hlt (unhide hch) (by rw [unhide Hpv, unhide Hqv]; exact (unhide hx).1)
                · rw [sumA_next ps k hlt, sumB_next ps k hlt, unhide Hsa, unhide Hsb, unhide Hpv, unhide Hqv]; exact (unhide hx).2
              case measure => simp [intOf]; omega
            · have ht : (eAdd sa sb p q != 0) = true := bne_iff_ne.2 hE
              have he0 : (eSum ps == 0) = false := beq_eq_false_iff_ne.2 (sum_bad ps k hlt (unhide hch) (by rw [unhide Hsa, unhide Hsb, unhide Hpv, unhide Hqv]; exact hE) (by rw [unhide Hsa, unhide Hsb]; exact unhide hin))
              have X0 := old_cell BB x0
              have X1 := old_cell BB x1
              have Y0 := box_cell0 BB
              have Y1 := box_cell1 BB
              have BV := hide ((unhide HB2).trans ((box_below BB).mono z2))
              clear hE V0 V1 O0 O1 F0 F1 BB x0 x1
              go_wp2_with fail
              refine (live_any _).mono ?_
              rintro e w9 ⟨rfl, hw9⟩
              replace X0 := cell_kept hw9 X0
              replace X1 := cell_kept hw9 X1
              replace Y0 := cell_kept hw9 Y0
              replace Y1 := cell_kept hw9 Y1
              have HL := hide (below_call (unhide BV) (unhide BV).size hw9)
              clear hw9
              go_wp2_with fail
              go_ret
              exact ⟨by simp, unhide HL⟩
        · have hfull : ps.take k = ps := List.take_of_length_le (by omega)
          rw [hfull] at s0 s1 hin hch
          have hS := (eSum_ok ps (unhide hch)).trans (unhide hin)
          have he0 : (eSum ps == 0) = true := by rw [hS]; rfl
          have K0 := keep_yes (eSum ps) (sumA ps) hS
          have K1 := keep_yes (eSum ps) (sumB ps) hS
          have X0 := old_cell (unhide hbel2) x0
          have X1 := old_cell (unhide hbel2) x1
          have Y0 := box_cell0 (unhide hbel2)
          have Y1 := box_cell1 (unhide hbel2)
          have O0 := s0
          have O1 := s1
          have BV := hide ((unhide HB2).trans ((box_below (unhide hbel2)).mono z2))
          rw [K0] at X0 Y0
          rw [K1] at X1 Y1
          clear hfull hS K0 K1 s0 s1 x0 x1 sf
          go_wp2_with fail
          refine (live_any _).mono ?_
          rintro e w9 ⟨rfl, hw9⟩
          replace X0 := cell_kept hw9 X0
          replace X1 := cell_kept hw9 X1
          replace Y0 := cell_kept hw9 Y0
          replace Y1 := cell_kept hw9 Y1
          replace O0 := cell_kept hw9 O0
          replace O1 := cell_kept hw9 O1
          have HL := hide (below_call (unhide BV) (unhide BV).size hw9)
          clear hw9
          go_wp2_with fail
          go_ret
          exact ⟨by simp, unhide HL⟩
    · obtain ⟨d, rfl⟩ : ∃ d, k = d + 1 := ⟨k - 1, by omega⟩
      obtain rfl : z = (d : Int) := by omega
      clear hz hk0
      obtain rfl := (unhide HP).1 (by omega)
      obtain ⟨c0, c1⟩ := (unhide HP).2 d (by omega)
      have d0 := old_cell (unhide hbel) (cell_kept (unhide L1) c0)
      have d1 := old_cell (unhide hbel) (cell_kept (unhide L1) c1)
      clear c0 c1
      have hdl : (d : Int) < ps.length := by omega
      have hnx := hide (show flat (ps.drop d).reverse = flat (ps.drop (d + 1)).reverse ++ [.int .i64 (ps.getD d (0, 0)).1, .int .i64 (ps.getD d (0, 0)).2] by rw [rev_drop ps d (by omega), flat_append]; rfl)
      generalize (ps.getD d (0, 0)).1 = p at *
      generalize (ps.getD d (0, 0)).2 = q at *
      have hbig := hide hreach
      clear hreach
      go_wp2_with (first | (at_builtin; refine wpList_append_lies _ rfl _ _ 22 rfl (w1.heap.size + 1) 24 i0 (.agg #[.int .i64 0, .int .i64 0]) 2 16 Try.underlying22 (unhide HI) (unhide HZ) (unhide HS) (unhide HY) rfl (by omega) _ _ _ rfl ((unhide hown).alloc _) ⟨wr.heap.size, 0, none⟩ 1 1 [.int .i64 p, .int .i64 q] rfl rfl new_cells2 one_cells2 (by omega) (by have := unhide HM; omega) (by have := unhide hbig; omega) (by simp; omega) _ rfl ?_; intro g cap2 w2 hown2 hgrow hat hlt2))
      have O2 := hide hown2
      have B2 : Hid (Below (w1.heap.size + 1) (w1.alloc (.cells #[.int .i64 (keep (eSum ps) (sumA ps)), .int .i64 (keep (eSum ps) (sumB ps))] 24)) w2) := ((unhide hbel).alloc (by omega) _).grown hgrow (by simp; omega) (own_ge (unhide hown))
      clear hown2 hgrow hat hlt2
      go_wp2_with fail
      go_roundw
      case rel =>
        refine ⟨d, (d : Int) - 1, by omega, rfl, rfl, ?_, B2⟩
        rw [unhide hnx, show ps.length - d = ps.length - (d + 1) + 1 by omega]
        exact unhide O2
      case measure => simp [intOf]

theorem Try.bytesPair : Try.prog.bytesOf 24 = 16 := by kernel_rfl

set_option maxRecDepth 100000 in
theorem lifted (os : Os) (started : os.Started) (H : Type) (enc : TypeId × Value → H) :
    ReturnsInHanded {} Try.checked os 3 .any (Rows.amountOrderSpec.pre6 enc Try.prog Try.f3 Rows.amountOrderRow.domain false) (Rows.amountOrderSpec.post enc Try.prog Try.f3 false true false false) := by
  refine returnsInHanded_of_change_sized (C := Try.checked) own started (by kernel_rfl) Try.func3
    (ChangeSpec.witness6 (enc := enc) (C := Try.checked) false ⟨#[], #[.slice none 0 0], []⟩ 8 (by kernel_rfl) (by kernel_rfl) (by kernel_rfl) (by kernel_rfl)) ?_
  intro W base args ds gs before hval0 hW hcnd hsz0 _
  have hval : ∀ (j : Nat) t v, Try.f3.params[j]? = some t → args[j]? = some v → Value.okWide Try.prog W .any base t v := hval0
  have hsz : (DataW.weightsEach Try.prog (Try.f3.params.toList ++ Rows.amountOrderSpec.plain.varTypes Try.prog) (ds ++ gs)).all (· ≤ reachBytes) = true := hsz0
  have hW' := hW
  obtain ⟨p, q, hA0, hV, rfl, hfz, hnd⟩ := hW
  have hA : DataW.TrodAll enc Try.prog W 0 (fun _ => true) true Try.f3.params.toList args.toList ds p := hA0
  rw [Try.params3] at hA hval hsz
  obtain ⟨v0, vs0, d0, ds0, p0, q0, hargs, rfl, rfl, h0, r0⟩ := trodAll_cons hA
  obtain ⟨rfl, rfl, rfl⟩ := trodAll_nil r0
  obtain rfl : args = #[v0] := by cases args; simp_all
  obtain ⟨rfl, rfl⟩ := trodVars_none hV
  have lt0 := places_lt h0
  obtain ⟨a, len, cap, ps, b, off, rfl, hl, hm, hp, hd⟩ := open_pairs (hval 0 22 v0 rfl rfl) h0
  have hreach : ps.length * 16 ≤ 140737488351232 := by
    rcases hd with ⟨_, rfl⟩ | ⟨elems, rest, rfl, he⟩
    · simp
    · have := sized_slice hsz (j := 0) (t := 22) (e := 24) rfl rfl Try.underlying22
      rw [Try.bytesPair] at this
      simp only [reachBytes] at this
      omega
  clear hA0 hval0 hsz0
  refine (walk a len cap ps b off W hl hm hp hreach).mono fun e W' ⟨he, bel⟩ => ?_
  subst he
  exact ⟨_, rfl, _, _, _, [], _, [], hW', trodAll_mk1 (shut_bool Try.underlying4 _), (trodAll_cons_mk (Below.trod laidOut (by kernel_rfl) (of_decide_eq_true (by kernel_rfl)) h0 bel lt0) trodAll_mk0), rfl, bel.frame _, fun h => by cases h⟩

theorem proved : Rows.AmountOrderSaid :=
  OpenClaim.holds_of_wide 3 Try.f3 rfl rfl rfl rfl rfl rfl rfl ⟨rfl, rfl, rfl, rfl, rfl⟩ rfl rfl rfl rfl rfl (by kernel_rfl) Try.func3 (by kernel_rfl)
    (of_decide_eq_true (by kernel_rfl)) (by unfold Func.isWrapper; first | (rw [if_pos (by decide +kernel)]; kernel_rfl) | (rw [if_neg (by decide +kernel)]; exact ⟨rfl, rfl⟩))
    (fun os started H enc _ => lifted os started H enc)
end Go.Proofs.Ytkippgdboodlfab.amountOrder
namespace Go.Proofs.Ytkippgdboodlfab
theorem amountOrder_holds : Rows.AmountOrderSaid := amountOrder.proved
#print axioms amountOrder_holds
end Go.Proofs.Ytkippgdboodlfab
