/- ObjectChecks: the walk -/
import Derived.Test.YthaldbjnnbllbaaGreatDoorO8ZG
import Derived.Test.YthaldbjnnbllbaaGreatDoorO8NG
namespace Go.Proofs.YthaldbjnnbllbaaGreatDoor.objectChecks
open Go.RowKit Suf Val

set_option maxRecDepth 100000 in
set_option maxHeartbeats 16000000 in
theorem walk_G (k : Int) (q1 q2 q3 q4 q5 q6 q7 q8 q9 q10 q11 q12 q13 q14 q15 q16 q17 q18 q19 q20 q21 q22 q23 q24 q25 q26 q27 q28 q29 q30 q31 q32 q33 q34 q35 q36 q37 q38 q39 q40 q41 q42 q43 q44 q45 q46 q47 q48 q49 : Value) (I : Value) (s : ByteArray) (z : Int) (w : World) (hL : Laid w)
    (hO : ∀ V, Below w.heap.size w V → Calls Tryz.prog 8 #[.agg #[.int .i64 k, q1, q2, q3, q4, q5, q6, q7, q8, q9, q10, q11, q12, q13, q14, q15, q16, q17, q18, q19, q20, q21, q22, q23, q24, q25, q26, q27, q28, q29, q30, q31, q32, q33, q34, q35, q36, q37, q38, q39, q40, q41, q42, q43, q44, q45, q46, q47, q48, q49]] V fun e w' => e = .returned I ∧ Below V.heap.size V w')
    (hN : ∀ V, Below w.heap.size w V → Calls Tryz.prog 7 #[I] V fun e w' => e = .returned (.tuple #[.string s, .int .i64 z]) ∧ Below V.heap.size V w')
    (hC : ∀ V, Below w.heap.size w V → Calls Tryz.prog 10 #[I] V fun e w' => e = .returned (.int .i64 z) ∧ Below V.heap.size V w')
    (hM : ∀ V, Below w.heap.size w V → Calls Tryz.prog 9 #[.agg #[.int .i64 k, q1, q2, q3, q4, q5, q6, q7, q8, q9, q10, q11, q12, q13, q14, q15, q16, q17, q18, q19, q20, q21, q22, q23, q24, q25, q26, q27, q28, q29, q30, q31, q32, q33, q34, q35, q36, q37, q38, q39, q40, q41, q42, q43, q44, q45, q46, q47, q48, q49]] V fun e w' => e = .returned (.tuple #[.string s, .int .i64 z]) ∧ Below V.heap.size V w')
    (hR : ∀ V, Below w.heap.size w V → Calls Tryz.prog 11 #[.agg #[.int .i64 k, q1, q2, q3, q4, q5, q6, q7, q8, q9, q10, q11, q12, q13, q14, q15, q16, q17, q18, q19, q20, q21, q22, q23, q24, q25, q26, q27, q28, q29, q30, q31, q32, q33, q34, q35, q36, q37, q38, q39, q40, q41, q42, q43, q44, q45, q46, q47, q48, q49]] V fun e w' => e = .returned (.int .i64 z) ∧ Below V.heap.size V w')
    (hP1 : k = 1 → ∀ V, Below w.heap.size w V → Calls Tryz.prog 12 #[.agg #[q1, q2, q3, q4, q5, q6, q7, q8, q9, q10, q11, q12]] V fun e w' => e = .returned (.int .i64 z) ∧ Below V.heap.size V w')
    (hP2 : k = 2 → ∀ V, Below w.heap.size w V → Calls Tryz.prog 13 #[.agg #[q13, q14, q15, q16, q17, q18, q19, q20, q21, q22]] V fun e w' => e = .returned (.int .i64 z) ∧ Below V.heap.size V w')
    (hP3 : k = 3 → ∀ V, Below w.heap.size w V → Calls Tryz.prog 14 #[.agg #[q23, q24, q25, q26, q27, q28, q29, q30, q31, q32, q33, q34, q35, q36, q37]] V fun e w' => e = .returned (.int .i64 z) ∧ Below V.heap.size V w')
    (hP4 : k = 4 → ∀ V, Below w.heap.size w V → Calls Tryz.prog 15 #[.agg #[q38, q39, q40, q41, q42, q43, q44, q45]] V fun e w' => e = .returned (.int .i64 z) ∧ Below V.heap.size V w') :
    Calls Tryz.prog 3 #[.agg #[.int .i64 k, q1, q2, q3, q4, q5, q6, q7, q8, q9, q10, q11, q12, q13, q14, q15, q16, q17, q18, q19, q20, q21, q22, q23, q24, q25, q26, q27, q28, q29, q30, q31, q32, q33, q34, q35, q36, q37, q38, q39, q40, q41, q42, q43, q44, q45, q46, q47, q48, q49]] w fun e w' => e = .returned (.bool true) ∧ Below w.heap.size w w' := by
  have HL := hide hL
  obtain ⟨S, hS⟩ : ∃ S : World → Prop, S = fun V => RowAt w w.heap.size #[.int .i64 k, q1, q2, q3, q4, q5, q6, q7, q8, q9, q10, q11, q12, q13, q14, q15, q16, q17, q18, q19, q20, q21, q22, q23, q24, q25, q26, q27, q28, q29, q30, q31, q32, q33, q34, q35, q36, q37, q38, q39, q40, q41, q42, q43, q44, q45, q46, q47, q48, q49] 44 V := ⟨_, rfl⟩
  have kgr : ∀ V, S V → Below w.heap.size w V := fun V h => by rw [hS] at h; exact h.gr
  have Oh : Hid (∀ V, S V → Calls Tryz.prog 8 #[.agg #[.int .i64 k, q1, q2, q3, q4, q5, q6, q7, q8, q9, q10, q11, q12, q13, q14, q15, q16, q17, q18, q19, q20, q21, q22, q23, q24, q25, q26, q27, q28, q29, q30, q31, q32, q33, q34, q35, q36, q37, q38, q39, q40, q41, q42, q43, q44, q45, q46, q47, q48, q49]] V fun e w' => e = .returned (I) ∧ Below V.heap.size V w') := fun V hV => hO V (kgr V hV)
  have Nh : Hid (∀ V, S V → Calls Tryz.prog 7 #[I] V fun e w' => e = .returned (.tuple #[.string s, .int .i64 z]) ∧ Below V.heap.size V w') := fun V hV => hN V (kgr V hV)
  have Ch : Hid (∀ V, S V → Calls Tryz.prog 10 #[I] V fun e w' => e = .returned (.int .i64 z) ∧ Below V.heap.size V w') := fun V hV => hC V (kgr V hV)
  have Mh : Hid (∀ V, S V → Calls Tryz.prog 9 #[.agg #[.int .i64 k, q1, q2, q3, q4, q5, q6, q7, q8, q9, q10, q11, q12, q13, q14, q15, q16, q17, q18, q19, q20, q21, q22, q23, q24, q25, q26, q27, q28, q29, q30, q31, q32, q33, q34, q35, q36, q37, q38, q39, q40, q41, q42, q43, q44, q45, q46, q47, q48, q49]] V fun e w' => e = .returned (.tuple #[.string s, .int .i64 z]) ∧ Below V.heap.size V w') := fun V hV => hM V (kgr V hV)
  have Rh : Hid (∀ V, S V → Calls Tryz.prog 11 #[.agg #[.int .i64 k, q1, q2, q3, q4, q5, q6, q7, q8, q9, q10, q11, q12, q13, q14, q15, q16, q17, q18, q19, q20, q21, q22, q23, q24, q25, q26, q27, q28, q29, q30, q31, q32, q33, q34, q35, q36, q37, q38, q39, q40, q41, q42, q43, q44, q45, q46, q47, q48, q49]] V fun e w' => e = .returned (.int .i64 z) ∧ Below V.heap.size V w') := fun V hV => hR V (kgr V hV)
  have Ph1 : Hid (k = 1 → ∀ V, S V → Calls Tryz.prog 12 #[.agg #[q1, q2, q3, q4, q5, q6, q7, q8, q9, q10, q11, q12]] V fun e w' => e = .returned (.int .i64 z) ∧ Below V.heap.size V w') := fun hk V hV => hP1 hk V (kgr V hV)
  have Ph2 : Hid (k = 2 → ∀ V, S V → Calls Tryz.prog 13 #[.agg #[q13, q14, q15, q16, q17, q18, q19, q20, q21, q22]] V fun e w' => e = .returned (.int .i64 z) ∧ Below V.heap.size V w') := fun hk V hV => hP2 hk V (kgr V hV)
  have Ph3 : Hid (k = 3 → ∀ V, S V → Calls Tryz.prog 14 #[.agg #[q23, q24, q25, q26, q27, q28, q29, q30, q31, q32, q33, q34, q35, q36, q37]] V fun e w' => e = .returned (.int .i64 z) ∧ Below V.heap.size V w') := fun hk V hV => hP3 hk V (kgr V hV)
  have Ph4 : Hid (k = 4 → ∀ V, S V → Calls Tryz.prog 15 #[.agg #[q38, q39, q40, q41, q42, q43, q44, q45]] V fun e w' => e = .returned (.int .i64 z) ∧ Below V.heap.size V w') := fun hk V hV => hP4 hk V (kgr V hV)
  clear hL hO hN hC hM hR hP1 hP2 hP3 hP4
  have kcall : Hid (∀ V V', S V → Below V.heap.size V V' → S V') := fun V V' h hb => by rw [hS] at h ⊢; exact h.below hb
  have kdrew : Hid (∀ V, S V → S V.drew) := fun V h => by rw [hS] at h ⊢; exact h.drew
  have kL : Hid (∀ V, S V → V.rangeAt w.heap.size 0 [.int .i64 k, q1, q2, q3, q4, q5, q6, q7, q8, q9, q10, q11, q12, q13, q14, q15, q16, q17, q18, q19, q20, q21, q22, q23, q24, q25, q26, q27, q28, q29, q30, q31, q32, q33, q34, q35, q36, q37, q38, q39, q40, q41, q42, q43, q44, q45, q46, q47, q48, q49]) := fun V h => by rw [hS] at h; exact h.part [] [.int .i64 k, q1, q2, q3, q4, q5, q6, q7, q8, q9, q10, q11, q12, q13, q14, q15, q16, q17, q18, q19, q20, q21, q22, q23, q24, q25, q26, q27, q28, q29, q30, q31, q32, q33, q34, q35, q36, q37, q38, q39, q40, q41, q42, q43, q44, q45, q46, q47, q48, q49] [] rfl
  have kP1 : Hid (∀ V, S V → V.rangeAt w.heap.size 1 [q1, q2, q3, q4, q5, q6, q7, q8, q9, q10, q11, q12]) := fun V h => by rw [hS] at h; exact h.part [.int .i64 k] [q1, q2, q3, q4, q5, q6, q7, q8, q9, q10, q11, q12] [q13, q14, q15, q16, q17, q18, q19, q20, q21, q22, q23, q24, q25, q26, q27, q28, q29, q30, q31, q32, q33, q34, q35, q36, q37, q38, q39, q40, q41, q42, q43, q44, q45, q46, q47, q48, q49] rfl
  have kP2 : Hid (∀ V, S V → V.rangeAt w.heap.size 13 [q13, q14, q15, q16, q17, q18, q19, q20, q21, q22]) := fun V h => by rw [hS] at h; exact h.part [.int .i64 k, q1, q2, q3, q4, q5, q6, q7, q8, q9, q10, q11, q12] [q13, q14, q15, q16, q17, q18, q19, q20, q21, q22] [q23, q24, q25, q26, q27, q28, q29, q30, q31, q32, q33, q34, q35, q36, q37, q38, q39, q40, q41, q42, q43, q44, q45, q46, q47, q48, q49] rfl
  have kP3 : Hid (∀ V, S V → V.rangeAt w.heap.size 23 [q23, q24, q25, q26, q27, q28, q29, q30, q31, q32, q33, q34, q35, q36, q37]) := fun V h => by rw [hS] at h; exact h.part [.int .i64 k, q1, q2, q3, q4, q5, q6, q7, q8, q9, q10, q11, q12, q13, q14, q15, q16, q17, q18, q19, q20, q21, q22] [q23, q24, q25, q26, q27, q28, q29, q30, q31, q32, q33, q34, q35, q36, q37] [q38, q39, q40, q41, q42, q43, q44, q45, q46, q47, q48, q49] rfl
  have kP4 : Hid (∀ V, S V → V.rangeAt w.heap.size 38 [q38, q39, q40, q41, q42, q43, q44, q45]) := fun V h => by rw [hS] at h; exact h.part [.int .i64 k, q1, q2, q3, q4, q5, q6, q7, q8, q9, q10, q11, q12, q13, q14, q15, q16, q17, q18, q19, q20, q21, q22, q23, q24, q25, q26, q27, q28, q29, q30, q31, q32, q33, q34, q35, q36, q37] [q38, q39, q40, q41, q42, q43, q44, q45] [q46, q47, q48, q49] rfl
  have k0 : Hid (∀ V, S V → V.cell? ⟨w.heap.size, 0, none⟩ = some (.int .i64 k)) := fun V h => by rw [hS] at h; exact h.at 0 rfl
  have krow : Hid (∀ V, S V → V.heap[w.heap.size]? = some (.cells #[.int .i64 k, q1, q2, q3, q4, q5, q6, q7, q8, q9, q10, q11, q12, q13, q14, q15, q16, q17, q18, q19, q20, q21, q22, q23, q24, q25, q26, q27, q28, q29, q30, q31, q32, q33, q34, q35, q36, q37, q38, q39, q40, q41, q42, q43, q44, q45, q46, q47, q48, q49] 44)) := fun V h => by rw [hS] at h; exact h.row
  replace kgr := hide kgr
  have z1 : (z != z) = false := by simp
  have z2 : (z == z) = true := by simp
  obtain ⟨W1, hW1⟩ : ∃ W, W = w.alloc (.cells #[.int .i64 k, q1, q2, q3, q4, q5, q6, q7, q8, q9, q10, q11, q12, q13, q14, q15, q16, q17, q18, q19, q20, q21, q22, q23, q24, q25, q26, q27, q28, q29, q30, q31, q32, q33, q34, q35, q36, q37, q38, q39, q40, q41, q42, q43, q44, q45, q46, q47, q48, q49] 44) := ⟨_, rfl⟩
  have HH : S W1 := by rw [hS, hW1]; exact row_new _ _ _
  have GW := hide hW1
  clear hW1 hS
  go_enter Tryz.func3, Tryz.ntmps3
  go_wp2_with fail
  rw [← unhide GW]
  refine (live8_any _ ((unhide HL).below (unhide kgr _ HH))).mono ?_
  rintro e w9 ⟨rfl, hw9⟩
  replace HH := unhide kcall _ _ HH hw9
  clear hw9 GW
  go_upto_region 2 with fail
  refine wp_region_list ?_
  refine wpList_load_row rfl 44 _ rfl w.heap.size rfl 44 _ _ _ (unhide krow _ HH) Tryz.underlying44 rfl (by kernel_rfl) ?_
  go_wp2_with fail
  refine (unhide Oh _ HH).mono ?_
  rintro e w9 ⟨rfl, hw9⟩
  replace HH := unhide kcall _ _ HH hw9
  clear hw9
  go_wp2_with fail
  refine (unhide Nh _ HH).mono ?_
  rintro e w9 ⟨rfl, hw9⟩
  replace HH := unhide kcall _ _ HH hw9
  clear hw9
  go_upto_region 3 with fail
  refine wp_region_list ?_
  refine wpList_load_row rfl 44 _ rfl w.heap.size rfl 44 _ _ _ (unhide krow _ HH) Tryz.underlying44 rfl (by kernel_rfl) ?_
  go_wp2_with fail
  refine (unhide Mh _ HH).mono ?_
  rintro e w9 ⟨rfl, hw9⟩
  replace HH := unhide kcall _ _ HH hw9
  clear hw9
  go_upto_region 4 with fail
  refine wp_region_noPanic ?_
  refine wp_region_held_drew (S := S) (by kernel_rfl) (unhide kdrew _ HH) (fun hHeld0 => ?_)
  refine wpAnyH_take (i := 0) (oi := _) (v := _) rfl (by kernel_rfl) (by kernel_rfl) (by kernel_rfl) (fun _ _ _ h => h) (yieldsIf_load_mid (by rfl) 44 _ rfl w.heap.size 0 rfl _ _ (unhide kL) Tryz.underlying44 rfl (by kernel_rfl)) (by assumption) ?_
  try simp only [Act.put]
  try simp only [List.setIfInBounds_toArray]
  try simp only [List.set_cons_zero, List.set_cons_succ]
  refine wpAnyH_take (i := 3) (oi := _) (v := _) rfl (by kernel_rfl) (by kernel_rfl) (by kernel_rfl) (fun _ _ _ h => h) (yieldsIf_load_mid (by rfl) 44 _ rfl w.heap.size 0 rfl _ _ (unhide kL) Tryz.underlying44 rfl (by kernel_rfl)) (by assumption) ?_
  try simp only [Act.put]
  try simp only [List.setIfInBounds_toArray]
  try simp only [List.set_cons_zero, List.set_cons_succ]
  refine wpAnyH_ready (rs := [1]) (by kernel_rfl) (by simp) ?_
  refine AllReadyH.cons (o := _) rfl (fun K hK => ?_) AllReadyH.nil
  go_simp
  (go_at_call 8; refine (unhide Oh _ ?_).mono ?_; with_reducible assumption; rintro e w9 ⟨rfl, hw9⟩)
  refine hK.out _ _ ?_ (fun hHeld1 => ?_)
  · (try dsimp only)
    (refine unhide kcall _ _ ?_ (by assumption); with_reducible assumption)
  clear hK K hHeld0 hw9
  try simp only [Act.put]
  try simp only [List.setIfInBounds_toArray]
  try simp only [List.set_cons_zero, List.set_cons_succ]
  refine wpAnyH_ready (rs := [2]) (by kernel_rfl) (by simp) ?_
  refine AllReadyH.cons (o := _) rfl (fun K hK => ?_) AllReadyH.nil
  go_simp
  (go_at_call 10; refine (unhide Ch _ ?_).mono ?_; with_reducible assumption; rintro e w9 ⟨rfl, hw9⟩)
  refine hK.out _ _ ?_ (fun hHeld2 => ?_)
  · (try dsimp only)
    (refine unhide kcall _ _ ?_ (by assumption); with_reducible assumption)
  clear hK K hHeld1 hw9
  try simp only [Act.put]
  try simp only [List.setIfInBounds_toArray]
  try simp only [List.set_cons_zero, List.set_cons_succ]
  refine wpAnyH_ready (rs := [4]) (by kernel_rfl) (by simp) ?_
  refine AllReadyH.cons (o := _) rfl (fun K hK => ?_) AllReadyH.nil
  go_simp
  (go_at_call 11; refine (unhide Rh _ ?_).mono ?_; with_reducible assumption; rintro e w9 ⟨rfl, hw9⟩)
  refine hK.out _ _ ?_ (fun hHeld3 => ?_)
  · (try dsimp only)
    (refine unhide kcall _ _ ?_ (by assumption); with_reducible assumption)
  clear hK K hHeld2 hw9
  try simp only [Act.put]
  try simp only [List.setIfInBounds_toArray]
  try simp only [List.set_cons_zero, List.set_cons_succ]
  refine takeH6 (i := 5) (d := 25) (v := ?_) rfl rfl (by kernel_rfl) (by kernel_rfl) (by kernel_rfl) (fun _ _ _ h => h) (Or.inl ⟨by rfl, ?_⟩) (by assumption) ?_
  rotate_left
  · (intro W hSW; (try dsimp only at hSW); go_simp; try (with_reducible rfl))
  try simp only [Act.put]
  try simp only [List.setIfInBounds_toArray]
  try simp only [List.set_cons_zero, List.set_cons_succ]
  refine takeH6 (i := 6) (d := 26) (v := ?_) rfl rfl (by kernel_rfl) (by kernel_rfl) (by kernel_rfl) (fun _ _ _ h => h) (Or.inl ⟨by rfl, ?_⟩) (by assumption) ?_
  rotate_left
  · (intro W hSW; (try dsimp only at hSW); go_simp; try (with_reducible rfl))
  try simp only [Act.put]
  try simp only [List.setIfInBounds_toArray]
  try simp only [List.set_cons_zero, List.set_cons_succ]
  refine takeH6 (i := 7) (d := 27) (v := ?_) rfl rfl (by kernel_rfl) (by kernel_rfl) (by kernel_rfl) (fun _ _ _ h => h) (Or.inl ⟨by rfl, ?_⟩) (by assumption) ?_
  rotate_left
  · (intro W hSW; (try dsimp only at hSW); go_simp; try (with_reducible rfl))
  try simp only [Act.put]
  try simp only [List.setIfInBounds_toArray]
  try simp only [List.set_cons_zero, List.set_cons_succ]
  refine takeH6 (i := 8) (d := 28) (v := ?_) rfl rfl (by kernel_rfl) (by kernel_rfl) (by kernel_rfl) (fun _ _ _ h => h) (Or.inl ⟨by rfl, ?_⟩) (by assumption) ?_
  rotate_left
  · (intro W hSW; (try dsimp only at hSW); go_simp; try (with_reducible rfl))
  try simp only [Act.put]
  try simp only [List.setIfInBounds_toArray]
  try simp only [List.set_cons_zero, List.set_cons_succ]
  refine takeH6 (i := 9) (d := 29) (v := ?_) rfl rfl (by kernel_rfl) (by kernel_rfl) (by kernel_rfl) (fun _ _ _ h => h) (Or.inl ⟨by rfl, ?_⟩) (by assumption) ?_
  rotate_left
  · (intro W hSW; (try dsimp only at hSW); go_simp; try (with_reducible rfl))
  try simp only [Act.put]
  try simp only [List.setIfInBounds_toArray]
  try simp only [List.set_cons_zero, List.set_cons_succ]
  refine takeH6 (i := 10) (d := 30) (v := ?_) rfl rfl (by kernel_rfl) (by kernel_rfl) (by kernel_rfl) (fun _ _ _ h => h) (Or.inl ⟨by rfl, ?_⟩) (by assumption) ?_
  rotate_left
  · (intro W hSW; (try dsimp only at hSW); go_simp; try (with_reducible rfl))
  try simp only [Act.put]
  try simp only [List.setIfInBounds_toArray]
  try simp only [List.set_cons_zero, List.set_cons_succ]
  refine takeH6 (i := 11) (d := 31) (v := ?_) rfl rfl (by kernel_rfl) (by kernel_rfl) (by kernel_rfl) (fun _ _ _ h => h) (Or.inl ⟨by rfl, ?_⟩) (by assumption) ?_
  rotate_left
  · (intro W hSW; (try dsimp only at hSW); go_simp; try (with_reducible rfl))
  try simp only [Act.put]
  try simp only [List.setIfInBounds_toArray]
  try simp only [List.set_cons_zero, List.set_cons_succ]
  refine takeH6 (i := 12) (d := 32) (v := ?_) rfl rfl (by kernel_rfl) (by kernel_rfl) (by kernel_rfl) (fun _ _ _ h => h) (Or.inl ⟨by rfl, ?_⟩) (by assumption) ?_
  rotate_left
  · (intro W hSW; (try dsimp only at hSW); go_simp; try (with_reducible rfl))
  try simp only [Act.put]
  try simp only [List.setIfInBounds_toArray]
  try simp only [List.set_cons_zero, List.set_cons_succ]
  refine takeH6 (i := 13) (d := 33) (v := ?_) rfl rfl (by kernel_rfl) (by kernel_rfl) (by kernel_rfl) (fun _ _ _ h => h) (Or.inl ⟨by rfl, ?_⟩) (by assumption) ?_
  rotate_left
  · (intro W hSW; (try dsimp only at hSW); go_simp; try (with_reducible rfl))
  try simp only [Act.put]
  try simp only [List.setIfInBounds_toArray]
  try simp only [List.set_cons_zero, List.set_cons_succ]
  refine takeH6 (i := 14) (d := 34) (v := ?_) rfl rfl (by kernel_rfl) (by kernel_rfl) (by kernel_rfl) (fun _ _ _ h => h) (Or.inl ⟨by rfl, ?_⟩) (by assumption) ?_
  rotate_left
  · (intro W hSW; (try dsimp only at hSW); go_simp; try (with_reducible rfl))
  try simp only [Act.put]
  try simp only [List.setIfInBounds_toArray]
  try simp only [List.set_cons_zero, List.set_cons_succ]
  refine takeH6 (i := 15) (d := 35) (v := ?_) rfl rfl (by kernel_rfl) (by kernel_rfl) (by kernel_rfl) (fun _ _ _ h => h) (Or.inl ⟨by rfl, ?_⟩) (by assumption) ?_
  rotate_left
  · (intro W hSW; (try dsimp only at hSW); go_simp; try (with_reducible rfl))
  try simp only [Act.put]
  try simp only [List.setIfInBounds_toArray]
  try simp only [List.set_cons_zero, List.set_cons_succ]
  refine wpAnyH_done (by kernel_rfl) ?_ _
  refine NoPanic.normal ?_
  have hHeld := hHeld3
  clear hHeld3

  have f0 := unhide k0 _ hHeld
  by_cases e1 : k = 1
  · have d1 : (k == 1) = true := by rw [e1]; rfl
    have ph := hide (unhide Ph1 e1)
    clear e1
    go_upto_region 8 with fail
    clear f0
    refine wp_region_noPanic ?_
    refine wp_region_held_drew (S := S) (by kernel_rfl) (unhide kdrew _ hHeld) (fun hHeld0 => ?_)
    refine takeH6 (i := 0) (d := 40) (v := ?_) rfl rfl (by kernel_rfl) (by kernel_rfl) (by kernel_rfl) (fun _ _ _ h => h) (Or.inl ⟨by rfl, ?_⟩) (by assumption) ?_
    rotate_left
    · (intro W hSW; (try dsimp only at hSW); go_simp; try (with_reducible rfl))
    try simp only [Act.put]
    try simp only [List.setIfInBounds_toArray]
    try simp only [List.set_cons_zero, List.set_cons_succ]
    refine takeH6 (i := 1) (d := 41) (v := ?_) rfl rfl (by kernel_rfl) (by kernel_rfl) (by kernel_rfl) (fun _ _ _ h => h) (Or.inl ⟨by rfl, ?_⟩) (by assumption) ?_
    rotate_left
    · (intro W hSW; (try dsimp only at hSW); go_simp; try (with_reducible rfl))
    try simp only [Act.put]
    try simp only [List.setIfInBounds_toArray]
    try simp only [List.set_cons_zero, List.set_cons_succ]
    refine takeH6 (i := 2) (d := 42) (v := ?_) rfl rfl (by kernel_rfl) (by kernel_rfl) (by kernel_rfl) (fun _ _ _ h => h) (Or.inl ⟨by rfl, ?_⟩) (by assumption) ?_
    rotate_left
    · (intro W hSW; (try dsimp only at hSW); go_simp; try (with_reducible rfl))
    try simp only [Act.put]
    try simp only [List.setIfInBounds_toArray]
    try simp only [List.set_cons_zero, List.set_cons_succ]
    refine wpAnyH_take (i := 3) (oi := _) (v := _) rfl (by kernel_rfl) (by kernel_rfl) (by kernel_rfl) (fun _ _ _ h => h) (yieldsIf_load_mid (by rfl) 29 _ rfl w.heap.size 1 rfl _ _ (unhide kP1) Tryz.underlying29 rfl (by kernel_rfl)) (by assumption) ?_
    try simp only [Act.put]
    try simp only [List.setIfInBounds_toArray]
    try simp only [List.set_cons_zero, List.set_cons_succ]
    refine wpAnyH_take (i := 5) (oi := _) (v := _) rfl (by kernel_rfl) (by kernel_rfl) (by kernel_rfl) (fun _ _ _ h => h) (yieldsIf_load_mid (by rfl) 44 _ rfl w.heap.size 0 rfl _ _ (unhide kL) Tryz.underlying44 rfl (by kernel_rfl)) (by assumption) ?_
    try simp only [Act.put]
    try simp only [List.setIfInBounds_toArray]
    try simp only [List.set_cons_zero, List.set_cons_succ]
    refine wpAnyH_ready (rs := [4]) (by kernel_rfl) (by simp) ?_
    refine AllReadyH.cons (o := _) rfl (fun K hK => ?_) AllReadyH.nil
    go_simp
    (go_at_call 12; refine (unhide ph _ ?_).mono ?_; with_reducible assumption; rintro e w9 ⟨rfl, hw9⟩)
    refine hK.out _ _ ?_ (fun hHeld1 => ?_)
    · (try dsimp only)
      (refine unhide kcall _ _ ?_ (by assumption); with_reducible assumption)
    clear hK K hHeld0 hw9
    try simp only [Act.put]
    try simp only [List.setIfInBounds_toArray]
    try simp only [List.set_cons_zero, List.set_cons_succ]
    refine wpAnyH_ready (rs := [6]) (by kernel_rfl) (by simp) ?_
    refine AllReadyH.cons (o := _) rfl (fun K hK => ?_) AllReadyH.nil
    go_simp
    (go_at_call 11; refine (unhide Rh _ ?_).mono ?_; with_reducible assumption; rintro e w9 ⟨rfl, hw9⟩)
    refine hK.out _ _ ?_ (fun hHeld2 => ?_)
    · (try dsimp only)
      (refine unhide kcall _ _ ?_ (by assumption); with_reducible assumption)
    clear hK K hHeld1 hw9
    try simp only [Act.put]
    try simp only [List.setIfInBounds_toArray]
    try simp only [List.set_cons_zero, List.set_cons_succ]
    refine takeH6 (i := 7) (d := 47) (v := ?_) rfl rfl (by kernel_rfl) (by kernel_rfl) (by kernel_rfl) (fun _ _ _ h => h) (Or.inl ⟨by rfl, ?_⟩) (by assumption) ?_
    rotate_left
    · (intro W hSW; (try dsimp only at hSW); go_simp; try (with_reducible rfl))
    try simp only [Act.put]
    try simp only [List.setIfInBounds_toArray]
    try simp only [List.set_cons_zero, List.set_cons_succ]
    refine takeH6 (i := 8) (d := 48) (v := ?_) rfl rfl (by kernel_rfl) (by kernel_rfl) (by kernel_rfl) (fun _ _ _ h => h) (Or.inl ⟨by rfl, ?_⟩) (by assumption) ?_
    rotate_left
    · (intro W hSW; (try dsimp only at hSW); go_simp; try (with_reducible rfl))
    try simp only [Act.put]
    try simp only [List.setIfInBounds_toArray]
    try simp only [List.set_cons_zero, List.set_cons_succ]
    refine takeH6 (i := 9) (d := 2) (v := ?_) rfl rfl (by kernel_rfl) (by kernel_rfl) (by kernel_rfl) (fun _ _ _ h => h) (Or.inl ⟨by rfl, ?_⟩) (by assumption) ?_
    rotate_left
    · (intro W hSW; (try dsimp only at hSW); go_simp; try (with_reducible rfl))
    try simp only [Act.put]
    try simp only [List.setIfInBounds_toArray]
    try simp only [List.set_cons_zero, List.set_cons_succ]
    refine wpAnyH_done (by kernel_rfl) ?_ _
    refine NoPanic.normal ?_
    have hHeld := hHeld2
    clear hHeld2
    go_wp2_with fail
    go_ret
    exact ⟨by first | rfl | simp, unhide kgr _ hHeld⟩
  have d1 : (k == 1) = false := by rw [beq_eq_false_iff_ne]; omega
  clear e1
  by_cases e2 : k = 2
  · have d2 : (k == 2) = true := by rw [e2]; rfl
    have ph := hide (unhide Ph2 e2)
    clear e2
    go_upto_region 10 with fail
    clear f0
    refine wp_region_noPanic ?_
    refine wp_region_held_drew (S := S) (by kernel_rfl) (unhide kdrew _ hHeld) (fun hHeld0 => ?_)
    refine takeH6 (i := 0) (d := 51) (v := ?_) rfl rfl (by kernel_rfl) (by kernel_rfl) (by kernel_rfl) (fun _ _ _ h => h) (Or.inl ⟨by rfl, ?_⟩) (by assumption) ?_
    rotate_left
    · (intro W hSW; (try dsimp only at hSW); go_simp; try (with_reducible rfl))
    try simp only [Act.put]
    try simp only [List.setIfInBounds_toArray]
    try simp only [List.set_cons_zero, List.set_cons_succ]
    refine takeH6 (i := 1) (d := 52) (v := ?_) rfl rfl (by kernel_rfl) (by kernel_rfl) (by kernel_rfl) (fun _ _ _ h => h) (Or.inl ⟨by rfl, ?_⟩) (by assumption) ?_
    rotate_left
    · (intro W hSW; (try dsimp only at hSW); go_simp; try (with_reducible rfl))
    try simp only [Act.put]
    try simp only [List.setIfInBounds_toArray]
    try simp only [List.set_cons_zero, List.set_cons_succ]
    refine takeH6 (i := 2) (d := 53) (v := ?_) rfl rfl (by kernel_rfl) (by kernel_rfl) (by kernel_rfl) (fun _ _ _ h => h) (Or.inl ⟨by rfl, ?_⟩) (by assumption) ?_
    rotate_left
    · (intro W hSW; (try dsimp only at hSW); go_simp; try (with_reducible rfl))
    try simp only [Act.put]
    try simp only [List.setIfInBounds_toArray]
    try simp only [List.set_cons_zero, List.set_cons_succ]
    refine wpAnyH_take (i := 3) (oi := _) (v := _) rfl (by kernel_rfl) (by kernel_rfl) (by kernel_rfl) (fun _ _ _ h => h) (yieldsIf_load_mid (by rfl) 32 _ rfl w.heap.size 13 rfl _ _ (unhide kP2) Tryz.underlying32 rfl (by kernel_rfl)) (by assumption) ?_
    try simp only [Act.put]
    try simp only [List.setIfInBounds_toArray]
    try simp only [List.set_cons_zero, List.set_cons_succ]
    refine wpAnyH_take (i := 5) (oi := _) (v := _) rfl (by kernel_rfl) (by kernel_rfl) (by kernel_rfl) (fun _ _ _ h => h) (yieldsIf_load_mid (by rfl) 44 _ rfl w.heap.size 0 rfl _ _ (unhide kL) Tryz.underlying44 rfl (by kernel_rfl)) (by assumption) ?_
    try simp only [Act.put]
    try simp only [List.setIfInBounds_toArray]
    try simp only [List.set_cons_zero, List.set_cons_succ]
    refine wpAnyH_ready (rs := [4]) (by kernel_rfl) (by simp) ?_
    refine AllReadyH.cons (o := _) rfl (fun K hK => ?_) AllReadyH.nil
    go_simp
    (go_at_call 13; refine (unhide ph _ ?_).mono ?_; with_reducible assumption; rintro e w9 ⟨rfl, hw9⟩)
    refine hK.out _ _ ?_ (fun hHeld1 => ?_)
    · (try dsimp only)
      (refine unhide kcall _ _ ?_ (by assumption); with_reducible assumption)
    clear hK K hHeld0 hw9
    try simp only [Act.put]
    try simp only [List.setIfInBounds_toArray]
    try simp only [List.set_cons_zero, List.set_cons_succ]
    refine wpAnyH_ready (rs := [6]) (by kernel_rfl) (by simp) ?_
    refine AllReadyH.cons (o := _) rfl (fun K hK => ?_) AllReadyH.nil
    go_simp
    (go_at_call 11; refine (unhide Rh _ ?_).mono ?_; with_reducible assumption; rintro e w9 ⟨rfl, hw9⟩)
    refine hK.out _ _ ?_ (fun hHeld2 => ?_)
    · (try dsimp only)
      (refine unhide kcall _ _ ?_ (by assumption); with_reducible assumption)
    clear hK K hHeld1 hw9
    try simp only [Act.put]
    try simp only [List.setIfInBounds_toArray]
    try simp only [List.set_cons_zero, List.set_cons_succ]
    refine takeH6 (i := 7) (d := 58) (v := ?_) rfl rfl (by kernel_rfl) (by kernel_rfl) (by kernel_rfl) (fun _ _ _ h => h) (Or.inl ⟨by rfl, ?_⟩) (by assumption) ?_
    rotate_left
    · (intro W hSW; (try dsimp only at hSW); go_simp; try (with_reducible rfl))
    try simp only [Act.put]
    try simp only [List.setIfInBounds_toArray]
    try simp only [List.set_cons_zero, List.set_cons_succ]
    refine takeH6 (i := 8) (d := 59) (v := ?_) rfl rfl (by kernel_rfl) (by kernel_rfl) (by kernel_rfl) (fun _ _ _ h => h) (Or.inl ⟨by rfl, ?_⟩) (by assumption) ?_
    rotate_left
    · (intro W hSW; (try dsimp only at hSW); go_simp; try (with_reducible rfl))
    try simp only [Act.put]
    try simp only [List.setIfInBounds_toArray]
    try simp only [List.set_cons_zero, List.set_cons_succ]
    refine takeH6 (i := 9) (d := 2) (v := ?_) rfl rfl (by kernel_rfl) (by kernel_rfl) (by kernel_rfl) (fun _ _ _ h => h) (Or.inl ⟨by rfl, ?_⟩) (by assumption) ?_
    rotate_left
    · (intro W hSW; (try dsimp only at hSW); go_simp; try (with_reducible rfl))
    try simp only [Act.put]
    try simp only [List.setIfInBounds_toArray]
    try simp only [List.set_cons_zero, List.set_cons_succ]
    refine wpAnyH_done (by kernel_rfl) ?_ _
    refine NoPanic.normal ?_
    have hHeld := hHeld2
    clear hHeld2
    go_wp2_with fail
    go_ret
    exact ⟨by first | rfl | simp, unhide kgr _ hHeld⟩
  have d2 : (k == 2) = false := by rw [beq_eq_false_iff_ne]; omega
  clear e2
  by_cases e3 : k = 3
  · have d3 : (k == 3) = true := by rw [e3]; rfl
    have ph := hide (unhide Ph3 e3)
    clear e3
    go_upto_region 12 with fail
    clear f0
    refine wp_region_noPanic ?_
    refine wp_region_held_drew (S := S) (by kernel_rfl) (unhide kdrew _ hHeld) (fun hHeld0 => ?_)
    refine takeH6 (i := 0) (d := 62) (v := ?_) rfl rfl (by kernel_rfl) (by kernel_rfl) (by kernel_rfl) (fun _ _ _ h => h) (Or.inl ⟨by rfl, ?_⟩) (by assumption) ?_
    rotate_left
    · (intro W hSW; (try dsimp only at hSW); go_simp; try (with_reducible rfl))
    try simp only [Act.put]
    try simp only [List.setIfInBounds_toArray]
    try simp only [List.set_cons_zero, List.set_cons_succ]
    refine takeH6 (i := 1) (d := 63) (v := ?_) rfl rfl (by kernel_rfl) (by kernel_rfl) (by kernel_rfl) (fun _ _ _ h => h) (Or.inl ⟨by rfl, ?_⟩) (by assumption) ?_
    rotate_left
    · (intro W hSW; (try dsimp only at hSW); go_simp; try (with_reducible rfl))
    try simp only [Act.put]
    try simp only [List.setIfInBounds_toArray]
    try simp only [List.set_cons_zero, List.set_cons_succ]
    refine takeH6 (i := 2) (d := 64) (v := ?_) rfl rfl (by kernel_rfl) (by kernel_rfl) (by kernel_rfl) (fun _ _ _ h => h) (Or.inl ⟨by rfl, ?_⟩) (by assumption) ?_
    rotate_left
    · (intro W hSW; (try dsimp only at hSW); go_simp; try (with_reducible rfl))
    try simp only [Act.put]
    try simp only [List.setIfInBounds_toArray]
    try simp only [List.set_cons_zero, List.set_cons_succ]
    refine wpAnyH_take (i := 3) (oi := _) (v := _) rfl (by kernel_rfl) (by kernel_rfl) (by kernel_rfl) (fun _ _ _ h => h) (yieldsIf_load_mid (by rfl) 37 _ rfl w.heap.size 23 rfl _ _ (unhide kP3) Tryz.underlying37 rfl (by kernel_rfl)) (by assumption) ?_
    try simp only [Act.put]
    try simp only [List.setIfInBounds_toArray]
    try simp only [List.set_cons_zero, List.set_cons_succ]
    refine wpAnyH_take (i := 5) (oi := _) (v := _) rfl (by kernel_rfl) (by kernel_rfl) (by kernel_rfl) (fun _ _ _ h => h) (yieldsIf_load_mid (by rfl) 44 _ rfl w.heap.size 0 rfl _ _ (unhide kL) Tryz.underlying44 rfl (by kernel_rfl)) (by assumption) ?_
    try simp only [Act.put]
    try simp only [List.setIfInBounds_toArray]
    try simp only [List.set_cons_zero, List.set_cons_succ]
    refine wpAnyH_ready (rs := [4]) (by kernel_rfl) (by simp) ?_
    refine AllReadyH.cons (o := _) rfl (fun K hK => ?_) AllReadyH.nil
    go_simp
    (go_at_call 14; refine (unhide ph _ ?_).mono ?_; with_reducible assumption; rintro e w9 ⟨rfl, hw9⟩)
    refine hK.out _ _ ?_ (fun hHeld1 => ?_)
    · (try dsimp only)
      (refine unhide kcall _ _ ?_ (by assumption); with_reducible assumption)
    clear hK K hHeld0 hw9
    try simp only [Act.put]
    try simp only [List.setIfInBounds_toArray]
    try simp only [List.set_cons_zero, List.set_cons_succ]
    refine wpAnyH_ready (rs := [6]) (by kernel_rfl) (by simp) ?_
    refine AllReadyH.cons (o := _) rfl (fun K hK => ?_) AllReadyH.nil
    go_simp
    (go_at_call 11; refine (unhide Rh _ ?_).mono ?_; with_reducible assumption; rintro e w9 ⟨rfl, hw9⟩)
    refine hK.out _ _ ?_ (fun hHeld2 => ?_)
    · (try dsimp only)
      (refine unhide kcall _ _ ?_ (by assumption); with_reducible assumption)
    clear hK K hHeld1 hw9
    try simp only [Act.put]
    try simp only [List.setIfInBounds_toArray]
    try simp only [List.set_cons_zero, List.set_cons_succ]
    refine takeH6 (i := 7) (d := 69) (v := ?_) rfl rfl (by kernel_rfl) (by kernel_rfl) (by kernel_rfl) (fun _ _ _ h => h) (Or.inl ⟨by rfl, ?_⟩) (by assumption) ?_
    rotate_left
    · (intro W hSW; (try dsimp only at hSW); go_simp; try (with_reducible rfl))
    try simp only [Act.put]
    try simp only [List.setIfInBounds_toArray]
    try simp only [List.set_cons_zero, List.set_cons_succ]
    refine takeH6 (i := 8) (d := 70) (v := ?_) rfl rfl (by kernel_rfl) (by kernel_rfl) (by kernel_rfl) (fun _ _ _ h => h) (Or.inl ⟨by rfl, ?_⟩) (by assumption) ?_
    rotate_left
    · (intro W hSW; (try dsimp only at hSW); go_simp; try (with_reducible rfl))
    try simp only [Act.put]
    try simp only [List.setIfInBounds_toArray]
    try simp only [List.set_cons_zero, List.set_cons_succ]
    refine takeH6 (i := 9) (d := 2) (v := ?_) rfl rfl (by kernel_rfl) (by kernel_rfl) (by kernel_rfl) (fun _ _ _ h => h) (Or.inl ⟨by rfl, ?_⟩) (by assumption) ?_
    rotate_left
    · (intro W hSW; (try dsimp only at hSW); go_simp; try (with_reducible rfl))
    try simp only [Act.put]
    try simp only [List.setIfInBounds_toArray]
    try simp only [List.set_cons_zero, List.set_cons_succ]
    refine wpAnyH_done (by kernel_rfl) ?_ _
    refine NoPanic.normal ?_
    have hHeld := hHeld2
    clear hHeld2
    go_wp2_with fail
    go_ret
    exact ⟨by first | rfl | simp, unhide kgr _ hHeld⟩
  have d3 : (k == 3) = false := by rw [beq_eq_false_iff_ne]; omega
  clear e3
  by_cases e4 : k = 4
  · have d4 : (k == 4) = true := by rw [e4]; rfl
    have ph := hide (unhide Ph4 e4)
    clear e4
    go_upto_region 14 with fail
    clear f0
    refine wp_region_noPanic ?_
    refine wp_region_held_drew (S := S) (by kernel_rfl) (unhide kdrew _ hHeld) (fun hHeld0 => ?_)
    refine takeH6 (i := 0) (d := 73) (v := ?_) rfl rfl (by kernel_rfl) (by kernel_rfl) (by kernel_rfl) (fun _ _ _ h => h) (Or.inl ⟨by rfl, ?_⟩) (by assumption) ?_
    rotate_left
    · (intro W hSW; (try dsimp only at hSW); go_simp; try (with_reducible rfl))
    try simp only [Act.put]
    try simp only [List.setIfInBounds_toArray]
    try simp only [List.set_cons_zero, List.set_cons_succ]
    refine takeH6 (i := 1) (d := 74) (v := ?_) rfl rfl (by kernel_rfl) (by kernel_rfl) (by kernel_rfl) (fun _ _ _ h => h) (Or.inl ⟨by rfl, ?_⟩) (by assumption) ?_
    rotate_left
    · (intro W hSW; (try dsimp only at hSW); go_simp; try (with_reducible rfl))
    try simp only [Act.put]
    try simp only [List.setIfInBounds_toArray]
    try simp only [List.set_cons_zero, List.set_cons_succ]
    refine takeH6 (i := 2) (d := 75) (v := ?_) rfl rfl (by kernel_rfl) (by kernel_rfl) (by kernel_rfl) (fun _ _ _ h => h) (Or.inl ⟨by rfl, ?_⟩) (by assumption) ?_
    rotate_left
    · (intro W hSW; (try dsimp only at hSW); go_simp; try (with_reducible rfl))
    try simp only [Act.put]
    try simp only [List.setIfInBounds_toArray]
    try simp only [List.set_cons_zero, List.set_cons_succ]
    refine wpAnyH_take (i := 3) (oi := _) (v := _) rfl (by kernel_rfl) (by kernel_rfl) (by kernel_rfl) (fun _ _ _ h => h) (yieldsIf_load_mid (by rfl) 40 _ rfl w.heap.size 38 rfl _ _ (unhide kP4) Tryz.underlying40 rfl (by kernel_rfl)) (by assumption) ?_
    try simp only [Act.put]
    try simp only [List.setIfInBounds_toArray]
    try simp only [List.set_cons_zero, List.set_cons_succ]
    refine wpAnyH_take (i := 5) (oi := _) (v := _) rfl (by kernel_rfl) (by kernel_rfl) (by kernel_rfl) (fun _ _ _ h => h) (yieldsIf_load_mid (by rfl) 44 _ rfl w.heap.size 0 rfl _ _ (unhide kL) Tryz.underlying44 rfl (by kernel_rfl)) (by assumption) ?_
    try simp only [Act.put]
    try simp only [List.setIfInBounds_toArray]
    try simp only [List.set_cons_zero, List.set_cons_succ]
    refine wpAnyH_ready (rs := [4]) (by kernel_rfl) (by simp) ?_
    refine AllReadyH.cons (o := _) rfl (fun K hK => ?_) AllReadyH.nil
    go_simp
    (go_at_call 15; refine (unhide ph _ ?_).mono ?_; with_reducible assumption; rintro e w9 ⟨rfl, hw9⟩)
    refine hK.out _ _ ?_ (fun hHeld1 => ?_)
    · (try dsimp only)
      (refine unhide kcall _ _ ?_ (by assumption); with_reducible assumption)
    clear hK K hHeld0 hw9
    try simp only [Act.put]
    try simp only [List.setIfInBounds_toArray]
    try simp only [List.set_cons_zero, List.set_cons_succ]
    refine wpAnyH_ready (rs := [6]) (by kernel_rfl) (by simp) ?_
    refine AllReadyH.cons (o := _) rfl (fun K hK => ?_) AllReadyH.nil
    go_simp
    (go_at_call 11; refine (unhide Rh _ ?_).mono ?_; with_reducible assumption; rintro e w9 ⟨rfl, hw9⟩)
    refine hK.out _ _ ?_ (fun hHeld2 => ?_)
    · (try dsimp only)
      (refine unhide kcall _ _ ?_ (by assumption); with_reducible assumption)
    clear hK K hHeld1 hw9
    try simp only [Act.put]
    try simp only [List.setIfInBounds_toArray]
    try simp only [List.set_cons_zero, List.set_cons_succ]
    refine takeH6 (i := 7) (d := 80) (v := ?_) rfl rfl (by kernel_rfl) (by kernel_rfl) (by kernel_rfl) (fun _ _ _ h => h) (Or.inl ⟨by rfl, ?_⟩) (by assumption) ?_
    rotate_left
    · (intro W hSW; (try dsimp only at hSW); go_simp; try (with_reducible rfl))
    try simp only [Act.put]
    try simp only [List.setIfInBounds_toArray]
    try simp only [List.set_cons_zero, List.set_cons_succ]
    refine takeH6 (i := 8) (d := 81) (v := ?_) rfl rfl (by kernel_rfl) (by kernel_rfl) (by kernel_rfl) (fun _ _ _ h => h) (Or.inl ⟨by rfl, ?_⟩) (by assumption) ?_
    rotate_left
    · (intro W hSW; (try dsimp only at hSW); go_simp; try (with_reducible rfl))
    try simp only [Act.put]
    try simp only [List.setIfInBounds_toArray]
    try simp only [List.set_cons_zero, List.set_cons_succ]
    refine takeH6 (i := 9) (d := 2) (v := ?_) rfl rfl (by kernel_rfl) (by kernel_rfl) (by kernel_rfl) (fun _ _ _ h => h) (Or.inl ⟨by rfl, ?_⟩) (by assumption) ?_
    rotate_left
    · (intro W hSW; (try dsimp only at hSW); go_simp; try (with_reducible rfl))
    try simp only [Act.put]
    try simp only [List.setIfInBounds_toArray]
    try simp only [List.set_cons_zero, List.set_cons_succ]
    refine wpAnyH_done (by kernel_rfl) ?_ _
    refine NoPanic.normal ?_
    have hHeld := hHeld2
    clear hHeld2
    go_wp2_with fail
    go_ret
    exact ⟨by first | rfl | simp, unhide kgr _ hHeld⟩
  have d4 : (k == 4) = false := by rw [beq_eq_false_iff_ne]; omega
  clear e4
  go_wp2_with fail
  go_ret
  exact ⟨by first | rfl | simp, unhide kgr _ hHeld⟩
end Go.Proofs.YthaldbjnnbllbaaGreatDoor.objectChecks
