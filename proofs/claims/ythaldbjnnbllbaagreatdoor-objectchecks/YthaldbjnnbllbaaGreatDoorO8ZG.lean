/- Layer 8: the document's Name, by kinds -/
import Derived.Test.YthaldbjnnbllbaaGreatDoorO8YG
import Derived.Deep.MidRow
import Derived.Laws.Rows
import Derived.Deep.DeepCutAuto
import Derived.Deep.CutRange
namespace Go.Proofs.YthaldbjnnbllbaaGreatDoor
open Go.RowKit Suf Val

set_option maxRecDepth 100000 in
set_option maxHeartbeats 16000000 in
theorem rnm_1 (q2 q3 q4 q5 q6 q7 q8 q9 q10 q11 q12 q13 q14 q15 q16 q17 q18 q19 q20 q21 q22 q23 q24 q25 q26 q27 q28 q29 q30 q31 q32 q33 q34 q35 q36 q37 q38 q39 q40 q41 q42 q43 q44 q45 q46 q47 q48 q49 : Value) (z : Int) (w : World) (X : ByteArray) (hC : ∀ V, Below w.heap.size w V → Calls Tryz.prog 11 #[.agg #[.int .i64 1, .string X, q2, q3, q4, q5, q6, q7, q8, q9, q10, q11, q12, q13, q14, q15, q16, q17, q18, q19, q20, q21, q22, q23, q24, q25, q26, q27, q28, q29, q30, q31, q32, q33, q34, q35, q36, q37, q38, q39, q40, q41, q42, q43, q44, q45, q46, q47, q48, q49]] V fun e w' => e = .returned (.int .i64 z) ∧ Below V.heap.size V w') :
    Calls Tryz.prog 9 #[.agg #[.int .i64 1, .string X, q2, q3, q4, q5, q6, q7, q8, q9, q10, q11, q12, q13, q14, q15, q16, q17, q18, q19, q20, q21, q22, q23, q24, q25, q26, q27, q28, q29, q30, q31, q32, q33, q34, q35, q36, q37, q38, q39, q40, q41, q42, q43, q44, q45, q46, q47, q48, q49]] w fun e w' => e = .returned (.tuple #[.string (if z = 0 then X else ⟨#[]⟩), .int .i64 z]) ∧ Below w.heap.size w w' := by
  have HC := hide hC
  clear hC
  obtain ⟨W1, hW1⟩ : ∃ W, W = w.alloc (.cells #[.int .i64 1, .string X, q2, q3, q4, q5, q6, q7, q8, q9, q10, q11, q12, q13, q14, q15, q16, q17, q18, q19, q20, q21, q22, q23, q24, q25, q26, q27, q28, q29, q30, q31, q32, q33, q34, q35, q36, q37, q38, q39, q40, q41, q42, q43, q44, q45, q46, q47, q48, q49] 44) := ⟨_, rfl⟩
  have HH : Hid (RowAt w w.heap.size #[.int .i64 1, .string X, q2, q3, q4, q5, q6, q7, q8, q9, q10, q11, q12, q13, q14, q15, q16, q17, q18, q19, q20, q21, q22, q23, q24, q25, q26, q27, q28, q29, q30, q31, q32, q33, q34, q35, q36, q37, q38, q39, q40, q41, q42, q43, q44, q45, q46, q47, q48, q49] 44 W1) := by rw [hW1]; exact row_new _ _ _
  have GW := hide hW1
  clear hW1
  by_cases hz : z = 0
  · subst hz
    have hs : (if (0 : Int) = 0 then X else (⟨#[]⟩ : ByteArray)) = X := if_pos rfl
    rw [hs]
    clear hs
    go_enter Tryz.func9, Tryz.ntmps9
    go_upto_region 1 with fail
    refine wp_region_list ?_
    refine wpList_load_row rfl 44 _ rfl w.heap.size rfl 44 _ _ _ (World.alloc_heap_new w _) Tryz.underlying44 rfl (by kernel_rfl) ?_
    go_wp2_with fail
    rw [← unhide GW]
    refine (unhide HC _ (unhide HH).gr).mono ?_
    rintro e w9 ⟨rfl, hw9⟩
    replace HH := hide ((unhide HH).below hw9)
    clear hw9 GW HC
    have f0 := (unhide HH).at 0 rfl
    have f1 := (unhide HH).at 1 rfl
    go_wp2_with fail
    go_ret2
    exact ⟨rfl, (unhide HH).gr⟩
  · have hb := nz hz
    have hs : (if z = 0 then X else (⟨#[]⟩ : ByteArray)) = ⟨#[]⟩ := if_neg hz
    rw [hs]
    clear hs hz
    go_enter Tryz.func9, Tryz.ntmps9
    go_upto_region 1 with fail
    refine wp_region_list ?_
    refine wpList_load_row rfl 44 _ rfl w.heap.size rfl 44 _ _ _ (World.alloc_heap_new w _) Tryz.underlying44 rfl (by kernel_rfl) ?_
    go_wp2_with fail
    rw [← unhide GW]
    refine (unhide HC _ (unhide HH).gr).mono ?_
    rintro e w9 ⟨rfl, hw9⟩
    replace HH := hide ((unhide HH).below hw9)
    clear hw9 GW HC
    go_wp2_with fail
    go_ret2
    exact ⟨rfl, (unhide HH).gr⟩
set_option maxRecDepth 100000 in
set_option maxHeartbeats 16000000 in
theorem rnm_2 (q1 q2 q3 q4 q5 q6 q7 q8 q9 q10 q11 q12 q14 q15 q16 q17 q18 q19 q20 q21 q22 q23 q24 q25 q26 q27 q28 q29 q30 q31 q32 q33 q34 q35 q36 q37 q38 q39 q40 q41 q42 q43 q44 q45 q46 q47 q48 q49 : Value) (z : Int) (w : World) (X : ByteArray) (hC : ∀ V, Below w.heap.size w V → Calls Tryz.prog 11 #[.agg #[.int .i64 2, q1, q2, q3, q4, q5, q6, q7, q8, q9, q10, q11, q12, .string X, q14, q15, q16, q17, q18, q19, q20, q21, q22, q23, q24, q25, q26, q27, q28, q29, q30, q31, q32, q33, q34, q35, q36, q37, q38, q39, q40, q41, q42, q43, q44, q45, q46, q47, q48, q49]] V fun e w' => e = .returned (.int .i64 z) ∧ Below V.heap.size V w') :
    Calls Tryz.prog 9 #[.agg #[.int .i64 2, q1, q2, q3, q4, q5, q6, q7, q8, q9, q10, q11, q12, .string X, q14, q15, q16, q17, q18, q19, q20, q21, q22, q23, q24, q25, q26, q27, q28, q29, q30, q31, q32, q33, q34, q35, q36, q37, q38, q39, q40, q41, q42, q43, q44, q45, q46, q47, q48, q49]] w fun e w' => e = .returned (.tuple #[.string (if z = 0 then X else ⟨#[]⟩), .int .i64 z]) ∧ Below w.heap.size w w' := by
  have HC := hide hC
  clear hC
  obtain ⟨W1, hW1⟩ : ∃ W, W = w.alloc (.cells #[.int .i64 2, q1, q2, q3, q4, q5, q6, q7, q8, q9, q10, q11, q12, .string X, q14, q15, q16, q17, q18, q19, q20, q21, q22, q23, q24, q25, q26, q27, q28, q29, q30, q31, q32, q33, q34, q35, q36, q37, q38, q39, q40, q41, q42, q43, q44, q45, q46, q47, q48, q49] 44) := ⟨_, rfl⟩
  have HH : Hid (RowAt w w.heap.size #[.int .i64 2, q1, q2, q3, q4, q5, q6, q7, q8, q9, q10, q11, q12, .string X, q14, q15, q16, q17, q18, q19, q20, q21, q22, q23, q24, q25, q26, q27, q28, q29, q30, q31, q32, q33, q34, q35, q36, q37, q38, q39, q40, q41, q42, q43, q44, q45, q46, q47, q48, q49] 44 W1) := by rw [hW1]; exact row_new _ _ _
  have GW := hide hW1
  clear hW1
  by_cases hz : z = 0
  · subst hz
    have hs : (if (0 : Int) = 0 then X else (⟨#[]⟩ : ByteArray)) = X := if_pos rfl
    rw [hs]
    clear hs
    go_enter Tryz.func9, Tryz.ntmps9
    go_upto_region 1 with fail
    refine wp_region_list ?_
    refine wpList_load_row rfl 44 _ rfl w.heap.size rfl 44 _ _ _ (World.alloc_heap_new w _) Tryz.underlying44 rfl (by kernel_rfl) ?_
    go_wp2_with fail
    rw [← unhide GW]
    refine (unhide HC _ (unhide HH).gr).mono ?_
    rintro e w9 ⟨rfl, hw9⟩
    replace HH := hide ((unhide HH).below hw9)
    clear hw9 GW HC
    have f0 := (unhide HH).at 0 rfl
    have f13 := (unhide HH).at 13 rfl
    go_wp2_with fail
    go_ret2
    exact ⟨rfl, (unhide HH).gr⟩
  · have hb := nz hz
    have hs : (if z = 0 then X else (⟨#[]⟩ : ByteArray)) = ⟨#[]⟩ := if_neg hz
    rw [hs]
    clear hs hz
    go_enter Tryz.func9, Tryz.ntmps9
    go_upto_region 1 with fail
    refine wp_region_list ?_
    refine wpList_load_row rfl 44 _ rfl w.heap.size rfl 44 _ _ _ (World.alloc_heap_new w _) Tryz.underlying44 rfl (by kernel_rfl) ?_
    go_wp2_with fail
    rw [← unhide GW]
    refine (unhide HC _ (unhide HH).gr).mono ?_
    rintro e w9 ⟨rfl, hw9⟩
    replace HH := hide ((unhide HH).below hw9)
    clear hw9 GW HC
    go_wp2_with fail
    go_ret2
    exact ⟨rfl, (unhide HH).gr⟩
set_option maxRecDepth 100000 in
set_option maxHeartbeats 16000000 in
theorem rnm_3 (q1 q2 q3 q4 q5 q6 q7 q8 q9 q10 q11 q12 q13 q14 q15 q16 q17 q18 q19 q20 q21 q22 q24 q25 q26 q27 q28 q29 q30 q31 q32 q33 q34 q35 q36 q37 q38 q39 q40 q41 q42 q43 q44 q45 q46 q47 q48 q49 : Value) (z : Int) (w : World) (X : ByteArray) (hC : ∀ V, Below w.heap.size w V → Calls Tryz.prog 11 #[.agg #[.int .i64 3, q1, q2, q3, q4, q5, q6, q7, q8, q9, q10, q11, q12, q13, q14, q15, q16, q17, q18, q19, q20, q21, q22, .string X, q24, q25, q26, q27, q28, q29, q30, q31, q32, q33, q34, q35, q36, q37, q38, q39, q40, q41, q42, q43, q44, q45, q46, q47, q48, q49]] V fun e w' => e = .returned (.int .i64 z) ∧ Below V.heap.size V w') :
    Calls Tryz.prog 9 #[.agg #[.int .i64 3, q1, q2, q3, q4, q5, q6, q7, q8, q9, q10, q11, q12, q13, q14, q15, q16, q17, q18, q19, q20, q21, q22, .string X, q24, q25, q26, q27, q28, q29, q30, q31, q32, q33, q34, q35, q36, q37, q38, q39, q40, q41, q42, q43, q44, q45, q46, q47, q48, q49]] w fun e w' => e = .returned (.tuple #[.string (if z = 0 then X else ⟨#[]⟩), .int .i64 z]) ∧ Below w.heap.size w w' := by
  have HC := hide hC
  clear hC
  obtain ⟨W1, hW1⟩ : ∃ W, W = w.alloc (.cells #[.int .i64 3, q1, q2, q3, q4, q5, q6, q7, q8, q9, q10, q11, q12, q13, q14, q15, q16, q17, q18, q19, q20, q21, q22, .string X, q24, q25, q26, q27, q28, q29, q30, q31, q32, q33, q34, q35, q36, q37, q38, q39, q40, q41, q42, q43, q44, q45, q46, q47, q48, q49] 44) := ⟨_, rfl⟩
  have HH : Hid (RowAt w w.heap.size #[.int .i64 3, q1, q2, q3, q4, q5, q6, q7, q8, q9, q10, q11, q12, q13, q14, q15, q16, q17, q18, q19, q20, q21, q22, .string X, q24, q25, q26, q27, q28, q29, q30, q31, q32, q33, q34, q35, q36, q37, q38, q39, q40, q41, q42, q43, q44, q45, q46, q47, q48, q49] 44 W1) := by rw [hW1]; exact row_new _ _ _
  have GW := hide hW1
  clear hW1
  by_cases hz : z = 0
  · subst hz
    have hs : (if (0 : Int) = 0 then X else (⟨#[]⟩ : ByteArray)) = X := if_pos rfl
    rw [hs]
    clear hs
    go_enter Tryz.func9, Tryz.ntmps9
    go_upto_region 1 with fail
    refine wp_region_list ?_
    refine wpList_load_row rfl 44 _ rfl w.heap.size rfl 44 _ _ _ (World.alloc_heap_new w _) Tryz.underlying44 rfl (by kernel_rfl) ?_
    go_wp2_with fail
    rw [← unhide GW]
    refine (unhide HC _ (unhide HH).gr).mono ?_
    rintro e w9 ⟨rfl, hw9⟩
    replace HH := hide ((unhide HH).below hw9)
    clear hw9 GW HC
    have f0 := (unhide HH).at 0 rfl
    have f23 := (unhide HH).at 23 rfl
    go_wp2_with fail
    go_ret2
    exact ⟨rfl, (unhide HH).gr⟩
  · have hb := nz hz
    have hs : (if z = 0 then X else (⟨#[]⟩ : ByteArray)) = ⟨#[]⟩ := if_neg hz
    rw [hs]
    clear hs hz
    go_enter Tryz.func9, Tryz.ntmps9
    go_upto_region 1 with fail
    refine wp_region_list ?_
    refine wpList_load_row rfl 44 _ rfl w.heap.size rfl 44 _ _ _ (World.alloc_heap_new w _) Tryz.underlying44 rfl (by kernel_rfl) ?_
    go_wp2_with fail
    rw [← unhide GW]
    refine (unhide HC _ (unhide HH).gr).mono ?_
    rintro e w9 ⟨rfl, hw9⟩
    replace HH := hide ((unhide HH).below hw9)
    clear hw9 GW HC
    go_wp2_with fail
    go_ret2
    exact ⟨rfl, (unhide HH).gr⟩
set_option maxRecDepth 100000 in
set_option maxHeartbeats 16000000 in
theorem rnm_4 (q1 q2 q3 q4 q5 q6 q7 q8 q9 q10 q11 q12 q13 q14 q15 q16 q17 q18 q19 q20 q21 q22 q23 q24 q25 q26 q27 q28 q29 q30 q31 q32 q33 q34 q35 q36 q37 q38 q39 q40 q41 q42 q43 q44 q45 q46 q47 q48 q49 : Value) (z : Int) (w : World) (hC : ∀ V, Below w.heap.size w V → Calls Tryz.prog 11 #[.agg #[.int .i64 4, q1, q2, q3, q4, q5, q6, q7, q8, q9, q10, q11, q12, q13, q14, q15, q16, q17, q18, q19, q20, q21, q22, q23, q24, q25, q26, q27, q28, q29, q30, q31, q32, q33, q34, q35, q36, q37, q38, q39, q40, q41, q42, q43, q44, q45, q46, q47, q48, q49]] V fun e w' => e = .returned (.int .i64 z) ∧ Below V.heap.size V w') :
    Calls Tryz.prog 9 #[.agg #[.int .i64 4, q1, q2, q3, q4, q5, q6, q7, q8, q9, q10, q11, q12, q13, q14, q15, q16, q17, q18, q19, q20, q21, q22, q23, q24, q25, q26, q27, q28, q29, q30, q31, q32, q33, q34, q35, q36, q37, q38, q39, q40, q41, q42, q43, q44, q45, q46, q47, q48, q49]] w fun e w' => e = .returned (.tuple #[.string (if z = 0 then ⟨#[99, 111, 109, 109, 97, 110, 100]⟩ else ⟨#[]⟩), .int .i64 z]) ∧ Below w.heap.size w w' := by
  have HC := hide hC
  clear hC
  obtain ⟨W1, hW1⟩ : ∃ W, W = w.alloc (.cells #[.int .i64 4, q1, q2, q3, q4, q5, q6, q7, q8, q9, q10, q11, q12, q13, q14, q15, q16, q17, q18, q19, q20, q21, q22, q23, q24, q25, q26, q27, q28, q29, q30, q31, q32, q33, q34, q35, q36, q37, q38, q39, q40, q41, q42, q43, q44, q45, q46, q47, q48, q49] 44) := ⟨_, rfl⟩
  have HH : Hid (RowAt w w.heap.size #[.int .i64 4, q1, q2, q3, q4, q5, q6, q7, q8, q9, q10, q11, q12, q13, q14, q15, q16, q17, q18, q19, q20, q21, q22, q23, q24, q25, q26, q27, q28, q29, q30, q31, q32, q33, q34, q35, q36, q37, q38, q39, q40, q41, q42, q43, q44, q45, q46, q47, q48, q49] 44 W1) := by rw [hW1]; exact row_new _ _ _
  have GW := hide hW1
  clear hW1
  by_cases hz : z = 0
  · subst hz
    have hs : (if (0 : Int) = 0 then ⟨#[99, 111, 109, 109, 97, 110, 100]⟩ else (⟨#[]⟩ : ByteArray)) = ⟨#[99, 111, 109, 109, 97, 110, 100]⟩ := if_pos rfl
    rw [hs]
    clear hs
    go_enter Tryz.func9, Tryz.ntmps9
    go_upto_region 1 with fail
    refine wp_region_list ?_
    refine wpList_load_row rfl 44 _ rfl w.heap.size rfl 44 _ _ _ (World.alloc_heap_new w _) Tryz.underlying44 rfl (by kernel_rfl) ?_
    go_wp2_with fail
    rw [← unhide GW]
    refine (unhide HC _ (unhide HH).gr).mono ?_
    rintro e w9 ⟨rfl, hw9⟩
    replace HH := hide ((unhide HH).below hw9)
    clear hw9 GW HC
    have f0 := (unhide HH).at 0 rfl
    go_wp2_with fail
    go_ret2
    exact ⟨rfl, (unhide HH).gr⟩
  · have hb := nz hz
    have hs : (if z = 0 then ⟨#[99, 111, 109, 109, 97, 110, 100]⟩ else (⟨#[]⟩ : ByteArray)) = ⟨#[]⟩ := if_neg hz
    rw [hs]
    clear hs hz
    go_enter Tryz.func9, Tryz.ntmps9
    go_upto_region 1 with fail
    refine wp_region_list ?_
    refine wpList_load_row rfl 44 _ rfl w.heap.size rfl 44 _ _ _ (World.alloc_heap_new w _) Tryz.underlying44 rfl (by kernel_rfl) ?_
    go_wp2_with fail
    rw [← unhide GW]
    refine (unhide HC _ (unhide HH).gr).mono ?_
    rintro e w9 ⟨rfl, hw9⟩
    replace HH := hide ((unhide HH).below hw9)
    clear hw9 GW HC
    go_wp2_with fail
    go_ret2
    exact ⟨rfl, (unhide HH).gr⟩
set_option maxRecDepth 100000 in
set_option maxHeartbeats 16000000 in
theorem rnm_5 (q1 q2 q3 q4 q5 q6 q7 q8 q9 q10 q11 q12 q13 q14 q15 q16 q17 q18 q19 q20 q21 q22 q23 q24 q25 q26 q27 q28 q29 q30 q31 q32 q33 q34 q35 q36 q37 q38 q39 q40 q41 q42 q43 q44 q45 q49 : Value) (z : Int) (w : World) (X0 X1 X2 : ByteArray) (s0 : X0.size ≤ 281474976710656) (s1 : X1.size ≤ 281474976710656) (s2 : X2.size ≤ 281474976710656) (hC : ∀ V, Below w.heap.size w V → Calls Tryz.prog 11 #[.agg #[.int .i64 5, q1, q2, q3, q4, q5, q6, q7, q8, q9, q10, q11, q12, q13, q14, q15, q16, q17, q18, q19, q20, q21, q22, q23, q24, q25, q26, q27, q28, q29, q30, q31, q32, q33, q34, q35, q36, q37, q38, q39, q40, q41, q42, q43, q44, q45, .string X0, .string X1, .string X2, q49]] V fun e w' => e = .returned (.int .i64 z) ∧ Below V.heap.size V w') :
    Calls Tryz.prog 9 #[.agg #[.int .i64 5, q1, q2, q3, q4, q5, q6, q7, q8, q9, q10, q11, q12, q13, q14, q15, q16, q17, q18, q19, q20, q21, q22, q23, q24, q25, q26, q27, q28, q29, q30, q31, q32, q33, q34, q35, q36, q37, q38, q39, q40, q41, q42, q43, q44, q45, .string X0, .string X1, .string X2, q49]] w fun e w' => e = .returned (.tuple #[.string (if z = 0 then (coolS X0 X1 X2) else ⟨#[]⟩), .int .i64 z]) ∧ Below w.heap.size w w' := by
  have HC := hide hC
  clear hC
  obtain ⟨d1, d2, d3, d4⟩ : X0.size + 1 ≤ 9223372036854775807 ∧ X0.size + 1 + X1.size ≤ 9223372036854775807 ∧ X0.size + 1 + X1.size + 1 ≤ 9223372036854775807 ∧ X0.size + 1 + X1.size + 1 + X2.size ≤ 9223372036854775807 := by omega
  clear s0 s1 s2
  obtain ⟨W1, hW1⟩ : ∃ W, W = w.alloc (.cells #[.int .i64 5, q1, q2, q3, q4, q5, q6, q7, q8, q9, q10, q11, q12, q13, q14, q15, q16, q17, q18, q19, q20, q21, q22, q23, q24, q25, q26, q27, q28, q29, q30, q31, q32, q33, q34, q35, q36, q37, q38, q39, q40, q41, q42, q43, q44, q45, .string X0, .string X1, .string X2, q49] 44) := ⟨_, rfl⟩
  have HH : Hid (RowAt w w.heap.size #[.int .i64 5, q1, q2, q3, q4, q5, q6, q7, q8, q9, q10, q11, q12, q13, q14, q15, q16, q17, q18, q19, q20, q21, q22, q23, q24, q25, q26, q27, q28, q29, q30, q31, q32, q33, q34, q35, q36, q37, q38, q39, q40, q41, q42, q43, q44, q45, .string X0, .string X1, .string X2, q49] 44 W1) := by rw [hW1]; exact row_new _ _ _
  have GW := hide hW1
  clear hW1
  by_cases hz : z = 0
  · subst hz
    have hs : (if (0 : Int) = 0 then (coolS X0 X1 X2) else (⟨#[]⟩ : ByteArray)) = (coolS X0 X1 X2) := if_pos rfl
    rw [hs]
    clear hs
    unfold coolS
    go_enter Tryz.func9, Tryz.ntmps9
    go_upto_region 1 with fail
    refine wp_region_list ?_
    refine wpList_load_row rfl 44 _ rfl w.heap.size rfl 44 _ _ _ (World.alloc_heap_new w _) Tryz.underlying44 rfl (by kernel_rfl) ?_
    go_wp2_with fail
    rw [← unhide GW]
    refine (unhide HC _ (unhide HH).gr).mono ?_
    rintro e w9 ⟨rfl, hw9⟩
    replace HH := hide ((unhide HH).below hw9)
    clear hw9 GW HC
    have f0 := (unhide HH).at 0 rfl
    have f46 := (unhide HH).at 46 rfl
    have f47 := (unhide HH).at 47 rfl
    have f48 := (unhide HH).at 48 rfl
    go_wp2_with fail
    go_ret2
    exact ⟨rfl, chain (unhide HH).gr (boxb _)⟩
  · have hb := nz hz
    have hs : (if z = 0 then (coolS X0 X1 X2) else (⟨#[]⟩ : ByteArray)) = ⟨#[]⟩ := if_neg hz
    rw [hs]
    clear hs hz
    go_enter Tryz.func9, Tryz.ntmps9
    go_upto_region 1 with fail
    refine wp_region_list ?_
    refine wpList_load_row rfl 44 _ rfl w.heap.size rfl 44 _ _ _ (World.alloc_heap_new w _) Tryz.underlying44 rfl (by kernel_rfl) ?_
    go_wp2_with fail
    rw [← unhide GW]
    refine (unhide HC _ (unhide HH).gr).mono ?_
    rintro e w9 ⟨rfl, hw9⟩
    replace HH := hide ((unhide HH).below hw9)
    clear hw9 GW HC
    go_wp2_with fail
    go_ret2
    exact ⟨rfl, (unhide HH).gr⟩
set_option maxRecDepth 100000 in
set_option maxHeartbeats 16000000 in
theorem rnm_0 (k : Int) (q1 q2 q3 q4 q5 q6 q7 q8 q9 q10 q11 q12 q13 q14 q15 q16 q17 q18 q19 q20 q21 q22 q23 q24 q25 q26 q27 q28 q29 q30 q31 q32 q33 q34 q35 q36 q37 q38 q39 q40 q41 q42 q43 q44 q45 q46 q47 q48 q49 : Value) (z : Int) (w : World) (hz1 : z = 1) (hC : ∀ V, Below w.heap.size w V → Calls Tryz.prog 11 #[.agg #[.int .i64 k, q1, q2, q3, q4, q5, q6, q7, q8, q9, q10, q11, q12, q13, q14, q15, q16, q17, q18, q19, q20, q21, q22, q23, q24, q25, q26, q27, q28, q29, q30, q31, q32, q33, q34, q35, q36, q37, q38, q39, q40, q41, q42, q43, q44, q45, q46, q47, q48, q49]] V fun e w' => e = .returned (.int .i64 z) ∧ Below V.heap.size V w') :
    Calls Tryz.prog 9 #[.agg #[.int .i64 k, q1, q2, q3, q4, q5, q6, q7, q8, q9, q10, q11, q12, q13, q14, q15, q16, q17, q18, q19, q20, q21, q22, q23, q24, q25, q26, q27, q28, q29, q30, q31, q32, q33, q34, q35, q36, q37, q38, q39, q40, q41, q42, q43, q44, q45, q46, q47, q48, q49]] w fun e w' => e = .returned (.tuple #[.string (if z = 0 then ⟨#[]⟩ else ⟨#[]⟩), .int .i64 z]) ∧ Below w.heap.size w w' := by
  have HC := hide hC
  clear hC
  subst hz1
  obtain ⟨W1, hW1⟩ : ∃ W, W = w.alloc (.cells #[.int .i64 k, q1, q2, q3, q4, q5, q6, q7, q8, q9, q10, q11, q12, q13, q14, q15, q16, q17, q18, q19, q20, q21, q22, q23, q24, q25, q26, q27, q28, q29, q30, q31, q32, q33, q34, q35, q36, q37, q38, q39, q40, q41, q42, q43, q44, q45, q46, q47, q48, q49] 44) := ⟨_, rfl⟩
  have HH : Hid (RowAt w w.heap.size #[.int .i64 k, q1, q2, q3, q4, q5, q6, q7, q8, q9, q10, q11, q12, q13, q14, q15, q16, q17, q18, q19, q20, q21, q22, q23, q24, q25, q26, q27, q28, q29, q30, q31, q32, q33, q34, q35, q36, q37, q38, q39, q40, q41, q42, q43, q44, q45, q46, q47, q48, q49] 44 W1) := by rw [hW1]; exact row_new _ _ _
  have GW := hide hW1
  clear hW1
  have hs : (if (1 : Int) = 0 then (⟨#[]⟩ : ByteArray) else ⟨#[]⟩) = ⟨#[]⟩ := if_neg (by decide)
  rw [hs]
  clear hs
  go_enter Tryz.func9, Tryz.ntmps9
  go_upto_region 1 with fail
  refine wp_region_list ?_
  refine wpList_load_row rfl 44 _ rfl w.heap.size rfl 44 _ _ _ (World.alloc_heap_new w _) Tryz.underlying44 rfl (by kernel_rfl) ?_
  go_wp2_with fail
  rw [← unhide GW]
  refine (unhide HC _ (unhide HH).gr).mono ?_
  rintro e w9 ⟨rfl, hw9⟩
  replace HH := hide ((unhide HH).below hw9)
  clear hw9 GW HC
  go_wp2_with fail
  go_ret2
  exact ⟨rfl, (unhide HH).gr⟩
end Go.Proofs.YthaldbjnnbllbaaGreatDoor
