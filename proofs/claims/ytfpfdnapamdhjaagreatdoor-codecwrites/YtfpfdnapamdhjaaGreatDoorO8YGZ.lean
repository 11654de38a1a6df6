/- Layer 8: the law's Of,the document's Check,by kinds -/
import Derived.Test.YtfpfdnapamdhjaaGreatDoorO8UGZ
namespace Go.Proofs.YtfpfdnapamdhjaaGreatDoor
open Go.RowKit Suf Val

set_option maxRecDepth 100000 in
set_option maxHeartbeats 16000000 in
theorem of_1 (q1 q2 q3 q4 q5 q6 q7 q8 q9 q10 q11 q12 q13 q14 q15 q16 q17 q18 q19 q20 q21 q22 q23 q24 q25 q26 q27 q28 q29 q30 q31 q32 q33 q34 q35 q36 q37 q38 q39 q40 q41 q42 q43 q44 q45 q46 q47 q48 q49 : Value) (w : World) : Calls Tryz.prog 9 #[.agg #[.int .i64 1,q1,q2,q3,q4,q5,q6,q7,q8,q9,q10,q11,q12,q13,q14,q15,q16,q17,q18,q19,q20,q21,q22,q23,q24,q25,q26,q27,q28,q29,q30,q31,q32,q33,q34,q35,q36,q37,q38,q39,q40,q41,q42,q43,q44,q45,q46,q47,q48,q49]] w fun e w' => e = .returned (.iface 29 (.agg #[q1,q2,q3,q4,q5,q6,q7,q8,q9,q10,q11,q12])) /\ Below w.heap.size w w' := by
  go_enter Tryz.func9,Tryz.ntmps9
  go_wp2_with fail
  go_ret
  exact ⟨rfl,boxb _⟩
set_option maxRecDepth 100000 in
set_option maxHeartbeats 16000000 in
theorem of_2 (q1 q2 q3 q4 q5 q6 q7 q8 q9 q10 q11 q12 q13 q14 q15 q16 q17 q18 q19 q20 q21 q22 q23 q24 q25 q26 q27 q28 q29 q30 q31 q32 q33 q34 q35 q36 q37 q38 q39 q40 q41 q42 q43 q44 q45 q46 q47 q48 q49 : Value) (w : World) : Calls Tryz.prog 9 #[.agg #[.int .i64 2,q1,q2,q3,q4,q5,q6,q7,q8,q9,q10,q11,q12,q13,q14,q15,q16,q17,q18,q19,q20,q21,q22,q23,q24,q25,q26,q27,q28,q29,q30,q31,q32,q33,q34,q35,q36,q37,q38,q39,q40,q41,q42,q43,q44,q45,q46,q47,q48,q49]] w fun e w' => e = .returned (.iface 32 (.agg #[q13,q14,q15,q16,q17,q18,q19,q20,q21,q22])) /\ Below w.heap.size w w' := by
  go_enter Tryz.func9,Tryz.ntmps9
  go_wp2_with fail
  go_ret
  exact ⟨rfl,boxb _⟩
set_option maxRecDepth 100000 in
set_option maxHeartbeats 16000000 in
theorem of_3 (q1 q2 q3 q4 q5 q6 q7 q8 q9 q10 q11 q12 q13 q14 q15 q16 q17 q18 q19 q20 q21 q22 q23 q24 q25 q26 q27 q28 q29 q30 q31 q32 q33 q34 q35 q36 q37 q38 q39 q40 q41 q42 q43 q44 q45 q46 q47 q48 q49 : Value) (w : World) : Calls Tryz.prog 9 #[.agg #[.int .i64 3,q1,q2,q3,q4,q5,q6,q7,q8,q9,q10,q11,q12,q13,q14,q15,q16,q17,q18,q19,q20,q21,q22,q23,q24,q25,q26,q27,q28,q29,q30,q31,q32,q33,q34,q35,q36,q37,q38,q39,q40,q41,q42,q43,q44,q45,q46,q47,q48,q49]] w fun e w' => e = .returned (.iface 37 (.agg #[q23,q24,q25,q26,q27,q28,q29,q30,q31,q32,q33,q34,q35,q36,q37])) /\ Below w.heap.size w w' := by
  go_enter Tryz.func9,Tryz.ntmps9
  go_wp2_with fail
  go_ret
  exact ⟨rfl,boxb _⟩
set_option maxRecDepth 100000 in
set_option maxHeartbeats 16000000 in
theorem of_4 (q1 q2 q3 q4 q5 q6 q7 q8 q9 q10 q11 q12 q13 q14 q15 q16 q17 q18 q19 q20 q21 q22 q23 q24 q25 q26 q27 q28 q29 q30 q31 q32 q33 q34 q35 q36 q37 q38 q39 q40 q41 q42 q43 q44 q45 q46 q47 q48 q49 : Value) (w : World) : Calls Tryz.prog 9 #[.agg #[.int .i64 4,q1,q2,q3,q4,q5,q6,q7,q8,q9,q10,q11,q12,q13,q14,q15,q16,q17,q18,q19,q20,q21,q22,q23,q24,q25,q26,q27,q28,q29,q30,q31,q32,q33,q34,q35,q36,q37,q38,q39,q40,q41,q42,q43,q44,q45,q46,q47,q48,q49]] w fun e w' => e = .returned (.iface 40 (.agg #[q38,q39,q40,q41,q42,q43,q44,q45])) /\ Below w.heap.size w w' := by
  go_enter Tryz.func9,Tryz.ntmps9
  go_wp2_with fail
  go_ret
  exact ⟨rfl,boxb _⟩
set_option maxRecDepth 100000 in
set_option maxHeartbeats 16000000 in
theorem of_5 (q1 q2 q3 q4 q5 q6 q7 q8 q9 q10 q11 q12 q13 q14 q15 q16 q17 q18 q19 q20 q21 q22 q23 q24 q25 q26 q27 q28 q29 q30 q31 q32 q33 q34 q35 q36 q37 q38 q39 q40 q41 q42 q43 q44 q45 q46 q47 q48 q49 : Value) (w : World) : Calls Tryz.prog 9 #[.agg #[.int .i64 5,q1,q2,q3,q4,q5,q6,q7,q8,q9,q10,q11,q12,q13,q14,q15,q16,q17,q18,q19,q20,q21,q22,q23,q24,q25,q26,q27,q28,q29,q30,q31,q32,q33,q34,q35,q36,q37,q38,q39,q40,q41,q42,q43,q44,q45,q46,q47,q48,q49]] w fun e w' => e = .returned (.iface 42 (.agg #[q46,q47,q48,q49])) /\ Below w.heap.size w w' := by
  go_enter Tryz.func9,Tryz.ntmps9
  go_wp2_with fail
  go_ret
  exact ⟨rfl,boxb _⟩
set_option maxRecDepth 100000 in
set_option maxHeartbeats 16000000 in
theorem of_0 (k : Int) (hk : ¬ k = 1 /\ ¬ k = 2 /\ ¬ k = 3 /\ ¬ k = 4 /\ ¬ k = 5) (q1 q2 q3 q4 q5 q6 q7 q8 q9 q10 q11 q12 q13 q14 q15 q16 q17 q18 q19 q20 q21 q22 q23 q24 q25 q26 q27 q28 q29 q30 q31 q32 q33 q34 q35 q36 q37 q38 q39 q40 q41 q42 q43 q44 q45 q46 q47 q48 q49 : Value) (w : World) : Calls Tryz.prog 9 #[.agg #[.int .i64 k,q1,q2,q3,q4,q5,q6,q7,q8,q9,q10,q11,q12,q13,q14,q15,q16,q17,q18,q19,q20,q21,q22,q23,q24,q25,q26,q27,q28,q29,q30,q31,q32,q33,q34,q35,q36,q37,q38,q39,q40,q41,q42,q43,q44,q45,q46,q47,q48,q49]] w fun e w' => e = .returned (.iface 3 (.int .i64 k)) /\ Below w.heap.size w w' := by
  obtain ⟨e1,e2,e3,e4,e5⟩ := hk
  have d1 : (k == 1) = false := by rw [beq_eq_false_iff_ne]; omega
  have d2 : (k == 2) = false := by rw [beq_eq_false_iff_ne]; omega
  have d3 : (k == 3) = false := by rw [beq_eq_false_iff_ne]; omega
  have d4 : (k == 4) = false := by rw [beq_eq_false_iff_ne]; omega
  have d5 : (k == 5) = false := by rw [beq_eq_false_iff_ne]; omega
  go_enter Tryz.func9,Tryz.ntmps9
  go_wp2_with fail
  go_ret
  exact ⟨rfl,boxb _⟩
set_option maxRecDepth 100000 in
set_option maxHeartbeats 16000000 in
theorem rck_1 (q1 q2 q3 q4 q5 q6 q7 q8 q9 q10 q11 q12 q13 q14 q15 q16 q17 q18 q19 q20 q21 q22 q23 q24 q25 q26 q27 q28 q29 q30 q31 q32 q33 q34 q35 q36 q37 q38 q39 q40 q41 q42 q43 q44 q45 q46 q47 q48 q49 : Value) (z : Int) (w : World) (hC : ∀ V,Below w.heap.size w V -> Calls Tryz.prog 38 #[.agg #[q1,q2,q3,q4,q5,q6,q7,q8,q9,q10,q11,q12]] V fun e w' => e = .returned (.int .i64 z) /\ Below V.heap.size V w') :
    Calls Tryz.prog 17 #[.agg #[.int .i64 1,q1,q2,q3,q4,q5,q6,q7,q8,q9,q10,q11,q12,q13,q14,q15,q16,q17,q18,q19,q20,q21,q22,q23,q24,q25,q26,q27,q28,q29,q30,q31,q32,q33,q34,q35,q36,q37,q38,q39,q40,q41,q42,q43,q44,q45,q46,q47,q48,q49]] w fun e w' => e = .returned (.int .i64 z) /\ Below w.heap.size w w' := by
  have HC := hide hC
  have B1 := hide (boxb (w := w) (.cells #[.int .i64 1,q1,q2,q3,q4,q5,q6,q7,q8,q9,q10,q11,q12,q13,q14,q15,q16,q17,q18,q19,q20,q21,q22,q23,q24,q25,q26,q27,q28,q29,q30,q31,q32,q33,q34,q35,q36,q37,q38,q39,q40,q41,q42,q43,q44,q45,q46,q47,q48,q49] 44))
  clear hC
  go_enter Tryz.func17,Tryz.ntmps17
  go_wp2_with fail
  refine (unhide HC _ (unhide B1)).mono ?_
  rintro e w9 ⟨rfl,hw9⟩
  have B2 := hide (chain (unhide B1) hw9)
  clear hw9 B1
  go_wp2_with fail
  go_ret
  exact ⟨rfl,unhide B2⟩
set_option maxRecDepth 100000 in
set_option maxHeartbeats 16000000 in
theorem rck_2 (q1 q2 q3 q4 q5 q6 q7 q8 q9 q10 q11 q12 q13 q14 q15 q16 q17 q18 q19 q20 q21 q22 q23 q24 q25 q26 q27 q28 q29 q30 q31 q32 q33 q34 q35 q36 q37 q38 q39 q40 q41 q42 q43 q44 q45 q46 q47 q48 q49 : Value) (z : Int) (w : World) (hC : ∀ V,Below w.heap.size w V -> Calls Tryz.prog 39 #[.agg #[q13,q14,q15,q16,q17,q18,q19,q20,q21,q22]] V fun e w' => e = .returned (.int .i64 z) /\ Below V.heap.size V w') :
    Calls Tryz.prog 17 #[.agg #[.int .i64 2,q1,q2,q3,q4,q5,q6,q7,q8,q9,q10,q11,q12,q13,q14,q15,q16,q17,q18,q19,q20,q21,q22,q23,q24,q25,q26,q27,q28,q29,q30,q31,q32,q33,q34,q35,q36,q37,q38,q39,q40,q41,q42,q43,q44,q45,q46,q47,q48,q49]] w fun e w' => e = .returned (.int .i64 z) /\ Below w.heap.size w w' := by
  have HC := hide hC
  have B1 := hide (boxb (w := w) (.cells #[.int .i64 2,q1,q2,q3,q4,q5,q6,q7,q8,q9,q10,q11,q12,q13,q14,q15,q16,q17,q18,q19,q20,q21,q22,q23,q24,q25,q26,q27,q28,q29,q30,q31,q32,q33,q34,q35,q36,q37,q38,q39,q40,q41,q42,q43,q44,q45,q46,q47,q48,q49] 44))
  clear hC
  go_enter Tryz.func17,Tryz.ntmps17
  go_wp2_with fail
  refine (unhide HC _ (unhide B1)).mono ?_
  rintro e w9 ⟨rfl,hw9⟩
  have B2 := hide (chain (unhide B1) hw9)
  clear hw9 B1
  go_wp2_with fail
  go_ret
  exact ⟨rfl,unhide B2⟩
set_option maxRecDepth 100000 in
set_option maxHeartbeats 16000000 in
theorem rck_3 (q1 q2 q3 q4 q5 q6 q7 q8 q9 q10 q11 q12 q13 q14 q15 q16 q17 q18 q19 q20 q21 q22 q23 q24 q25 q26 q27 q28 q29 q30 q31 q32 q33 q34 q35 q36 q37 q38 q39 q40 q41 q42 q43 q44 q45 q46 q47 q48 q49 : Value) (z : Int) (w : World) (hC : ∀ V,Below w.heap.size w V -> Calls Tryz.prog 40 #[.agg #[q23,q24,q25,q26,q27,q28,q29,q30,q31,q32,q33,q34,q35,q36,q37]] V fun e w' => e = .returned (.int .i64 z) /\ Below V.heap.size V w') :
    Calls Tryz.prog 17 #[.agg #[.int .i64 3,q1,q2,q3,q4,q5,q6,q7,q8,q9,q10,q11,q12,q13,q14,q15,q16,q17,q18,q19,q20,q21,q22,q23,q24,q25,q26,q27,q28,q29,q30,q31,q32,q33,q34,q35,q36,q37,q38,q39,q40,q41,q42,q43,q44,q45,q46,q47,q48,q49]] w fun e w' => e = .returned (.int .i64 z) /\ Below w.heap.size w w' := by
  have HC := hide hC
  have B1 := hide (boxb (w := w) (.cells #[.int .i64 3,q1,q2,q3,q4,q5,q6,q7,q8,q9,q10,q11,q12,q13,q14,q15,q16,q17,q18,q19,q20,q21,q22,q23,q24,q25,q26,q27,q28,q29,q30,q31,q32,q33,q34,q35,q36,q37,q38,q39,q40,q41,q42,q43,q44,q45,q46,q47,q48,q49] 44))
  clear hC
  go_enter Tryz.func17,Tryz.ntmps17
  go_wp2_with fail
  refine (unhide HC _ (unhide B1)).mono ?_
  rintro e w9 ⟨rfl,hw9⟩
  have B2 := hide (chain (unhide B1) hw9)
  clear hw9 B1
  go_wp2_with fail
  go_ret
  exact ⟨rfl,unhide B2⟩
set_option maxRecDepth 100000 in
set_option maxHeartbeats 16000000 in
theorem rck_4 (q1 q2 q3 q4 q5 q6 q7 q8 q9 q10 q11 q12 q13 q14 q15 q16 q17 q18 q19 q20 q21 q22 q23 q24 q25 q26 q27 q28 q29 q30 q31 q32 q33 q34 q35 q36 q37 q38 q39 q40 q41 q42 q43 q44 q45 q46 q47 q48 q49 : Value) (z : Int) (w : World) (hC : ∀ V,Below w.heap.size w V -> Calls Tryz.prog 41 #[.agg #[q38,q39,q40,q41,q42,q43,q44,q45]] V fun e w' => e = .returned (.int .i64 z) /\ Below V.heap.size V w') :
    Calls Tryz.prog 17 #[.agg #[.int .i64 4,q1,q2,q3,q4,q5,q6,q7,q8,q9,q10,q11,q12,q13,q14,q15,q16,q17,q18,q19,q20,q21,q22,q23,q24,q25,q26,q27,q28,q29,q30,q31,q32,q33,q34,q35,q36,q37,q38,q39,q40,q41,q42,q43,q44,q45,q46,q47,q48,q49]] w fun e w' => e = .returned (.int .i64 z) /\ Below w.heap.size w w' := by
  have HC := hide hC
  have B1 := hide (boxb (w := w) (.cells #[.int .i64 4,q1,q2,q3,q4,q5,q6,q7,q8,q9,q10,q11,q12,q13,q14,q15,q16,q17,q18,q19,q20,q21,q22,q23,q24,q25,q26,q27,q28,q29,q30,q31,q32,q33,q34,q35,q36,q37,q38,q39,q40,q41,q42,q43,q44,q45,q46,q47,q48,q49] 44))
  clear hC
  go_enter Tryz.func17,Tryz.ntmps17
  go_wp2_with fail
  refine (unhide HC _ (unhide B1)).mono ?_
  rintro e w9 ⟨rfl,hw9⟩
  have B2 := hide (chain (unhide B1) hw9)
  clear hw9 B1
  go_wp2_with fail
  go_ret
  exact ⟨rfl,unhide B2⟩
set_option maxRecDepth 100000 in
set_option maxHeartbeats 16000000 in
theorem rck_5 (q1 q2 q3 q4 q5 q6 q7 q8 q9 q10 q11 q12 q13 q14 q15 q16 q17 q18 q19 q20 q21 q22 q23 q24 q25 q26 q27 q28 q29 q30 q31 q32 q33 q34 q35 q36 q37 q38 q39 q40 q41 q42 q43 q44 q45 q46 q47 q48 q49 : Value) (z : Int) (w : World) (hC : ∀ (V : World) (B : Nat),V.cell? ⟨B,0,none⟩ = some q46 -> V.cell? ⟨B,1,none⟩ = some q47 -> V.cell? ⟨B,2,none⟩ = some q48 -> V.cell? ⟨B,3,none⟩ = some q49 -> Calls Tryz.prog 42 #[.slice (some ⟨B,0,none⟩) 1 1] V fun e w' => e = .returned (.int .i64 z) /\ Below V.heap.size V w') :
    Calls Tryz.prog 17 #[.agg #[.int .i64 5,q1,q2,q3,q4,q5,q6,q7,q8,q9,q10,q11,q12,q13,q14,q15,q16,q17,q18,q19,q20,q21,q22,q23,q24,q25,q26,q27,q28,q29,q30,q31,q32,q33,q34,q35,q36,q37,q38,q39,q40,q41,q42,q43,q44,q45,q46,q47,q48,q49]] w fun e w' => e = .returned (.int .i64 z) /\ Below w.heap.size w w' := by
  have HC := hide hC
  have B1 := hide (chain (boxb (w := w) (.cells #[.int .i64 5,q1,q2,q3,q4,q5,q6,q7,q8,q9,q10,q11,q12,q13,q14,q15,q16,q17,q18,q19,q20,q21,q22,q23,q24,q25,q26,q27,q28,q29,q30,q31,q32,q33,q34,q35,q36,q37,q38,q39,q40,q41,q42,q43,q44,q45,q46,q47,q48,q49] 44)) (boxb (.cells #[q46,q47,q48,q49] 42)))
  clear hC
  go_enter Tryz.func17,Tryz.ntmps17
  go_wp2_with fail
  refine (unhide HC _ _ (by simp [go_sem]) (by simp [go_sem]) (by simp [go_sem]) (by simp [go_sem])).mono ?_
  rintro e w9 ⟨rfl,hw9⟩
  have B2 := hide (chain (unhide B1) hw9)
  clear hw9 B1
  go_wp2_with fail
  go_ret
  exact ⟨rfl,unhide B2⟩
set_option maxRecDepth 100000 in
set_option maxHeartbeats 16000000 in
theorem rck_0 (k : Int) (hk : ¬ k = 1 /\ ¬ k = 2 /\ ¬ k = 3 /\ ¬ k = 4 /\ ¬ k = 5) (q1 q2 q3 q4 q5 q6 q7 q8 q9 q10 q11 q12 q13 q14 q15 q16 q17 q18 q19 q20 q21 q22 q23 q24 q25 q26 q27 q28 q29 q30 q31 q32 q33 q34 q35 q36 q37 q38 q39 q40 q41 q42 q43 q44 q45 q46 q47 q48 q49 : Value) (w : World) :
    Calls Tryz.prog 17 #[.agg #[.int .i64 k,q1,q2,q3,q4,q5,q6,q7,q8,q9,q10,q11,q12,q13,q14,q15,q16,q17,q18,q19,q20,q21,q22,q23,q24,q25,q26,q27,q28,q29,q30,q31,q32,q33,q34,q35,q36,q37,q38,q39,q40,q41,q42,q43,q44,q45,q46,q47,q48,q49]] w fun e w' => e = .returned (.int .i64 1) /\ Below w.heap.size w w' := by
  obtain ⟨e1,e2,e3,e4,e5⟩ := hk
  have d1 : (k == 1) = false := by rw [beq_eq_false_iff_ne]; omega
  have d2 : (k == 2) = false := by rw [beq_eq_false_iff_ne]; omega
  have d3 : (k == 3) = false := by rw [beq_eq_false_iff_ne]; omega
  have d4 : (k == 4) = false := by rw [beq_eq_false_iff_ne]; omega
  have d5 : (k == 5) = false := by rw [beq_eq_false_iff_ne]; omega
  go_enter Tryz.func17,Tryz.ntmps17
  go_wp2_with fail
  go_ret
  exact ⟨rfl,boxb _⟩
end Go.Proofs.YtfpfdnapamdhjaaGreatDoor
