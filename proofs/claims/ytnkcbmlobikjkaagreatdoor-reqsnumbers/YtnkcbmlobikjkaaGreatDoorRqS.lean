/- Layer 4: live. -/
import Derived.Test.YtnkcbmlobikjkaaGreatDoorRqR
namespace Go.Proofs.YtnkcbmlobikjkaaGreatDoor
open Go.RowKit Suf Val Go.Maps

theorem sh_zone : short tZone := by unfold short; decide
theorem sh_gen : short tGen := by unfold short; decide
theorem sh_b : short [98] := by unfold short; decide
theorem sh_5 : short [53] := by unfold short; decide
theorem sh_a : short [97] := by unfold short; decide
theorem strs_three {w : World} (T : TypeId) : Strs (w.alloc (.cells #[.string ⟨#[97]⟩, .string ⟨#[98]⟩, .string ⟨#[99]⟩] T)) (.slice (some ⟨w.heap.size, 0, none⟩) 3 3) [[97], [98], [99]] := by
  refine ⟨_, _, rfl, fun j hj => ⟨w.heap.size, 0, rfl, ?_⟩, by decide, fun t ht => by simp at ht; rcases ht with rfl | rfl | rfl <;> (unfold short; decide)⟩
  match j, hj with
  | 0, _ => simp [go_sem]; rfl
  | 1, _ => simp [go_sem]; rfl
  | 2, _ => simp [go_sem]; rfl
theorem reqs_live {w : World} {a1 a2 : Option Addr} (h1 : Strs w (.slice a1 3 3) [[97], [98], [99]]) (h2 : Strs w (.slice a2 1 1) [[98]]) :
    Reqs (w.alloc (.cells #[.string ⟨#[122, 111, 110, 101]⟩, .int .i64 1, .slice a1 3 3, .int .i64 0, .string ⟨#[122, 111, 110, 101]⟩, .int .i64 2, .slice a2 1 1, .int .i64 0, .string ⟨#[103, 101, 110]⟩, .int .i64 5, .slice none 0 0, .int .i64 3] 25)) (.slice (some ⟨w.heap.size, 0, none⟩) 3 3) liveL := by
  have hb := fun o => box_below (w := w) o
  refine ⟨_, _, rfl, fun j hj => ?_, by decide⟩
  match j, hj with
  | 0, _ => exact ⟨w.heap.size, 0, _, rfl, by simp [go_sem]; rfl, by simp [go_sem]; rfl, by simp [go_sem], by simp [go_sem]; rfl, h1.below (hb _), sh_zone, fun a n c e => by injection e with e1 e2 e3; omega⟩
  | 1, _ => exact ⟨w.heap.size, 0, _, rfl, by simp [go_sem]; rfl, by simp [go_sem]; rfl, by simp [go_sem], by simp [go_sem]; rfl, h2.below (hb _), sh_zone, fun a n c e => by injection e with e1 e2 e3; omega⟩
  | 2, _ => exact ⟨w.heap.size, 0, _, rfl, by simp [go_sem]; rfl, by simp [go_sem]; rfl, by simp [go_sem], by simp [go_sem]; rfl, strs_zero _ none 0, sh_gen, capd_nil⟩

theorem live_two {st : List VKS} (hst : st.map (·.2) = (setsR liveL).1) : ∃ x0 x1, st = [x0, x1] ∧ x0.2.1 = tGen ∧ x1.2.1 = tZone ∧ x1.2.2.vals.length = 2 := by
  have h : st.map (fun x => (x.2.1, x.2.2.vals.length)) = [(tGen, 0), (tZone, 2)] := by rw [← live_sets1, ← hst, List.map_map]; rfl
  match st, h with
  | [], h => simp at h
  | [x0], h => simp at h
  | [x0, x1], h =>
    simp only [List.map_cons, List.map_nil, List.cons.injEq, Prod.mk.injEq, and_true] at h
    exact ⟨x0, x1, rfl, h.1.1, h.2.1, h.2.2⟩
  | x0 :: x1 :: x2 :: st, h => simp at h
theorem live_cells {w : World} {T : TypeId} {base : Nat} {v : Value} {st : List VKS} (ho : OwnK T w base v st) (hst : st.map (·.2) = (setsR liveL).1) :
    ∃ g xc ua uc, v = .slice (some ⟨g, 0, none⟩) 2 xc ∧ w.cell? ⟨g, 0, none⟩ = some (.string ⟨#[103, 101, 110]⟩) ∧ w.cell? ⟨g, 7, none⟩ = some (.string ⟨#[122, 111, 110, 101]⟩) ∧ w.cell? ⟨g, 11, none⟩ = some (.slice ua 2 uc) := by
  obtain ⟨x0, x1, rfl, e0, e1, e2⟩ := live_two hst
  obtain ⟨xa, xc, rfl⟩ := ho.val
  obtain ⟨g, rfl, s0, _⟩ := ho.at (j := 0) (by simp)
  obtain ⟨g', hg, t0, _, _, _, t4, _⟩ := ho.at (j := 1) (by simp)
  injection hg with hg
  injection hg with hg
  subst hg
  obtain ⟨ua, uc, hu⟩ := (ho.2.1 x1 (by simp)).1.strs.val
  simp only [List.getElem_cons_zero, List.getElem_cons_succ] at s0 t0 t4
  rw [e0] at s0
  rw [e1] at t0
  rw [hu, e2] at t4
  exact ⟨g, xc, ua, uc, rfl, s0, t0, t4⟩
theorem labs_two {w : World} : Labs (w.alloc (.cells #[.string ⟨#[122, 111, 110, 101]⟩, .string ⟨#[97]⟩, .string ⟨#[103, 101, 110]⟩, .string ⟨#[53]⟩] 34)) (.slice (some ⟨w.heap.size, 0, none⟩) 2 2) [(tZone, [97]), (tGen, [53])] := by
  refine ⟨_, _, rfl, fun j hj => ?_, by decide⟩
  match j, hj with
  | 0, _ => exact ⟨w.heap.size, 0, rfl, by simp [go_sem]; rfl, by simp [go_sem]; rfl, sh_zone, sh_a⟩
  | 1, _ => exact ⟨w.heap.size, 0, rfl, by simp [go_sem]; rfl, by simp [go_sem]; rfl, sh_gen, sh_5⟩
theorem labs_one {w : World} : Labs (w.alloc (.cells #[.string ⟨#[122, 111, 110, 101]⟩, .string ⟨#[97]⟩] 34)) (.slice (some ⟨w.heap.size, 0, none⟩) 1 1) [(tZone, [97])] := by
  refine ⟨_, _, rfl, fun j hj => ?_, by decide⟩
  match j, hj with
  | 0, _ => exact ⟨w.heap.size, 0, rfl, by simp [go_sem]; rfl, by simp [go_sem]; rfl, sh_zone, sh_a⟩
theorem reqs_can {w : World} {a1 a2 : Option Addr} (h1 : Strs w (.slice a1 1 1) [[97]]) (h2 : Strs w (.slice a2 1 1) [[98]]) :
    Reqs (w.alloc (.cells #[.string ⟨#[122, 111, 110, 101]⟩, .int .i64 1, .slice a1 1 1, .int .i64 0, .string ⟨#[122, 111, 110, 101]⟩, .int .i64 1, .slice a2 1 1, .int .i64 0] 25)) (.slice (some ⟨w.heap.size, 0, none⟩) 2 2) [⟨tZone, 1, [[97]], 0⟩, ⟨tZone, 1, [[98]], 0⟩] := by
  have hb := fun o => box_below (w := w) o
  refine ⟨_, _, rfl, fun j hj => ?_, by decide⟩
  match j, hj with
  | 0, _ => exact ⟨w.heap.size, 0, _, rfl, by simp [go_sem]; rfl, by simp [go_sem], by simp [go_sem], by simp [go_sem], h1.below (hb _), sh_zone, fun a n c e => by injection e with e1 e2 e3; omega⟩
  | 1, _ => exact ⟨w.heap.size, 0, _, rfl, by simp [go_sem]; rfl, by simp [go_sem], by simp [go_sem], by simp [go_sem], h2.below (hb _), sh_zone, fun a n c e => by injection e with e1 e2 e3; omega⟩

set_option maxRecDepth 100000 in
set_option maxHeartbeats 8000000 in
theorem live4_any (w : World) (hL : Laid w) :
    Calls Tryz.prog 12 #[] w fun e w' => e = .returned (.bool true) ∧ Below w.heap.size w w' := by
  have HL := hide hL
  clear hL
  obtain ⟨W0, hW0⟩ : ∃ W, W = w.alloc (.cells #[.string ⟨#[97]⟩, .string ⟨#[98]⟩, .string ⟨#[99]⟩] 9) := ⟨_, rfl⟩
  have B0 : Hid (Below w.heap.size w W0) := by rw [hW0]; exact box_below _
  have S0 : Hid (Strs W0 (.slice (some ⟨w.heap.size, 0, none⟩) 3 3) [[97], [98], [99]]) := by rw [hW0]; exact strs_three _
  have G0 := hide hW0
  clear hW0
  go_enter Tryz.func12, Tryz.ntmps12
  go_wp2_with fail
  rw [← unhide G0]
  refine (req_any _ _ _ _ _ _ _).mono ?_
  rintro e w1 ⟨rfl, hw1⟩
  obtain ⟨W1, hW1⟩ : ∃ W, W = w1.alloc (.cells #[.string ⟨#[98]⟩] 9) := ⟨_, rfl⟩
  have B1 : Hid (Below w.heap.size w W1) := by rw [hW1]; exact chain (chain (unhide B0) hw1) (box_below _)
  have S1 : Hid (Strs W1 (.slice (some ⟨w.heap.size, 0, none⟩) 3 3) [[97], [98], [99]]) := by rw [hW1]; exact ((unhide S0).below hw1).below (box_below _)
  have T1 : Hid (Strs W1 (.slice (some ⟨w1.heap.size, 0, none⟩) 1 1) [[98]]) := by rw [hW1]; exact strs_one _ sh_b
  have G1 := hide hW1
  clear hW1 hw1 S0 B0 G0
  go_wp2_with fail
  rw [← unhide G1]
  refine (req_any _ _ _ _ _ _ _).mono ?_
  rintro e w2 ⟨rfl, hw2⟩
  have B2 := hide (chain (unhide B1) hw2)
  have S2 := hide ((unhide S1).below hw2)
  have T2 := hide ((unhide T1).below hw2)
  clear hw2 S1 T1 B1 G1
  go_wp2_with fail
  refine (req_any _ _ _ _ _ _ _).mono ?_
  rintro e w3 ⟨rfl, hw3⟩
  have B3 := hide (chain (unhide B2) hw3)
  have S3 := hide ((unhide S2).below hw3)
  have T3 := hide ((unhide T2).below hw3)
  clear hw3 S2 T2 B2
  have Q3 := hide (reqs_live (unhide S3) (unhide T3))
  have B4 := hide (chain (unhide B3) (box_below (.cells #[.string ⟨#[122, 111, 110, 101]⟩, .int .i64 1, .slice (some ⟨w.heap.size, 0, none⟩) 3 3, .int .i64 0, .string ⟨#[122, 111, 110, 101]⟩, .int .i64 2, .slice (some ⟨w1.heap.size, 0, none⟩) 1 1, .int .i64 0, .string ⟨#[103, 101, 110]⟩, .int .i64 5, .slice none 0 0, .int .i64 3] 25)))
  clear S3 T3 B3
  go_wp2_with fail
  refine (psets_any _ liveL _ ((unhide HL).below (unhide B4)) (unhide Q3)).mono ?_
  rintro e w5 (⟨h0, rfl, hw5⟩ | ⟨h0, v', st, rfl, hst, hown, hw5⟩)
  · exact absurd live_sets0 h0
  clear h0
  have B5 := hide (chain (unhide B4) hw5)
  have Q5 := hide ((unhide Q3).below hw5)
  obtain ⟨g, xc, ua, uc, rfl, s0, s7, s11⟩ := live_cells hown hst
  clear hown hst hw5 B4 Q3
  have B6 := hide (chain (unhide B5) (box_below (.cells #[.string ⟨#[122, 111, 110, 101]⟩, .string ⟨#[97]⟩, .string ⟨#[103, 101, 110]⟩, .string ⟨#[53]⟩] 34)))
  have Q6 := hide ((unhide Q5).below (box_below (.cells #[.string ⟨#[122, 111, 110, 101]⟩, .string ⟨#[97]⟩, .string ⟨#[103, 101, 110]⟩, .string ⟨#[53]⟩] 34)))
  clear B5 Q5
  go_wp2_with fail
  clear s0 s7 s11
  refine (padmits_any _ liveL _ _ _ ((unhide HL).below (unhide B6)) (unhide Q6) labs_two).mono ?_
  rintro e w6 ⟨he, hw6⟩
  rw [live_adm1] at he
  subst he
  have B7 := hide (chain (chain (unhide B6) hw6) (box_below (.cells #[.string ⟨#[122, 111, 110, 101]⟩, .string ⟨#[97]⟩] 34)))
  have Q7 := hide (((unhide Q6).below hw6).below (box_below (.cells #[.string ⟨#[122, 111, 110, 101]⟩, .string ⟨#[97]⟩] 34)))
  clear B6 Q6 hw6
  go_wp2_with fail
  refine (padmits_any _ liveL _ _ _ ((unhide HL).below (unhide B7)) (unhide Q7) labs_one).mono ?_
  rintro e w7 ⟨he, hw7⟩
  rw [live_adm2] at he
  subst he
  obtain ⟨W8, hW8⟩ : ∃ W, W = w7.alloc (.cells #[.string ⟨#[97]⟩] 9) := ⟨_, rfl⟩
  have B8 : Hid (Below w.heap.size w W8) := by rw [hW8]; exact chain (chain (unhide B7) hw7) (box_below _)
  have Q8 : Hid (Reqs W8 (.slice (some ⟨w3.heap.size, 0, none⟩) 3 3) liveL) := by rw [hW8]; exact ((unhide Q7).below hw7).below (box_below _)
  have S8 : Hid (Strs W8 (.slice (some ⟨w7.heap.size, 0, none⟩) 1 1) [[97]]) := by rw [hW8]; exact strs_one _ sh_a
  have G8 := hide hW8
  clear hW8 hw7 B7 Q7
  go_wp2_with fail
  rw [← unhide G8]
  refine (req_any _ _ _ _ _ _ _).mono ?_
  rintro e w9 ⟨rfl, hw9⟩
  obtain ⟨W9, hW9⟩ : ∃ W, W = w9.alloc (.cells #[.string ⟨#[98]⟩] 9) := ⟨_, rfl⟩
  have B9 : Hid (Below w.heap.size w W9) := by rw [hW9]; exact chain (chain (unhide B8) hw9) (box_below _)
  have Q9 : Hid (Reqs W9 (.slice (some ⟨w3.heap.size, 0, none⟩) 3 3) liveL) := by rw [hW9]; exact ((unhide Q8).below hw9).below (box_below _)
  have S9 : Hid (Strs W9 (.slice (some ⟨w7.heap.size, 0, none⟩) 1 1) [[97]]) := by rw [hW9]; exact ((unhide S8).below hw9).below (box_below _)
  have T9 : Hid (Strs W9 (.slice (some ⟨w9.heap.size, 0, none⟩) 1 1) [[98]]) := by rw [hW9]; exact strs_one _ sh_b
  have G9 := hide hW9
  clear hW9 hw9 B8 Q8 S8 G8
  go_wp2_with fail
  rw [← unhide G9]
  refine (req_any _ _ _ _ _ _ _).mono ?_
  rintro e w10 ⟨rfl, hw10⟩
  have R10 := hide (reqs_can ((unhide S9).below hw10) ((unhide T9).below hw10))
  have B10 := hide (chain (chain (unhide B9) hw10) (box_below (.cells #[.string ⟨#[122, 111, 110, 101]⟩, .int .i64 1, .slice (some ⟨w7.heap.size, 0, none⟩) 1 1, .int .i64 0, .string ⟨#[122, 111, 110, 101]⟩, .int .i64 1, .slice (some ⟨w9.heap.size, 0, none⟩) 1 1, .int .i64 0] 25)))
  have Q10 := hide (((unhide Q9).below hw10).below (box_below (.cells #[.string ⟨#[122, 111, 110, 101]⟩, .int .i64 1, .slice (some ⟨w7.heap.size, 0, none⟩) 1 1, .int .i64 0, .string ⟨#[122, 111, 110, 101]⟩, .int .i64 1, .slice (some ⟨w9.heap.size, 0, none⟩) 1 1, .int .i64 0] 25)))
  clear hw10 B9 Q9 S9 T9 G9
  go_wp2_with fail
  refine (pcan_any _ _ _ ((unhide HL).below (unhide B10)) (unhide R10)).mono ?_
  rintro e w11 ⟨he, hw11⟩
  rw [live_can] at he
  subst he
  have B11 := hide (chain (unhide B10) hw11)
  have Q11 := hide ((unhide Q10).below hw11)
  clear hw11 B10 Q10 R10
  go_wp2_with fail
  refine (pmeets_any _ _ liveL [] _ ((unhide HL).below (unhide B11)) (unhide Q11) ⟨none, 0, rfl, fun j hj => absurd hj (Nat.not_lt_zero _), by decide⟩).mono ?_
  rintro e w12 ⟨he, hw12⟩
  rw [live_meets] at he
  subst he
  have B12 := hide (chain (unhide B11) hw12)
  clear hw12 B11 Q11
  go_wp2_with fail
  go_ret
  exact ⟨rfl, unhide B12⟩
end Go.Proofs.YtnkcbmlobikjkaaGreatDoor
