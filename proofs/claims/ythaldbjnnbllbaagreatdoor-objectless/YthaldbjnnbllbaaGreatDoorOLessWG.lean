/- ObjectLess: the walk -/
import Derived.Test.YthaldbjnnbllbaaGreatDoorO8XG
namespace Go.Proofs.YthaldbjnnbllbaaGreatDoor.objectLess
open Go.RowKit Suf Val

set_option maxRecDepth 100000 in
set_option maxHeartbeats 64000000 in
theorem walk (p : VPod) (u1 u2 u3 u4 u5 : Value) (which : Int) (w : World) (h : PodIn w p u1 u2 u3 u4 u5) (hr1 : Lst reqK w u1 p.reqs) (hr2 : Lst tolK w u2 p.tols) (hL : Laid w) :
    Calls Tryz.prog 4 #[podA p u1 u2 u3 u4 u5, .int .i64 which] w fun e w' => e = .returned (.bool true) ∧ Below w.heap.size w w' := by
  have HL := hide hL
  have kC : Hid (∀ V, Below w.heap.size w V → Calls Tryz.prog 12 #[podA p u1 u2 u3 u4 u5] V fun e w' => e = .returned (.int .i64 (podR p)) ∧ Below V.heap.size V w') := fun V hb => ppod_any p u1 u2 u3 u4 u5 V (hL.below hb) (h.below hb)
  have HI := hide h
  have HR1 := hide hr1
  have HR2 := hide hr2
  obtain ⟨a1, c1, hu1⟩ := h.rq.val
  obtain ⟨n1, hn1⟩ : ∃ n, n = p.reqs.length := ⟨_, rfl⟩
  obtain ⟨a2, c2, hu2⟩ := h.tl.val
  obtain ⟨n2, hn2⟩ : ∃ n, n = p.tols.length := ⟨_, rfl⟩
  obtain ⟨a3, c3, hu3⟩ := h.sp.val
  obtain ⟨n3, hn3⟩ : ∃ n, n = p.spread.length := ⟨_, rfl⟩
  obtain ⟨a4, c4, hu4⟩ := h.nr.val
  obtain ⟨n4, hn4⟩ : ∃ n, n = p.near.length := ⟨_, rfl⟩
  obtain ⟨a5, c5, hu5⟩ := h.ap.val
  obtain ⟨n5, hn5⟩ : ∃ n, n = p.apart.length := ⟨_, rfl⟩
  unfold podA at kC ⊢
  rw [hu1] at kC HI HR1 ⊢
  rw [← hn1] at kC HI HR1 ⊢
  rw [hu2] at kC HI HR2 ⊢
  rw [← hn2] at kC HI HR2 ⊢
  rw [hu3] at kC HI ⊢
  rw [← hn3] at kC HI ⊢
  rw [hu4] at kC HI ⊢
  rw [← hn4] at kC HI ⊢
  rw [hu5] at kC HI ⊢
  rw [← hn5] at kC HI ⊢
  obtain ⟨R, hR⟩ : ∃ R, R = podR p := ⟨_, rfl⟩
  rw [← hR] at kC
  have GR := hide hR
  obtain ⟨X0, hX0⟩ : ∃ z, z = bytesT p.name := ⟨_, rfl⟩
  obtain ⟨X1, hX1⟩ : ∃ z, z = bytesT p.app := ⟨_, rfl⟩
  obtain ⟨X2, hX2⟩ : ∃ z, z = bytesT p.on := ⟨_, rfl⟩
  obtain ⟨N0, hN0⟩ : ∃ z, z = p.need.1 := ⟨_, rfl⟩
  obtain ⟨N1, hN1⟩ : ∃ z, z = p.need.2 := ⟨_, rfl⟩
  obtain ⟨P0, hP0⟩ : ∃ z, z = p.prio := ⟨_, rfl⟩
  obtain ⟨S0, hS0⟩ : ∃ z, z = p.since := ⟨_, rfl⟩
  rw [← hX0, ← hX1, ← hX2, ← hN0, ← hN1, ← hP0, ← hS0] at kC ⊢
  have HN1 := hide hn1
  have HN2 := hide hn2
  have HN3 := hide hn3
  have HN4 := hide hn4
  have HX0 := hide hX0
  have HX1 := hide hX1
  have HX2 := hide hX2
  have HNN : Hid (N0 = p.need.1 ∧ N1 = p.need.2 ∧ P0 = p.prio ∧ S0 = p.since) := ⟨hN0, hN1, hP0, hS0⟩
  clear h hr1 hr2 hL hR hu1 hn1 hu2 hn2 hu3 hn3 hu4 hn4 hu5 hn5 hX0 hX1 hX2 hN0 hN1 hP0 hS0
  obtain ⟨W1, hW1⟩ : ∃ W, W = w.alloc (.cells #[.string X0, .string X1, .int .i64 N0, .int .i64 N1, .int .i64 P0, .slice a1 n1 c1, .slice a2 n2 c2, .slice a3 n3 c3, .slice a4 n4 c4, .slice a5 n5 c5, .int .i64 S0, .string X2] 29) := ⟨_, rfl⟩
  have HH : Hid (HeldS w [(⟨w.heap.size, 0, none⟩, .string X0), (⟨w.heap.size, 1, none⟩, .string X1), (⟨w.heap.size, 2, none⟩, .int .i64 N0), (⟨w.heap.size, 3, none⟩, .int .i64 N1), (⟨w.heap.size, 4, none⟩, .int .i64 P0), (⟨w.heap.size, 5, none⟩, .slice a1 n1 c1), (⟨w.heap.size, 6, none⟩, .slice a2 n2 c2), (⟨w.heap.size, 7, none⟩, .slice a3 n3 c3), (⟨w.heap.size, 8, none⟩, .slice a4 n4 c4), (⟨w.heap.size, 9, none⟩, .slice a5 n5 c5), (⟨w.heap.size, 10, none⟩, .int .i64 S0), (⟨w.heap.size, 11, none⟩, .string X2)] W1) := by
    rw [hW1]
    exact ⟨boxb _, fun x hx => by simp only [List.mem_cons, List.not_mem_nil, or_false] at hx; rcases hx with rfl | rfl | rfl | rfl | rfl | rfl | rfl | rfl | rfl | rfl | rfl | rfl <;> simp [go_sem]⟩
  have GW := hide hW1
  clear hW1
  obtain ⟨m, hm⟩ : ∃ m : Nat, max (which.tmod 8) (wrap64 (-which.tmod 8)) = (m : Int) := by
    have h1 := Int.lt_tmod_of_pos which (show (0 : Int) < 8 by decide)
    have h2 := Int.tmod_lt_of_pos which (show (0 : Int) < 8 by decide)
    refine ⟨(max (which.tmod 8) (wrap64 (-which.tmod 8))).toNat, ?_⟩
    have h3 : wrap64 (-which.tmod 8) = -which.tmod 8 := by unfold wrap64; omega
    rw [h3]
    omega
  have m64 : m < 64 := by
    have h1 := Int.lt_tmod_of_pos which (show (0 : Int) < 8 by decide)
    have h2 := Int.tmod_lt_of_pos which (show (0 : Int) < 8 by decide)
    have h3 : wrap64 (-which.tmod 8) = -which.tmod 8 := by unfold wrap64; omega
    rw [h3] at hm
    omega
  go_enter Tryz.func4, Tryz.ntmps4
  go_wp2_with fail
  rw [← unhide GW]
  refine (live8_any _ ((unhide HL).below (unhide HH).gr)).mono ?_
  rintro e w9 ⟨rfl, hw9⟩
  replace HH := hide ((unhide HH).below hw9)
  clear hw9 GW
  have f0 := (unhide HH).at 0 rfl
  have f1 := (unhide HH).at 1 rfl
  have f2 := (unhide HH).at 2 rfl
  have f3 := (unhide HH).at 3 rfl
  have f4 := (unhide HH).at 4 rfl
  have f5 := (unhide HH).at 5 rfl
  have f6 := (unhide HH).at 6 rfl
  have f7 := (unhide HH).at 7 rfl
  have f8 := (unhide HH).at 8 rfl
  have f9 := (unhide HH).at 9 rfl
  have f10 := (unhide HH).at 10 rfl
  have f11 := (unhide HH).at 11 rfl
  go_wp2_with fail
  clear f0 f1 f2 f3 f4 f5 f6 f7 f8 f9 f10 f11
  refine (unhide kC _ (unhide HH).gr).mono ?_
  rintro e wz ⟨rfl, hw9⟩
  replace HH := hide ((unhide HH).below hw9)
  clear hw9 kC
  by_cases hz : ¬ R = 0
  · have hb := nz hz
    go_wp2_with fail
    go_ret
    exact ⟨rfl, (unhide HH).gr⟩
  have hz2 := Decidable.of_not_not hz
  clear hz
  subst hz2
  have f0 := (unhide HH).at 0 rfl
  have f1 := (unhide HH).at 1 rfl
  have f2 := (unhide HH).at 2 rfl
  have f3 := (unhide HH).at 3 rfl
  have f4 := (unhide HH).at 4 rfl
  have f5 := (unhide HH).at 5 rfl
  have f6 := (unhide HH).at 6 rfl
  have f7 := (unhide HH).at 7 rfl
  have f8 := (unhide HH).at 8 rfl
  have f9 := (unhide HH).at 9 rfl
  have f10 := (unhide HH).at 10 rfl
  have f11 := (unhide HH).at 11 rfl
  have HWC : Hid (w.heap.size < wz.heap.size) := World.block_lt_of_cell? (h := f0) ..
  have HLEN : Hid (podR p = 0 ∧ p.reqs.length ≤ 8 ∧ p.tols.length ≤ 4 ∧ p.spread.length ≤ 3 ∧ p.near.length ≤ 3) := ⟨(unhide GR).symm, pod_lens (unhide GR).symm⟩
  have HR3 := hide (unhide HI).sp
  have HR4 := hide (unhide HI).nr
  have g5 := cell_box6 (.cells #[.string X0, .string X1, .int .i64 N0, .int .i64 N1, .int .i64 P0, .slice a1 n1 c1, .slice a2 n2 c2, .slice a3 n3 c3, .slice a4 n4 c4, .slice a5 n5 c5, .int .i64 S0, .string X2] 29) f5
  go_upto_if 24 with fail
  obtain ⟨W0, hW0⟩ : ∃ W, W = wz.alloc (.cells #[.string X0, .string X1, .int .i64 N0, .int .i64 N1, .int .i64 P0, .slice a1 n1 c1, .slice a2 n2 c2, .slice a3 n3 c3, .slice a4 n4 c4, .slice a5 n5 c5, .int .i64 S0, .string X2] 29) := ⟨_, rfl⟩
  rw [← hW0]
  have BQ : Hid (Below wz.heap.size wz W0) := by rw [hW0]; exact boxb _
  have QC : Hid (∀ y ∈ [(⟨wz.heap.size, 0, none⟩, .string X0), (⟨wz.heap.size, 1, none⟩, .string X1), (⟨wz.heap.size, 2, none⟩, .int .i64 N0), (⟨wz.heap.size, 3, none⟩, .int .i64 N1), (⟨wz.heap.size, 4, none⟩, .int .i64 P0), (⟨wz.heap.size, 5, none⟩, .slice a1 n1 c1), (⟨wz.heap.size, 6, none⟩, .slice a2 n2 c2), (⟨wz.heap.size, 7, none⟩, .slice a3 n3 c3), (⟨wz.heap.size, 8, none⟩, .slice a4 n4 c4), (⟨wz.heap.size, 9, none⟩, .slice a5 n5 c5), (⟨wz.heap.size, 10, none⟩, .int .i64 S0), (⟨wz.heap.size, 11, none⟩, .string X2)], W0.cell? y.1 = some y.2) := by
    rw [hW0]
    intro y hy
    simp only [List.mem_cons, List.not_mem_nil, or_false] at hy
    rcases hy with rfl | rfl | rfl | rfl | rfl | rfl | rfl | rfl | rfl | rfl | rfl | rfl <;> simp [go_sem]
  have FZ : Hid (∀ i, W0.frozen? ⟨wz.heap.size, i, none⟩ = false) := by rw [hW0]; intro i; simp [go_sem]
  clear hW0 g5
  go_cut [35] (fun _ W => ∃ x1, Hid (Below wz.heap.size wz W) ∧ Hid (∀ i, W.frozen? ⟨wz.heap.size, i, none⟩ = false) ∧ Hid (∀ y ∈ [(⟨wz.heap.size, 0, none⟩, .string X0), (⟨wz.heap.size, 1, none⟩, .string X1), (⟨wz.heap.size, 2, none⟩, .int .i64 N0), (⟨wz.heap.size, 3, none⟩, .int .i64 N1), (⟨wz.heap.size, 4, none⟩, .int .i64 P0), (⟨wz.heap.size, 5, none⟩, x1), (⟨wz.heap.size, 6, none⟩, .slice a2 n2 c2), (⟨wz.heap.size, 7, none⟩, .slice a3 n3 c3), (⟨wz.heap.size, 8, none⟩, .slice a4 n4 c4), (⟨wz.heap.size, 9, none⟩, .slice a5 n5 c5), (⟨wz.heap.size, 10, none⟩, .int .i64 S0), (⟨wz.heap.size, 11, none⟩, .string X2)], W.cell? y.1 = some y.2) ∧ Hid (Keeps wz reqK 104 W x1 (cut m p.reqs)))
  case first =>
    by_cases hlt : m < n1
    · obtain ⟨b, o, rfl, _⟩ := (unhide HR1).at (j := m) (by rw [← unhide HN1]; exact hlt)
      have srcw := (unhide HR1).below (unhide HH).gr
      have hcap := srcw.cap.2
      rw [← unhide HN1] at hcap
      have src1 := hide (srcw.take (k := m) (by rw [← unhide HN1]; omega))
      obtain ⟨A, eA⟩ : ∃ A : Option Addr, (if c1 = m + 1 then some (⟨b, o, none⟩ : Addr) else some ⟨b, o + (m + 1) * 4, none⟩) = A := ⟨_, rfl⟩
      have src2 : Hid (Lst reqK wz (.slice A (n1 - (m + 1)) (c1 - (m + 1))) (p.reqs.drop (m + 1))) := by
        show Lst _ _ _ _
        rw [← eA]
        have h8 := unhide HN1
        by_cases hc : c1 = m + 1
        · rw [if_pos hc, List.drop_eq_nil_of_le (by omega), show n1 - (m + 1) = 0 by omega]
          exact lst_zero _ _ _ _
        · rw [if_neg hc]
          exact srcw.drop (k := m + 1) (by omega)
      have hz1 : Hid (0 + (p.reqs.take m).length ≤ maxLen ∧ (0 + (p.reqs.take m).length) * 56 ≤ 140737488355328) := by
        have := (unhide HLEN).2
        have h9 := List.length_take_le m p.reqs
        have h8 := unhide HN1
        unfold maxLen
        show _ ∧ _
        omega
      have hz2 : Hid (0 + (p.reqs.take m).length + (p.reqs.drop (m + 1)).length ≤ maxLen ∧ (0 + (p.reqs.take m).length + (p.reqs.drop (m + 1)).length) * 56 ≤ 140737488355328) := by
        have := (unhide HLEN).2
        have h9 := List.length_take_le m p.reqs
        have h10 := List.length_drop (l := p.reqs) (i := m + 1)
        unfold maxLen
        show _ ∧ _
        omega
      clear srcw
      have g5 := hide (cell_kept (unhide BQ) f5)
      have hq5 : Hid (W0.cell? ⟨wz.heap.size, 5, none⟩ = some (.slice (some ⟨b, o, none⟩) n1 c1)) := unhide QC (⟨wz.heap.size, 5, none⟩, .slice (some ⟨b, o, none⟩) n1 c1) (by simp)
      have i0 : (0 : Int) ≤ (m : Int) := by omega
      have i1 : (m : Int) ≤ (c1 : Int) := by omega
      have i2 : (m : Int) + 1 ≤ (n1 : Int) := by omega
      have i3 : (n1 : Int) ≤ (c1 : Int) := by omega
      have i4 : (0 : Int) ≤ (m : Int) + 1 := by omega
      have i5 : (m : Int) + 1 ≤ (c1 : Int) := by omega
      have i6 : IntKind.i64.wrap ((m : Int) + 1) = (m : Int) + 1 := by simp [IntKind.wrap, IntKind.bits, IntKind.signed]; omega
      have i7 : ((m : Int) + 1).toNat = m + 1 := by omega
      have i8 : m + 1 ≤ n1 := by omega
      have hneB : ¬ w.heap.size = wz.heap.size := by have := (unhide HH).gr.size; have := unhide HWC; omega
      go_wp2_with fail
      refine wp_region_noPanic ?_
      refine wp_region_held_drew (S := fun V => V.cell? ⟨w.heap.size, 5, none⟩ = some (.slice (some ⟨b, o, none⟩) n1 c1)) (by kernel_rfl) (cell_kept (below_drew6 _) (unhide g5)) (fun hHeld0 => ?_)
      refine takeH6 (i := 0) (d := 25) (v := ?_) rfl rfl (by kernel_rfl) (by kernel_rfl) (by kernel_rfl) (fun _ _ _ h => h) (Or.inl ⟨by rfl, ?_⟩) (by assumption) ?_
      rotate_left
      · (intro W hSW; (try dsimp only at hSW); go_simp; try (with_reducible rfl))
      try simp only [Act.put, List.setIfInBounds_toArray, List.set_cons_zero, List.set_cons_succ]
      refine takeH6 (i := 1) (d := 26) (v := ?_) rfl rfl (by kernel_rfl) (by kernel_rfl) (by kernel_rfl) (fun _ _ _ h => h) (Or.inl ⟨by rfl, ?_⟩) (by assumption) ?_
      rotate_left
      · (intro W hSW; (try dsimp only at hSW); go_simp; try (with_reducible rfl))
      try simp only [Act.put, List.setIfInBounds_toArray, List.set_cons_zero, List.set_cons_succ]
      refine takeH6 (i := 2) (d := 27) (v := ?_) rfl rfl (by kernel_rfl) (by kernel_rfl) (by kernel_rfl) (fun _ _ _ h => h) (Or.inl ⟨by rfl, ?_⟩) (by assumption) ?_
      rotate_left
      · (intro W hSW; (try dsimp only at hSW); go_simp; try (with_reducible rfl))
      try simp only [Act.put, List.setIfInBounds_toArray, List.set_cons_zero, List.set_cons_succ]
      refine takeH6 (i := 3) (d := 28) (v := ?_) rfl rfl (by kernel_rfl) (by kernel_rfl) (by kernel_rfl) (fun _ _ _ h => h) (Or.inl ⟨by rfl, ?_⟩) (by assumption) ?_
      rotate_left
      · (intro W hSW; (try dsimp only at hSW); go_simp; try (with_reducible rfl))
      try simp only [Act.put, List.setIfInBounds_toArray, List.set_cons_zero, List.set_cons_succ]
      refine takeH6 (i := 5) (d := 30) (v := ?_) rfl rfl (by kernel_rfl) (by kernel_rfl) (by kernel_rfl) (fun _ _ _ h => h) (Or.inl ⟨by rfl, ?_⟩) (by assumption) ?_
      rotate_left
      · (intro W hSW; (try dsimp only at hSW); go_simp; try (with_reducible rfl))
      try simp only [Act.put, List.setIfInBounds_toArray, List.set_cons_zero, List.set_cons_succ]
      refine takeH6 (i := 6) (d := 31) (v := ?_) rfl rfl (by kernel_rfl) (by kernel_rfl) (by kernel_rfl) (fun _ _ _ h => h) (Or.inl ⟨by rfl, ?_⟩) (by assumption) ?_
      rotate_left
      · (intro W hSW; (try dsimp only at hSW); go_simp; try (with_reducible rfl))
      try simp only [Act.put, List.setIfInBounds_toArray, List.set_cons_zero, List.set_cons_succ]
      refine takeH6 (i := 7) (d := 32) (v := ?_) rfl rfl (by kernel_rfl) (by kernel_rfl) (by kernel_rfl) (fun _ _ _ h => h) (Or.inl ⟨by rfl, ?_⟩) (by assumption) ?_
      rotate_left
      · (intro W hSW; (try dsimp only at hSW); go_simp; try (with_reducible rfl))
      try simp only [Act.put, List.setIfInBounds_toArray, List.set_cons_zero, List.set_cons_succ]
      refine takeH6 (i := 8) (d := 33) (v := ?_) rfl rfl (by kernel_rfl) (by kernel_rfl) (by kernel_rfl) (fun _ _ _ h => h) (Or.inl ⟨by rfl, ?_⟩) (by assumption) ?_
      rotate_left
      · (intro W hSW; (try dsimp only at hSW); go_simp; try (with_reducible rfl))
      try simp only [Act.put, List.setIfInBounds_toArray, List.set_cons_zero, List.set_cons_succ]
      refine takeH6 (i := 9) (d := 34) (v := ?_) rfl rfl (by kernel_rfl) (by kernel_rfl) (by kernel_rfl) (fun _ _ _ h => h) (Or.inl ⟨by rfl, ?_⟩) (by assumption) ?_
      rotate_left
      · (intro W hSW; (try dsimp only at hSW); go_simp; try (with_reducible rfl))
      try simp only [Act.put, List.setIfInBounds_toArray, List.set_cons_zero, List.set_cons_succ]
      refine wpAnyH_ready (rs := [4]) (by kernel_rfl) (by simp) ?_
      refine AllReadyH.cons (o := _) rfl (fun K hK => ?_) AllReadyH.nil
      refine step_append_keep tells_req (by rfl) _ _ (by rfl) W0 (below_drew6 _) (.slice none 0 0) 0 [] (by rfl) (World.ownsRow_nil _ _ _ _) _ (p.reqs.take m) (by rfl) wz (chain (unhide BQ) (below_drew6 _)) (unhide src1) (unhide hz1).1 (unhide hz1).2 (fun vA wA newsA rA oA bA _ => ?_)
      have OA := hide oA
      have RA := hide rA
      have BA := hide bA
      clear oA rA bA
      refine hK.out _ _ ?_ (fun hHeld1 => ?_)
      · (try dsimp only)
        exact cell_kept (unhide BA) (unhide g5)
      clear hK K hHeld0
      try simp only [Act.put]
      try simp only [List.setIfInBounds_toArray]
      try simp only [List.set_cons_zero, List.set_cons_succ]
      refine wpAnyH_ready (rs := [10]) (by kernel_rfl) (by simp) ?_
      refine AllReadyH.cons (o := _) rfl (fun K hK => ?_) AllReadyH.nil
      refine step_append_keep tells_req (by rfl) _ _ (by rfl) W0 (unhide BA) vA (0 + (p.reqs.take m).length) ([] ++ newsA) (by rfl) (unhide OA) _ (p.reqs.drop (m + 1)) (by rfl) wz (chain (unhide BQ) (unhide BA)) (unhide src2) (unhide hz2).1 (unhide hz2).2 (fun vB wB newsB rB oB bB _ => ?_)
      have OB := hide oB
      have RB := hide rB
      have BB := hide bB
      clear oB rB bB
      obtain ⟨gA, gN, gC, rfl⟩ := own_slice (unhide OB)
      have q5 := cell_kept (unhide BB) (unhide hq5)
      have z5 := frozen_kept (unhide BB) (unhide hq5) (unhide FZ 5)
      refine hK.out _ _ ?_ (fun hHeld2 => ?_)
      · (try dsimp only)
        exact cell_kept (unhide BB) (unhide g5)
      clear hK K hHeld1
      try simp only [Act.put]
      try simp only [List.setIfInBounds_toArray]
      try simp only [List.set_cons_zero, List.set_cons_succ]
      refine takeH6 (i := 11) (d := 36) (v := ?_) rfl rfl (by kernel_rfl) (by kernel_rfl) (by kernel_rfl) (fun _ _ _ h => h) (Or.inl ⟨by rfl, ?_⟩) (by assumption) ?_
      rotate_left
      · (intro W hSW; (try dsimp only at hSW); go_simp; try (with_reducible rfl))
      try simp only [Act.put]
      try simp only [List.setIfInBounds_toArray]
      try simp only [List.set_cons_zero, List.set_cons_succ]
      refine wpAnyH_ready (rs := [12]) (by kernel_rfl) (by simp) ?_
      refine AllReadyH.cons (o := _) rfl (fun K hK => ?_) AllReadyH.nil
      go_simp
      refine hK.out _ _ ?_ (fun hHeld3 => ?_)
      · (try dsimp only)
        exact put_off (cell_kept (unhide BB) (unhide g5)) (by omega)
      clear hK K hHeld2
      try simp only [Act.put]
      try simp only [List.setIfInBounds_toArray]
      try simp only [List.set_cons_zero, List.set_cons_succ]
      refine wpAnyH_done (by kernel_rfl) ?_ _
      refine NoPanic.normal ?_
      have hHeld := hHeld3
      clear hHeld3

      go_wp2_with fail
      go_meet
      have hlt0 : wz.heap.size < W0.heap.size := World.block_lt_of_cell? (h := unhide hq5) ..
      have hlt2 : m < p.reqs.length := by rw [← unhide HN1]; exact hlt
      refine ⟨.slice gA gN gC, ?_, ?_, ?_, ?_⟩
      · exact (chain (unhide BQ) (unhide BB)).setCell (Nat.le_refl _) _
      · intro i
        rw [set_frozen, (unhide BB).frozen hlt0]
        exact unhide FZ i
      · intro y hy
        simp only [List.mem_cons, List.not_mem_nil, or_false] at hy
        rcases hy with rfl | rfl | rfl | rfl | rfl | rfl | rfl | rfl | rfl | rfl | rfl | rfl <;> first | exact put_at q5 | exact put_off (cell_kept (unhide BB) (unhide QC (_, _) (by simp))) (by simp)
      · have hk := keeps_row (show wz.heap.size + 1 ≤ W0.heap.size from hlt0) (unhide OB) (unhide RA) (unhide RB) (by rw [List.length_append]; omega) (by have := (unhide hz2).2; rw [List.length_append]; omega)
        rw [cut_yes hlt2] at hk
        exact hk.setCell _ _
    · go_wp2_with fail
      go_meet
      exact ⟨.slice a1 n1 c1, BQ, FZ, QC, Or.inl (by rw [← cut_no (by rw [← unhide HN1]; exact hlt)]; exact (unhide HR1).below (unhide HH).gr)⟩
  case rest =>
    clear BQ QC FZ
    obtain ⟨x1, BQ, FZ, QC, KP1⟩ := hcut
    rename World => Wn1
    have gv := cell_kept (unhide BQ) f6
    go_upto_if 41 with fail
    clear gv
    go_cut [52] (fun _ W => ∃ x2, Hid (Below wz.heap.size wz W) ∧ Hid (∀ i, W.frozen? ⟨wz.heap.size, i, none⟩ = false) ∧ Hid (∀ y ∈ [(⟨wz.heap.size, 0, none⟩, .string X0), (⟨wz.heap.size, 1, none⟩, .string X1), (⟨wz.heap.size, 2, none⟩, .int .i64 N0), (⟨wz.heap.size, 3, none⟩, .int .i64 N1), (⟨wz.heap.size, 4, none⟩, .int .i64 P0), (⟨wz.heap.size, 5, none⟩, x1), (⟨wz.heap.size, 6, none⟩, x2), (⟨wz.heap.size, 7, none⟩, .slice a3 n3 c3), (⟨wz.heap.size, 8, none⟩, .slice a4 n4 c4), (⟨wz.heap.size, 9, none⟩, .slice a5 n5 c5), (⟨wz.heap.size, 10, none⟩, .int .i64 S0), (⟨wz.heap.size, 11, none⟩, .string X2)], W.cell? y.1 = some y.2) ∧ Hid (Keeps wz reqK 104 W x1 (cut m p.reqs)) ∧ Hid (Keeps wz tolK 91 W x2 (cut m p.tols)))
    case first =>
      by_cases hlt : m < n2
      · obtain ⟨b, o, rfl, _⟩ := (unhide HR2).at (j := m) (by rw [← unhide HN2]; exact hlt)
        have srcw := (unhide HR2).below (unhide HH).gr
        have hcap := srcw.cap.2
        rw [← unhide HN2] at hcap
        have src1 := hide (srcw.take (k := m) (by rw [← unhide HN2]; omega))
        obtain ⟨A, eA⟩ : ∃ A : Option Addr, (if c2 = m + 1 then some (⟨b, o, none⟩ : Addr) else some ⟨b, o + (m + 1) * 3, none⟩) = A := ⟨_, rfl⟩
        have src2 : Hid (Lst tolK wz (.slice A (n2 - (m + 1)) (c2 - (m + 1))) (p.tols.drop (m + 1))) := by
          show Lst _ _ _ _
          rw [← eA]
          have h8 := unhide HN2
          by_cases hc : c2 = m + 1
          · rw [if_pos hc, List.drop_eq_nil_of_le (by omega), show n2 - (m + 1) = 0 by omega]
            exact lst_zero _ _ _ _
          · rw [if_neg hc]
            exact srcw.drop (k := m + 1) (by omega)
        have hz1 : Hid (0 + (p.tols.take m).length ≤ maxLen ∧ (0 + (p.tols.take m).length) * 40 ≤ 140737488355328) := by
          have := (unhide HLEN).2
          have h9 := List.length_take_le m p.tols
          have h8 := unhide HN2
          unfold maxLen
          show _ ∧ _
          omega
        have hz2 : Hid (0 + (p.tols.take m).length + (p.tols.drop (m + 1)).length ≤ maxLen ∧ (0 + (p.tols.take m).length + (p.tols.drop (m + 1)).length) * 40 ≤ 140737488355328) := by
          have := (unhide HLEN).2
          have h9 := List.length_take_le m p.tols
          have h10 := List.length_drop (l := p.tols) (i := m + 1)
          unfold maxLen
          show _ ∧ _
          omega
        clear srcw
        have g5 := hide (cell_kept (unhide BQ) f6)
        have hq5 : Hid (Wn1.cell? ⟨wz.heap.size, 6, none⟩ = some (.slice (some ⟨b, o, none⟩) n2 c2)) := unhide QC (⟨wz.heap.size, 6, none⟩, .slice (some ⟨b, o, none⟩) n2 c2) (by simp)
        have i0 : (0 : Int) ≤ (m : Int) := by omega
        have i1 : (m : Int) ≤ (c2 : Int) := by omega
        have i2 : (m : Int) + 1 ≤ (n2 : Int) := by omega
        have i3 : (n2 : Int) ≤ (c2 : Int) := by omega
        have i4 : (0 : Int) ≤ (m : Int) + 1 := by omega
        have i5 : (m : Int) + 1 ≤ (c2 : Int) := by omega
        have i6 : IntKind.i64.wrap ((m : Int) + 1) = (m : Int) + 1 := by simp [IntKind.wrap, IntKind.bits, IntKind.signed]; omega
        have i7 : ((m : Int) + 1).toNat = m + 1 := by omega
        have i8 : m + 1 ≤ n2 := by omega
        have hneB : ¬ w.heap.size = wz.heap.size := by have := (unhide HH).gr.size; have := unhide HWC; omega
        go_wp2_with fail
        refine wp_region_noPanic ?_
        refine wp_region_held_drew (S := fun V => V.cell? ⟨w.heap.size, 6, none⟩ = some (.slice (some ⟨b, o, none⟩) n2 c2)) (by kernel_rfl) (cell_kept (below_drew6 _) (unhide g5)) (fun hHeld0 => ?_)
        refine takeH6 (i := 0) (d := 42) (v := ?_) rfl rfl (by kernel_rfl) (by kernel_rfl) (by kernel_rfl) (fun _ _ _ h => h) (Or.inl ⟨by rfl, ?_⟩) (by assumption) ?_
        rotate_left
        · (intro W hSW; (try dsimp only at hSW); go_simp; try (with_reducible rfl))
        try simp only [Act.put, List.setIfInBounds_toArray, List.set_cons_zero, List.set_cons_succ]
        refine takeH6 (i := 1) (d := 43) (v := ?_) rfl rfl (by kernel_rfl) (by kernel_rfl) (by kernel_rfl) (fun _ _ _ h => h) (Or.inl ⟨by rfl, ?_⟩) (by assumption) ?_
        rotate_left
        · (intro W hSW; (try dsimp only at hSW); go_simp; try (with_reducible rfl))
        try simp only [Act.put, List.setIfInBounds_toArray, List.set_cons_zero, List.set_cons_succ]
        refine takeH6 (i := 2) (d := 44) (v := ?_) rfl rfl (by kernel_rfl) (by kernel_rfl) (by kernel_rfl) (fun _ _ _ h => h) (Or.inl ⟨by rfl, ?_⟩) (by assumption) ?_
        rotate_left
        · (intro W hSW; (try dsimp only at hSW); go_simp; try (with_reducible rfl))
        try simp only [Act.put, List.setIfInBounds_toArray, List.set_cons_zero, List.set_cons_succ]
        refine takeH6 (i := 3) (d := 45) (v := ?_) rfl rfl (by kernel_rfl) (by kernel_rfl) (by kernel_rfl) (fun _ _ _ h => h) (Or.inl ⟨by rfl, ?_⟩) (by assumption) ?_
        rotate_left
        · (intro W hSW; (try dsimp only at hSW); go_simp; try (with_reducible rfl))
        try simp only [Act.put, List.setIfInBounds_toArray, List.set_cons_zero, List.set_cons_succ]
        refine takeH6 (i := 5) (d := 47) (v := ?_) rfl rfl (by kernel_rfl) (by kernel_rfl) (by kernel_rfl) (fun _ _ _ h => h) (Or.inl ⟨by rfl, ?_⟩) (by assumption) ?_
        rotate_left
        · (intro W hSW; (try dsimp only at hSW); go_simp; try (with_reducible rfl))
        try simp only [Act.put, List.setIfInBounds_toArray, List.set_cons_zero, List.set_cons_succ]
        refine takeH6 (i := 6) (d := 48) (v := ?_) rfl rfl (by kernel_rfl) (by kernel_rfl) (by kernel_rfl) (fun _ _ _ h => h) (Or.inl ⟨by rfl, ?_⟩) (by assumption) ?_
        rotate_left
        · (intro W hSW; (try dsimp only at hSW); go_simp; try (with_reducible rfl))
        try simp only [Act.put, List.setIfInBounds_toArray, List.set_cons_zero, List.set_cons_succ]
        refine takeH6 (i := 7) (d := 49) (v := ?_) rfl rfl (by kernel_rfl) (by kernel_rfl) (by kernel_rfl) (fun _ _ _ h => h) (Or.inl ⟨by rfl, ?_⟩) (by assumption) ?_
        rotate_left
        · (intro W hSW; (try dsimp only at hSW); go_simp; try (with_reducible rfl))
        try simp only [Act.put, List.setIfInBounds_toArray, List.set_cons_zero, List.set_cons_succ]
        refine takeH6 (i := 8) (d := 50) (v := ?_) rfl rfl (by kernel_rfl) (by kernel_rfl) (by kernel_rfl) (fun _ _ _ h => h) (Or.inl ⟨by rfl, ?_⟩) (by assumption) ?_
        rotate_left
        · (intro W hSW; (try dsimp only at hSW); go_simp; try (with_reducible rfl))
        try simp only [Act.put, List.setIfInBounds_toArray, List.set_cons_zero, List.set_cons_succ]
        refine takeH6 (i := 9) (d := 51) (v := ?_) rfl rfl (by kernel_rfl) (by kernel_rfl) (by kernel_rfl) (fun _ _ _ h => h) (Or.inl ⟨by rfl, ?_⟩) (by assumption) ?_
        rotate_left
        · (intro W hSW; (try dsimp only at hSW); go_simp; try (with_reducible rfl))
        try simp only [Act.put, List.setIfInBounds_toArray, List.set_cons_zero, List.set_cons_succ]
        refine wpAnyH_ready (rs := [4]) (by kernel_rfl) (by simp) ?_
        refine AllReadyH.cons (o := _) rfl (fun K hK => ?_) AllReadyH.nil
        refine step_append_keep tells_tol (by rfl) _ _ (by rfl) Wn1 (below_drew6 _) (.slice none 0 0) 0 [] (by rfl) (World.ownsRow_nil _ _ _ _) _ (p.tols.take m) (by rfl) wz (chain (unhide BQ) (below_drew6 _)) (unhide src1) (unhide hz1).1 (unhide hz1).2 (fun vA wA newsA rA oA bA _ => ?_)
        have OA := hide oA
        have RA := hide rA
        have BA := hide bA
        clear oA rA bA
        refine hK.out _ _ ?_ (fun hHeld1 => ?_)
        · (try dsimp only)
          exact cell_kept (unhide BA) (unhide g5)
        clear hK K hHeld0
        try simp only [Act.put]
        try simp only [List.setIfInBounds_toArray]
        try simp only [List.set_cons_zero, List.set_cons_succ]
        refine wpAnyH_ready (rs := [10]) (by kernel_rfl) (by simp) ?_
        refine AllReadyH.cons (o := _) rfl (fun K hK => ?_) AllReadyH.nil
        refine step_append_keep tells_tol (by rfl) _ _ (by rfl) Wn1 (unhide BA) vA (0 + (p.tols.take m).length) ([] ++ newsA) (by rfl) (unhide OA) _ (p.tols.drop (m + 1)) (by rfl) wz (chain (unhide BQ) (unhide BA)) (unhide src2) (unhide hz2).1 (unhide hz2).2 (fun vB wB newsB rB oB bB _ => ?_)
        have OB := hide oB
        have RB := hide rB
        have BB := hide bB
        clear oB rB bB
        obtain ⟨gA, gN, gC, rfl⟩ := own_slice (unhide OB)
        have q5 := cell_kept (unhide BB) (unhide hq5)
        have z5 := frozen_kept (unhide BB) (unhide hq5) (unhide FZ 6)
        refine hK.out _ _ ?_ (fun hHeld2 => ?_)
        · (try dsimp only)
          exact cell_kept (unhide BB) (unhide g5)
        clear hK K hHeld1
        try simp only [Act.put]
        try simp only [List.setIfInBounds_toArray]
        try simp only [List.set_cons_zero, List.set_cons_succ]
        refine takeH6 (i := 11) (d := 53) (v := ?_) rfl rfl (by kernel_rfl) (by kernel_rfl) (by kernel_rfl) (fun _ _ _ h => h) (Or.inl ⟨by rfl, ?_⟩) (by assumption) ?_
        rotate_left
        · (intro W hSW; (try dsimp only at hSW); go_simp; try (with_reducible rfl))
        try simp only [Act.put]
        try simp only [List.setIfInBounds_toArray]
        try simp only [List.set_cons_zero, List.set_cons_succ]
        refine wpAnyH_ready (rs := [12]) (by kernel_rfl) (by simp) ?_
        refine AllReadyH.cons (o := _) rfl (fun K hK => ?_) AllReadyH.nil
        go_simp
        refine hK.out _ _ ?_ (fun hHeld3 => ?_)
        · (try dsimp only)
          exact put_off (cell_kept (unhide BB) (unhide g5)) (by omega)
        clear hK K hHeld2
        try simp only [Act.put]
        try simp only [List.setIfInBounds_toArray]
        try simp only [List.set_cons_zero, List.set_cons_succ]
        refine wpAnyH_done (by kernel_rfl) ?_ _
        refine NoPanic.normal ?_
        have hHeld := hHeld3
        clear hHeld3

        go_wp2_with fail
        go_meet
        have hlt0 : wz.heap.size < Wn1.heap.size := World.block_lt_of_cell? (h := unhide hq5) ..
        have hlt2 : m < p.tols.length := by rw [← unhide HN2]; exact hlt
        refine ⟨.slice gA gN gC, ?_, ?_, ?_, ((unhide KP1).below (unhide BB)).setCell _ _, ?_⟩
        · exact (chain (unhide BQ) (unhide BB)).setCell (Nat.le_refl _) _
        · intro i
          rw [set_frozen, (unhide BB).frozen hlt0]
          exact unhide FZ i
        · intro y hy
          simp only [List.mem_cons, List.not_mem_nil, or_false] at hy
          rcases hy with rfl | rfl | rfl | rfl | rfl | rfl | rfl | rfl | rfl | rfl | rfl | rfl <;> first | exact put_at q5 | exact put_off (cell_kept (unhide BB) (unhide QC (_, _) (by simp))) (by simp)
        · have hk := keeps_row (show wz.heap.size + 1 ≤ Wn1.heap.size from hlt0) (unhide OB) (unhide RA) (unhide RB) (by rw [List.length_append]; omega) (by have := (unhide hz2).2; rw [List.length_append]; omega)
          rw [cut_yes hlt2] at hk
          exact hk.setCell _ _
      · go_wp2_with fail
        go_meet
        exact ⟨.slice a2 n2 c2, BQ, FZ, QC, KP1, Or.inl (by rw [← cut_no (by rw [← unhide HN2]; exact hlt)]; exact (unhide HR2).below (unhide HH).gr)⟩
    case rest =>
      clear BQ QC FZ
      obtain ⟨x2, BQ, FZ, QC, KP1, KP2⟩ := hcut
      rename World => Wn2
      have gv := cell_kept (unhide BQ) f7
      go_upto_if 58 with fail
      clear gv
      go_cut [69] (fun _ W => ∃ x3, Hid (Below wz.heap.size wz W) ∧ Hid (∀ i, W.frozen? ⟨wz.heap.size, i, none⟩ = false) ∧ Hid (∀ y ∈ [(⟨wz.heap.size, 0, none⟩, .string X0), (⟨wz.heap.size, 1, none⟩, .string X1), (⟨wz.heap.size, 2, none⟩, .int .i64 N0), (⟨wz.heap.size, 3, none⟩, .int .i64 N1), (⟨wz.heap.size, 4, none⟩, .int .i64 P0), (⟨wz.heap.size, 5, none⟩, x1), (⟨wz.heap.size, 6, none⟩, x2), (⟨wz.heap.size, 7, none⟩, x3), (⟨wz.heap.size, 8, none⟩, .slice a4 n4 c4), (⟨wz.heap.size, 9, none⟩, .slice a5 n5 c5), (⟨wz.heap.size, 10, none⟩, .int .i64 S0), (⟨wz.heap.size, 11, none⟩, .string X2)], W.cell? y.1 = some y.2) ∧ Hid (Keeps wz reqK 104 W x1 (cut m p.reqs)) ∧ Hid (Keeps wz tolK 91 W x2 (cut m p.tols)) ∧ Hid (Keeps wz sprK 61 W x3 (cut m p.spread)))
      case first =>
        by_cases hlt : m < n3
        · obtain ⟨b, o, rfl, _⟩ := (unhide HR3).at (j := m) (by rw [← unhide HN3]; exact hlt)
          have srcw := (unhide HR3).below (unhide HH).gr
          have hcap := srcw.cap.2
          rw [← unhide HN3] at hcap
          have src1 := hide (srcw.take (k := m) (by rw [← unhide HN3]; omega))
          obtain ⟨A, eA⟩ : ∃ A : Option Addr, (if c3 = m + 1 then some (⟨b, o, none⟩ : Addr) else some ⟨b, o + (m + 1) * 3, none⟩) = A := ⟨_, rfl⟩
          have src2 : Hid (Lst sprK wz (.slice A (n3 - (m + 1)) (c3 - (m + 1))) (p.spread.drop (m + 1))) := by
            show Lst _ _ _ _
            rw [← eA]
            have h8 := unhide HN3
            by_cases hc : c3 = m + 1
            · rw [if_pos hc, List.drop_eq_nil_of_le (by omega), show n3 - (m + 1) = 0 by omega]
              exact lst_zero _ _ _ _
            · rw [if_neg hc]
              exact srcw.drop (k := m + 1) (by omega)
          have hz1 : Hid (0 + (p.spread.take m).length ≤ maxLen ∧ (0 + (p.spread.take m).length) * 40 ≤ 140737488355328) := by
            have := (unhide HLEN).2
            have h9 := List.length_take_le m p.spread
            have h8 := unhide HN3
            unfold maxLen
            show _ ∧ _
            omega
          have hz2 : Hid (0 + (p.spread.take m).length + (p.spread.drop (m + 1)).length ≤ maxLen ∧ (0 + (p.spread.take m).length + (p.spread.drop (m + 1)).length) * 40 ≤ 140737488355328) := by
            have := (unhide HLEN).2
            have h9 := List.length_take_le m p.spread
            have h10 := List.length_drop (l := p.spread) (i := m + 1)
            unfold maxLen
            show _ ∧ _
            omega
          clear srcw
          have g5 := hide (cell_kept (unhide BQ) f7)
          have hq5 : Hid (Wn2.cell? ⟨wz.heap.size, 7, none⟩ = some (.slice (some ⟨b, o, none⟩) n3 c3)) := unhide QC (⟨wz.heap.size, 7, none⟩, .slice (some ⟨b, o, none⟩) n3 c3) (by simp)
          have i0 : (0 : Int) ≤ (m : Int) := by omega
          have i1 : (m : Int) ≤ (c3 : Int) := by omega
          have i2 : (m : Int) + 1 ≤ (n3 : Int) := by omega
          have i3 : (n3 : Int) ≤ (c3 : Int) := by omega
          have i4 : (0 : Int) ≤ (m : Int) + 1 := by omega
          have i5 : (m : Int) + 1 ≤ (c3 : Int) := by omega
          have i6 : IntKind.i64.wrap ((m : Int) + 1) = (m : Int) + 1 := by simp [IntKind.wrap, IntKind.bits, IntKind.signed]; omega
          have i7 : ((m : Int) + 1).toNat = m + 1 := by omega
          have i8 : m + 1 ≤ n3 := by omega
          have hneB : ¬ w.heap.size = wz.heap.size := by have := (unhide HH).gr.size; have := unhide HWC; omega
          go_wp2_with fail
          refine wp_region_noPanic ?_
          refine wp_region_held_drew (S := fun V => V.cell? ⟨w.heap.size, 7, none⟩ = some (.slice (some ⟨b, o, none⟩) n3 c3)) (by kernel_rfl) (cell_kept (below_drew6 _) (unhide g5)) (fun hHeld0 => ?_)
          refine takeH6 (i := 0) (d := 59) (v := ?_) rfl rfl (by kernel_rfl) (by kernel_rfl) (by kernel_rfl) (fun _ _ _ h => h) (Or.inl ⟨by rfl, ?_⟩) (by assumption) ?_
          rotate_left
          · (intro W hSW; (try dsimp only at hSW); go_simp; try (with_reducible rfl))
          try simp only [Act.put, List.setIfInBounds_toArray, List.set_cons_zero, List.set_cons_succ]
          refine takeH6 (i := 1) (d := 60) (v := ?_) rfl rfl (by kernel_rfl) (by kernel_rfl) (by kernel_rfl) (fun _ _ _ h => h) (Or.inl ⟨by rfl, ?_⟩) (by assumption) ?_
          rotate_left
          · (intro W hSW; (try dsimp only at hSW); go_simp; try (with_reducible rfl))
          try simp only [Act.put, List.setIfInBounds_toArray, List.set_cons_zero, List.set_cons_succ]
          refine takeH6 (i := 2) (d := 61) (v := ?_) rfl rfl (by kernel_rfl) (by kernel_rfl) (by kernel_rfl) (fun _ _ _ h => h) (Or.inl ⟨by rfl, ?_⟩) (by assumption) ?_
          rotate_left
          · (intro W hSW; (try dsimp only at hSW); go_simp; try (with_reducible rfl))
          try simp only [Act.put, List.setIfInBounds_toArray, List.set_cons_zero, List.set_cons_succ]
          refine takeH6 (i := 3) (d := 62) (v := ?_) rfl rfl (by kernel_rfl) (by kernel_rfl) (by kernel_rfl) (fun _ _ _ h => h) (Or.inl ⟨by rfl, ?_⟩) (by assumption) ?_
          rotate_left
          · (intro W hSW; (try dsimp only at hSW); go_simp; try (with_reducible rfl))
          try simp only [Act.put, List.setIfInBounds_toArray, List.set_cons_zero, List.set_cons_succ]
          refine takeH6 (i := 5) (d := 64) (v := ?_) rfl rfl (by kernel_rfl) (by kernel_rfl) (by kernel_rfl) (fun _ _ _ h => h) (Or.inl ⟨by rfl, ?_⟩) (by assumption) ?_
          rotate_left
          · (intro W hSW; (try dsimp only at hSW); go_simp; try (with_reducible rfl))
          try simp only [Act.put, List.setIfInBounds_toArray, List.set_cons_zero, List.set_cons_succ]
          refine takeH6 (i := 6) (d := 65) (v := ?_) rfl rfl (by kernel_rfl) (by kernel_rfl) (by kernel_rfl) (fun _ _ _ h => h) (Or.inl ⟨by rfl, ?_⟩) (by assumption) ?_
          rotate_left
          · (intro W hSW; (try dsimp only at hSW); go_simp; try (with_reducible rfl))
          try simp only [Act.put, List.setIfInBounds_toArray, List.set_cons_zero, List.set_cons_succ]
          refine takeH6 (i := 7) (d := 66) (v := ?_) rfl rfl (by kernel_rfl) (by kernel_rfl) (by kernel_rfl) (fun _ _ _ h => h) (Or.inl ⟨by rfl, ?_⟩) (by assumption) ?_
          rotate_left
          · (intro W hSW; (try dsimp only at hSW); go_simp; try (with_reducible rfl))
          try simp only [Act.put, List.setIfInBounds_toArray, List.set_cons_zero, List.set_cons_succ]
          refine takeH6 (i := 8) (d := 67) (v := ?_) rfl rfl (by kernel_rfl) (by kernel_rfl) (by kernel_rfl) (fun _ _ _ h => h) (Or.inl ⟨by rfl, ?_⟩) (by assumption) ?_
          rotate_left
          · (intro W hSW; (try dsimp only at hSW); go_simp; try (with_reducible rfl))
          try simp only [Act.put, List.setIfInBounds_toArray, List.set_cons_zero, List.set_cons_succ]
          refine takeH6 (i := 9) (d := 68) (v := ?_) rfl rfl (by kernel_rfl) (by kernel_rfl) (by kernel_rfl) (fun _ _ _ h => h) (Or.inl ⟨by rfl, ?_⟩) (by assumption) ?_
          rotate_left
          · (intro W hSW; (try dsimp only at hSW); go_simp; try (with_reducible rfl))
          try simp only [Act.put, List.setIfInBounds_toArray, List.set_cons_zero, List.set_cons_succ]
          refine wpAnyH_ready (rs := [4]) (by kernel_rfl) (by simp) ?_
          refine AllReadyH.cons (o := _) rfl (fun K hK => ?_) AllReadyH.nil
          refine step_append_keep tells_spr (by rfl) _ _ (by rfl) Wn2 (below_drew6 _) (.slice none 0 0) 0 [] (by rfl) (World.ownsRow_nil _ _ _ _) _ (p.spread.take m) (by rfl) wz (chain (unhide BQ) (below_drew6 _)) (unhide src1) (unhide hz1).1 (unhide hz1).2 (fun vA wA newsA rA oA bA _ => ?_)
          have OA := hide oA
          have RA := hide rA
          have BA := hide bA
          clear oA rA bA
          refine hK.out _ _ ?_ (fun hHeld1 => ?_)
          · (try dsimp only)
            exact cell_kept (unhide BA) (unhide g5)
          clear hK K hHeld0
          try simp only [Act.put]
          try simp only [List.setIfInBounds_toArray]
          try simp only [List.set_cons_zero, List.set_cons_succ]
          refine wpAnyH_ready (rs := [10]) (by kernel_rfl) (by simp) ?_
          refine AllReadyH.cons (o := _) rfl (fun K hK => ?_) AllReadyH.nil
          refine step_append_keep tells_spr (by rfl) _ _ (by rfl) Wn2 (unhide BA) vA (0 + (p.spread.take m).length) ([] ++ newsA) (by rfl) (unhide OA) _ (p.spread.drop (m + 1)) (by rfl) wz (chain (unhide BQ) (unhide BA)) (unhide src2) (unhide hz2).1 (unhide hz2).2 (fun vB wB newsB rB oB bB _ => ?_)
          have OB := hide oB
          have RB := hide rB
          have BB := hide bB
          clear oB rB bB
          obtain ⟨gA, gN, gC, rfl⟩ := own_slice (unhide OB)
          have q5 := cell_kept (unhide BB) (unhide hq5)
          have z5 := frozen_kept (unhide BB) (unhide hq5) (unhide FZ 7)
          refine hK.out _ _ ?_ (fun hHeld2 => ?_)
          · (try dsimp only)
            exact cell_kept (unhide BB) (unhide g5)
          clear hK K hHeld1
          try simp only [Act.put]
          try simp only [List.setIfInBounds_toArray]
          try simp only [List.set_cons_zero, List.set_cons_succ]
          refine takeH6 (i := 11) (d := 70) (v := ?_) rfl rfl (by kernel_rfl) (by kernel_rfl) (by kernel_rfl) (fun _ _ _ h => h) (Or.inl ⟨by rfl, ?_⟩) (by assumption) ?_
          rotate_left
          · (intro W hSW; (try dsimp only at hSW); go_simp; try (with_reducible rfl))
          try simp only [Act.put]
          try simp only [List.setIfInBounds_toArray]
          try simp only [List.set_cons_zero, List.set_cons_succ]
          refine wpAnyH_ready (rs := [12]) (by kernel_rfl) (by simp) ?_
          refine AllReadyH.cons (o := _) rfl (fun K hK => ?_) AllReadyH.nil
          go_simp
          refine hK.out _ _ ?_ (fun hHeld3 => ?_)
          · (try dsimp only)
            exact put_off (cell_kept (unhide BB) (unhide g5)) (by omega)
          clear hK K hHeld2
          try simp only [Act.put]
          try simp only [List.setIfInBounds_toArray]
          try simp only [List.set_cons_zero, List.set_cons_succ]
          refine wpAnyH_done (by kernel_rfl) ?_ _
          refine NoPanic.normal ?_
          have hHeld := hHeld3
          clear hHeld3

          go_wp2_with fail
          go_meet
          have hlt0 : wz.heap.size < Wn2.heap.size := World.block_lt_of_cell? (h := unhide hq5) ..
          have hlt2 : m < p.spread.length := by rw [← unhide HN3]; exact hlt
          refine ⟨.slice gA gN gC, ?_, ?_, ?_, ((unhide KP1).below (unhide BB)).setCell _ _, ((unhide KP2).below (unhide BB)).setCell _ _, ?_⟩
          · exact (chain (unhide BQ) (unhide BB)).setCell (Nat.le_refl _) _
          · intro i
            rw [set_frozen, (unhide BB).frozen hlt0]
            exact unhide FZ i
          · intro y hy
            simp only [List.mem_cons, List.not_mem_nil, or_false] at hy
            rcases hy with rfl | rfl | rfl | rfl | rfl | rfl | rfl | rfl | rfl | rfl | rfl | rfl <;> first | exact put_at q5 | exact put_off (cell_kept (unhide BB) (unhide QC (_, _) (by simp))) (by simp)
          · have hk := keeps_row (show wz.heap.size + 1 ≤ Wn2.heap.size from hlt0) (unhide OB) (unhide RA) (unhide RB) (by rw [List.length_append]; omega) (by have := (unhide hz2).2; rw [List.length_append]; omega)
            rw [cut_yes hlt2] at hk
            exact hk.setCell _ _
        · go_wp2_with fail
          go_meet
          exact ⟨.slice a3 n3 c3, BQ, FZ, QC, KP1, KP2, Or.inl (by rw [← cut_no (by rw [← unhide HN3]; exact hlt)]; exact (unhide HR3).below (unhide HH).gr)⟩
      case rest =>
        clear BQ QC FZ
        obtain ⟨x3, BQ, FZ, QC, KP1, KP2, KP3⟩ := hcut
        rename World => Wn3
        have gv := cell_kept (unhide BQ) f8
        go_upto_if 75 with fail
        clear gv
        go_cut [86] (fun _ W => ∃ x4, Hid (Below wz.heap.size wz W) ∧ Hid (∀ i, W.frozen? ⟨wz.heap.size, i, none⟩ = false) ∧ Hid (∀ y ∈ [(⟨wz.heap.size, 0, none⟩, .string X0), (⟨wz.heap.size, 1, none⟩, .string X1), (⟨wz.heap.size, 2, none⟩, .int .i64 N0), (⟨wz.heap.size, 3, none⟩, .int .i64 N1), (⟨wz.heap.size, 4, none⟩, .int .i64 P0), (⟨wz.heap.size, 5, none⟩, x1), (⟨wz.heap.size, 6, none⟩, x2), (⟨wz.heap.size, 7, none⟩, x3), (⟨wz.heap.size, 8, none⟩, x4), (⟨wz.heap.size, 9, none⟩, .slice a5 n5 c5), (⟨wz.heap.size, 10, none⟩, .int .i64 S0), (⟨wz.heap.size, 11, none⟩, .string X2)], W.cell? y.1 = some y.2) ∧ Hid (Keeps wz reqK 104 W x1 (cut m p.reqs)) ∧ Hid (Keeps wz tolK 91 W x2 (cut m p.tols)) ∧ Hid (Keeps wz sprK 61 W x3 (cut m p.spread)) ∧ Hid (Keeps wz trmK 82 W x4 (cut m p.near)))
        case first =>
          by_cases hlt : m < n4
          · obtain ⟨b, o, rfl, _⟩ := (unhide HR4).at (j := m) (by rw [← unhide HN4]; exact hlt)
            have srcw := (unhide HR4).below (unhide HH).gr
            have hcap := srcw.cap.2
            rw [← unhide HN4] at hcap
            have src1 := hide (srcw.take (k := m) (by rw [← unhide HN4]; omega))
            obtain ⟨A, eA⟩ : ∃ A : Option Addr, (if c4 = m + 1 then some (⟨b, o, none⟩ : Addr) else some ⟨b, o + (m + 1) * 2, none⟩) = A := ⟨_, rfl⟩
            have src2 : Hid (Lst trmK wz (.slice A (n4 - (m + 1)) (c4 - (m + 1))) (p.near.drop (m + 1))) := by
              show Lst _ _ _ _
              rw [← eA]
              have h8 := unhide HN4
              by_cases hc : c4 = m + 1
              · rw [if_pos hc, List.drop_eq_nil_of_le (by omega), show n4 - (m + 1) = 0 by omega]
                exact lst_zero _ _ _ _
              · rw [if_neg hc]
                exact srcw.drop (k := m + 1) (by omega)
            have hz1 : Hid (0 + (p.near.take m).length ≤ maxLen ∧ (0 + (p.near.take m).length) * 32 ≤ 140737488355328) := by
              have := (unhide HLEN).2
              have h9 := List.length_take_le m p.near
              have h8 := unhide HN4
              unfold maxLen
              show _ ∧ _
              omega
            have hz2 : Hid (0 + (p.near.take m).length + (p.near.drop (m + 1)).length ≤ maxLen ∧ (0 + (p.near.take m).length + (p.near.drop (m + 1)).length) * 32 ≤ 140737488355328) := by
              have := (unhide HLEN).2
              have h9 := List.length_take_le m p.near
              have h10 := List.length_drop (l := p.near) (i := m + 1)
              unfold maxLen
              show _ ∧ _
              omega
            clear srcw
            have g5 := hide (cell_kept (unhide BQ) f8)
            have hq5 : Hid (Wn3.cell? ⟨wz.heap.size, 8, none⟩ = some (.slice (some ⟨b, o, none⟩) n4 c4)) := unhide QC (⟨wz.heap.size, 8, none⟩, .slice (some ⟨b, o, none⟩) n4 c4) (by simp)
            have i0 : (0 : Int) ≤ (m : Int) := by omega
            have i1 : (m : Int) ≤ (c4 : Int) := by omega
            have i2 : (m : Int) + 1 ≤ (n4 : Int) := by omega
            have i3 : (n4 : Int) ≤ (c4 : Int) := by omega
            have i4 : (0 : Int) ≤ (m : Int) + 1 := by omega
            have i5 : (m : Int) + 1 ≤ (c4 : Int) := by omega
            have i6 : IntKind.i64.wrap ((m : Int) + 1) = (m : Int) + 1 := by simp [IntKind.wrap, IntKind.bits, IntKind.signed]; omega
            have i7 : ((m : Int) + 1).toNat = m + 1 := by omega
            have i8 : m + 1 ≤ n4 := by omega
            have hneB : ¬ w.heap.size = wz.heap.size := by have := (unhide HH).gr.size; have := unhide HWC; omega
            go_wp2_with fail
            refine wp_region_noPanic ?_
            refine wp_region_held_drew (S := fun V => V.cell? ⟨w.heap.size, 8, none⟩ = some (.slice (some ⟨b, o, none⟩) n4 c4)) (by kernel_rfl) (cell_kept (below_drew6 _) (unhide g5)) (fun hHeld0 => ?_)
            refine takeH6 (i := 0) (d := 76) (v := ?_) rfl rfl (by kernel_rfl) (by kernel_rfl) (by kernel_rfl) (fun _ _ _ h => h) (Or.inl ⟨by rfl, ?_⟩) (by assumption) ?_
            rotate_left
            · (intro W hSW; (try dsimp only at hSW); go_simp; try (with_reducible rfl))
            try simp only [Act.put, List.setIfInBounds_toArray, List.set_cons_zero, List.set_cons_succ]
            refine takeH6 (i := 1) (d := 77) (v := ?_) rfl rfl (by kernel_rfl) (by kernel_rfl) (by kernel_rfl) (fun _ _ _ h => h) (Or.inl ⟨by rfl, ?_⟩) (by assumption) ?_
            rotate_left
            · (intro W hSW; (try dsimp only at hSW); go_simp; try (with_reducible rfl))
            try simp only [Act.put, List.setIfInBounds_toArray, List.set_cons_zero, List.set_cons_succ]
            refine takeH6 (i := 2) (d := 78) (v := ?_) rfl rfl (by kernel_rfl) (by kernel_rfl) (by kernel_rfl) (fun _ _ _ h => h) (Or.inl ⟨by rfl, ?_⟩) (by assumption) ?_
            rotate_left
            · (intro W hSW; (try dsimp only at hSW); go_simp; try (with_reducible rfl))
            try simp only [Act.put, List.setIfInBounds_toArray, List.set_cons_zero, List.set_cons_succ]
            refine takeH6 (i := 3) (d := 79) (v := ?_) rfl rfl (by kernel_rfl) (by kernel_rfl) (by kernel_rfl) (fun _ _ _ h => h) (Or.inl ⟨by rfl, ?_⟩) (by assumption) ?_
            rotate_left
            · (intro W hSW; (try dsimp only at hSW); go_simp; try (with_reducible rfl))
            try simp only [Act.put, List.setIfInBounds_toArray, List.set_cons_zero, List.set_cons_succ]
            refine takeH6 (i := 5) (d := 81) (v := ?_) rfl rfl (by kernel_rfl) (by kernel_rfl) (by kernel_rfl) (fun _ _ _ h => h) (Or.inl ⟨by rfl, ?_⟩) (by assumption) ?_
            rotate_left
            · (intro W hSW; (try dsimp only at hSW); go_simp; try (with_reducible rfl))
            try simp only [Act.put, List.setIfInBounds_toArray, List.set_cons_zero, List.set_cons_succ]
            refine takeH6 (i := 6) (d := 82) (v := ?_) rfl rfl (by kernel_rfl) (by kernel_rfl) (by kernel_rfl) (fun _ _ _ h => h) (Or.inl ⟨by rfl, ?_⟩) (by assumption) ?_
            rotate_left
            · (intro W hSW; (try dsimp only at hSW); go_simp; try (with_reducible rfl))
            try simp only [Act.put, List.setIfInBounds_toArray, List.set_cons_zero, List.set_cons_succ]
            refine takeH6 (i := 7) (d := 83) (v := ?_) rfl rfl (by kernel_rfl) (by kernel_rfl) (by kernel_rfl) (fun _ _ _ h => h) (Or.inl ⟨by rfl, ?_⟩) (by assumption) ?_
            rotate_left
            · (intro W hSW; (try dsimp only at hSW); go_simp; try (with_reducible rfl))
            try simp only [Act.put, List.setIfInBounds_toArray, List.set_cons_zero, List.set_cons_succ]
            refine takeH6 (i := 8) (d := 84) (v := ?_) rfl rfl (by kernel_rfl) (by kernel_rfl) (by kernel_rfl) (fun _ _ _ h => h) (Or.inl ⟨by rfl, ?_⟩) (by assumption) ?_
            rotate_left
            · (intro W hSW; (try dsimp only at hSW); go_simp; try (with_reducible rfl))
            try simp only [Act.put, List.setIfInBounds_toArray, List.set_cons_zero, List.set_cons_succ]
            refine takeH6 (i := 9) (d := 85) (v := ?_) rfl rfl (by kernel_rfl) (by kernel_rfl) (by kernel_rfl) (fun _ _ _ h => h) (Or.inl ⟨by rfl, ?_⟩) (by assumption) ?_
            rotate_left
            · (intro W hSW; (try dsimp only at hSW); go_simp; try (with_reducible rfl))
            try simp only [Act.put, List.setIfInBounds_toArray, List.set_cons_zero, List.set_cons_succ]
            refine wpAnyH_ready (rs := [4]) (by kernel_rfl) (by simp) ?_
            refine AllReadyH.cons (o := _) rfl (fun K hK => ?_) AllReadyH.nil
            refine step_append_keep tells_trm (by rfl) _ _ (by rfl) Wn3 (below_drew6 _) (.slice none 0 0) 0 [] (by rfl) (World.ownsRow_nil _ _ _ _) _ (p.near.take m) (by rfl) wz (chain (unhide BQ) (below_drew6 _)) (unhide src1) (unhide hz1).1 (unhide hz1).2 (fun vA wA newsA rA oA bA _ => ?_)
            have OA := hide oA
            have RA := hide rA
            have BA := hide bA
            clear oA rA bA
            refine hK.out _ _ ?_ (fun hHeld1 => ?_)
            · (try dsimp only)
              exact cell_kept (unhide BA) (unhide g5)
            clear hK K hHeld0
            try simp only [Act.put]
            try simp only [List.setIfInBounds_toArray]
            try simp only [List.set_cons_zero, List.set_cons_succ]
            refine wpAnyH_ready (rs := [10]) (by kernel_rfl) (by simp) ?_
            refine AllReadyH.cons (o := _) rfl (fun K hK => ?_) AllReadyH.nil
            refine step_append_keep tells_trm (by rfl) _ _ (by rfl) Wn3 (unhide BA) vA (0 + (p.near.take m).length) ([] ++ newsA) (by rfl) (unhide OA) _ (p.near.drop (m + 1)) (by rfl) wz (chain (unhide BQ) (unhide BA)) (unhide src2) (unhide hz2).1 (unhide hz2).2 (fun vB wB newsB rB oB bB _ => ?_)
            have OB := hide oB
            have RB := hide rB
            have BB := hide bB
            clear oB rB bB
            obtain ⟨gA, gN, gC, rfl⟩ := own_slice (unhide OB)
            have q5 := cell_kept (unhide BB) (unhide hq5)
            have z5 := frozen_kept (unhide BB) (unhide hq5) (unhide FZ 8)
            refine hK.out _ _ ?_ (fun hHeld2 => ?_)
            · (try dsimp only)
              exact cell_kept (unhide BB) (unhide g5)
            clear hK K hHeld1
            try simp only [Act.put]
            try simp only [List.setIfInBounds_toArray]
            try simp only [List.set_cons_zero, List.set_cons_succ]
            refine takeH6 (i := 11) (d := 87) (v := ?_) rfl rfl (by kernel_rfl) (by kernel_rfl) (by kernel_rfl) (fun _ _ _ h => h) (Or.inl ⟨by rfl, ?_⟩) (by assumption) ?_
            rotate_left
            · (intro W hSW; (try dsimp only at hSW); go_simp; try (with_reducible rfl))
            try simp only [Act.put]
            try simp only [List.setIfInBounds_toArray]
            try simp only [List.set_cons_zero, List.set_cons_succ]
            refine wpAnyH_ready (rs := [12]) (by kernel_rfl) (by simp) ?_
            refine AllReadyH.cons (o := _) rfl (fun K hK => ?_) AllReadyH.nil
            go_simp
            refine hK.out _ _ ?_ (fun hHeld3 => ?_)
            · (try dsimp only)
              exact put_off (cell_kept (unhide BB) (unhide g5)) (by omega)
            clear hK K hHeld2
            try simp only [Act.put]
            try simp only [List.setIfInBounds_toArray]
            try simp only [List.set_cons_zero, List.set_cons_succ]
            refine wpAnyH_done (by kernel_rfl) ?_ _
            refine NoPanic.normal ?_
            have hHeld := hHeld3
            clear hHeld3

            go_wp2_with fail
            go_meet
            have hlt0 : wz.heap.size < Wn3.heap.size := World.block_lt_of_cell? (h := unhide hq5) ..
            have hlt2 : m < p.near.length := by rw [← unhide HN4]; exact hlt
            refine ⟨.slice gA gN gC, ?_, ?_, ?_, ((unhide KP1).below (unhide BB)).setCell _ _, ((unhide KP2).below (unhide BB)).setCell _ _, ((unhide KP3).below (unhide BB)).setCell _ _, ?_⟩
            · exact (chain (unhide BQ) (unhide BB)).setCell (Nat.le_refl _) _
            · intro i
              rw [set_frozen, (unhide BB).frozen hlt0]
              exact unhide FZ i
            · intro y hy
              simp only [List.mem_cons, List.not_mem_nil, or_false] at hy
              rcases hy with rfl | rfl | rfl | rfl | rfl | rfl | rfl | rfl | rfl | rfl | rfl | rfl <;> first | exact put_at q5 | exact put_off (cell_kept (unhide BB) (unhide QC (_, _) (by simp))) (by simp)
            · have hk := keeps_row (show wz.heap.size + 1 ≤ Wn3.heap.size from hlt0) (unhide OB) (unhide RA) (unhide RB) (by rw [List.length_append]; omega) (by have := (unhide hz2).2; rw [List.length_append]; omega)
              rw [cut_yes hlt2] at hk
              exact hk.setCell _ _
          · go_wp2_with fail
            go_meet
            exact ⟨.slice a4 n4 c4, BQ, FZ, QC, KP1, KP2, KP3, Or.inl (by rw [← cut_no (by rw [← unhide HN4]; exact hlt)]; exact (unhide HR4).below (unhide HH).gr)⟩
        case rest =>
          clear BQ QC FZ
          obtain ⟨x4, BQ, FZ, QC, KP1, KP2, KP3, KP4⟩ := hcut
          rename World => Wn4
          have kQ : Hid (Calls Tryz.prog 12 #[.agg #[.string X0, .string X1, .int .i64 N0, .int .i64 N1, .int .i64 P0, x1, x2, x3, x4, .slice a5 n5 c5, .int .i64 S0, .string X2]] Wn4 fun e w' => e = .returned (.int .i64 0) ∧ Below Wn4.heap.size Wn4 w') := by
            have hbw := chain (unhide HH).gr (unhide BQ)
            have hLEN := unhide HLEN
            have q1 := (unhide KP1).lst (unhide BQ)
            have q2 := (unhide KP2).lst (unhide BQ)
            have hr := reachBytes_lt8
            have l1 := (cut_sub m p.reqs).length_le
            have l2 := (cut_sub m p.tols).length_le
            have hb1 : (cut m p.reqs).length * 56 ≤ reachBytes := by have := hLEN.2.1; omega
            have hb2 : (cut m p.tols).length * 40 ≤ reachBytes := by have := hLEN.2.2.1; omega
            have := ppod_any (lessPod m p) x1 x2 x3 x4 (.slice a5 n5 c5) Wn4 ((unhide HL).below hbw) ⟨(unhide HI).n1, (unhide HI).n2, (unhide HI).n3, lst_reqs q1 hb1, lst_tols q2 hb2, (unhide KP3).lst (unhide BQ), (unhide KP4).lst (unhide BQ), (unhide HI).ap.below hbw⟩
            rw [less_pod m p hLEN.1] at this
            unfold podA at this
            obtain ⟨e0, e1, e2, e3⟩ := unhide HNN
            rw [unhide HX0, unhide HX1, unhide HX2, e0, e1, e2, e3]
            exact this
          have BW := hide (chain (unhide HH).gr (unhide BQ))
          have r0 : Wn4.cell? ⟨wz.heap.size, 0, none⟩ = some (.string X0) := unhide QC (_, _) (by simp)
          have r1 : Wn4.cell? ⟨wz.heap.size, 1, none⟩ = some (.string X1) := unhide QC (_, _) (by simp)
          have r2 : Wn4.cell? ⟨wz.heap.size, 2, none⟩ = some (.int .i64 N0) := unhide QC (_, _) (by simp)
          have r3 : Wn4.cell? ⟨wz.heap.size, 3, none⟩ = some (.int .i64 N1) := unhide QC (_, _) (by simp)
          have r4 : Wn4.cell? ⟨wz.heap.size, 4, none⟩ = some (.int .i64 P0) := unhide QC (_, _) (by simp)
          have r5 : Wn4.cell? ⟨wz.heap.size, 5, none⟩ = some (x1) := unhide QC (_, _) (by simp)
          have r6 : Wn4.cell? ⟨wz.heap.size, 6, none⟩ = some (x2) := unhide QC (_, _) (by simp)
          have r7 : Wn4.cell? ⟨wz.heap.size, 7, none⟩ = some (x3) := unhide QC (_, _) (by simp)
          have r8 : Wn4.cell? ⟨wz.heap.size, 8, none⟩ = some (x4) := unhide QC (_, _) (by simp)
          have r9 : Wn4.cell? ⟨wz.heap.size, 9, none⟩ = some (.slice a5 n5 c5) := unhide QC (_, _) (by simp)
          have r10 : Wn4.cell? ⟨wz.heap.size, 10, none⟩ = some (.int .i64 S0) := unhide QC (_, _) (by simp)
          have r11 : Wn4.cell? ⟨wz.heap.size, 11, none⟩ = some (.string X2) := unhide QC (_, _) (by simp)
          clear f0 f1 f2 f3 f4 f5 f6 f7 f8 f9 f10 f11
          go_wp2_with fail
          refine (unhide kQ).mono ?_
          rintro e w9 ⟨rfl, hw9⟩
          have B9 := hide (chain (unhide BW) hw9)
          clear hw9
          go_wp2_with fail
          go_ret
          exact ⟨rfl, unhide B9⟩
end Go.Proofs.YthaldbjnnbllbaaGreatDoor.objectLess
