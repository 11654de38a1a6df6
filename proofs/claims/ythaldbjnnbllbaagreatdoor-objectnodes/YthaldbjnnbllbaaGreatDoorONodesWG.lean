/- ObjectNodes: the walk -/
import Derived.Test.YthaldbjnnbllbaaGreatDoorO8TG
namespace Go.Proofs.YthaldbjnnbllbaaGreatDoor.objectNodes
open Go.RowKit Suf Val

set_option maxRecDepth 100000 in
set_option maxHeartbeats 32000000 in
theorem walk (p : VCmd) (u1 u2 : Value) (w : World) (h : CmdIn w p u1 u2) (hL : Laid w) :
    Calls Tryz.prog 5 #[cmdA p u1 u2] w fun e w' => e = .returned (.bool true) ∧ Below w.heap.size w w' := by
  have HL := hide hL
  have kC : Hid (∀ V, Below w.heap.size w V → Calls Tryz.prog 15 #[cmdA p u1 u2] V fun e w' => e = .returned (.int .i64 (cmdR p)) ∧ Below V.heap.size V w') := fun V hb => pcmd_any p u1 u2 V (h.below hb)
  have kOne : Hid (cmdR p = 0 → ∀ y ∈ p.nodes, short y → ∀ (V : World) (B : Nat), Below w.heap.size w V → V.cell? ⟨B, 0, none⟩ = some (.string (bytesT y)) → Calls Tryz.prog 15 #[.agg #[.int .i64 p.cause, .slice (some ⟨B, 0, none⟩) 1 1, .int .i64 p.step, .int .i64 p.til, .string (bytesT p.fresh), .string (bytesT p.pool), u2, .bool p.made]] V fun e w' => e = .returned (.int .i64 0) ∧ Below V.heap.size V w') := fun hz y hy hs V B hb hc => by
    have := pcmd_any (oneNode y p) (.slice (some ⟨B, 0, none⟩) 1 1) u2 V ⟨h.n1, h.n2, strs1 hs hc, h.ops.below hb⟩
    rw [(cmd_nodes p hz).2.2.1 y hy] at this
    exact this
  have hmany : Hid (cmdR p = 0 → 1 ≤ p.nodes.length ∧ p.nodes.length ≤ 4) := fun hz => ⟨(cmd_nodes p hz).1, (cmd_nodes p hz).2.1⟩
  have hris : Hid (cmdR p = 0 → ∀ i x y, p.nodes[i]? = some x → p.nodes[i + 1]? = some y → lt x y = true) := fun hz => (cmd_nodes p hz).2.2.2
  have hq1 := h.nd
  obtain ⟨a1, c1, hu1⟩ := h.nd.val
  obtain ⟨n1, hn1⟩ : ∃ n, n = p.nodes.length := ⟨_, rfl⟩
  obtain ⟨a2, c2, hu2⟩ := h.ops.val
  obtain ⟨n2, hn2⟩ : ∃ n, n = p.opts.length := ⟨_, rfl⟩
  unfold cmdA at kC ⊢
  rw [hu1] at kC hq1 ⊢
  rw [← hn1] at kC hq1 hmany ⊢
  rw [hu2] at kC kOne ⊢
  rw [← hn2] at kC kOne ⊢
  obtain ⟨R, hR⟩ : ∃ R, R = cmdR p := ⟨_, rfl⟩
  rw [← hR] at kC kOne hmany hris
  obtain ⟨X0, hX0⟩ : ∃ z, z = bytesT p.fresh := ⟨_, rfl⟩
  obtain ⟨X1, hX1⟩ : ∃ z, z = bytesT p.pool := ⟨_, rfl⟩
  obtain ⟨C0, hC0⟩ : ∃ z, z = p.cause := ⟨_, rfl⟩
  obtain ⟨T0, hT0⟩ : ∃ z, z = p.step := ⟨_, rfl⟩
  obtain ⟨U0, hU0⟩ : ∃ z, z = p.til := ⟨_, rfl⟩
  obtain ⟨D0, hD0⟩ : ∃ z, z = p.made := ⟨_, rfl⟩
  obtain ⟨l, hl⟩ : ∃ l, l = p.nodes := ⟨_, rfl⟩
  rw [← hX0, ← hX1, ← hC0, ← hT0, ← hU0, ← hD0] at kC kOne ⊢
  rw [← hl] at kOne hris hn1 hq1
  have hlen := hq1.len
  rw [← hn1] at hlen
  have HV := hide hq1
  have HN := hide hn1
  clear h hL hR hu1 hn1 hu2 hn2 hq1 hl hX0 hX1 hC0 hT0 hU0 hD0
  obtain ⟨W1, hW1⟩ : ∃ W, W = w.alloc (.cells #[.int .i64 C0, .slice a1 n1 c1, .int .i64 T0, .int .i64 U0, .string X0, .string X1, .slice a2 n2 c2, .bool D0] 40) := ⟨_, rfl⟩
  have HH : Hid (HeldS w [(⟨w.heap.size, 0, none⟩, .int .i64 C0), (⟨w.heap.size, 1, none⟩, .slice a1 n1 c1), (⟨w.heap.size, 2, none⟩, .int .i64 T0), (⟨w.heap.size, 3, none⟩, .int .i64 U0), (⟨w.heap.size, 4, none⟩, .string X0), (⟨w.heap.size, 5, none⟩, .string X1), (⟨w.heap.size, 6, none⟩, .slice a2 n2 c2), (⟨w.heap.size, 7, none⟩, .bool D0)] W1) := by
    rw [hW1]
    exact ⟨boxb _, fun x hx => by simp only [List.mem_cons, List.not_mem_nil, or_false] at hx; rcases hx with rfl | rfl | rfl | rfl | rfl | rfl | rfl | rfl <;> simp [go_sem]⟩
  have GW := hide hW1
  clear hW1
  go_enter Tryz.func5, Tryz.ntmps5
  go_wp2_with fail
  rw [← unhide GW]
  refine (live8_any _ ((unhide HL).below (unhide HH).gr)).mono ?_
  rintro e w9 ⟨rfl, hw9⟩
  replace HH := hide ((unhide HH).below hw9)
  clear hw9 GW
  have f0 := (unhide HH).at 0 rfl
  have f1 := (unhide HH).at 1 rfl
  have f2 := (unhide HH).at 2 rfl
  have f3 := (unhide HH).at 3 rfl
  have f4 := (unhide HH).at 4 rfl
  have f5 := (unhide HH).at 5 rfl
  have f6 := (unhide HH).at 6 rfl
  have f7 := (unhide HH).at 7 rfl
  go_wp2_with fail
  clear f0 f1 f2 f3 f4 f5 f6 f7
  refine (unhide kC _ (unhide HH).gr).mono ?_
  rintro e w9 ⟨rfl, hw9⟩
  replace HH := hide ((unhide HH).below hw9)
  clear hw9 kC
  by_cases hz : ¬ R = 0
  · have hb := nz hz
    go_wp2_with fail
    go_ret
    exact ⟨rfl, (unhide HH).gr⟩
  have hz2 := Decidable.of_not_not hz
  clear hz
  subst hz2
  replace kOne := hide (unhide kOne rfl)
  replace hris := hide (unhide hris rfl)
  obtain ⟨m1, m4⟩ := unhide hmany rfl
  clear hmany
  have f1 := (unhide HH).at 1 rfl
  go_wp2_with fail
  clear f1
  go_loopw [15] (fun i W => ∃ k : Nat, k ≤ n1 ∧ i = .int .i64 k ∧ Hid (HeldS w [(⟨w.heap.size, 0, none⟩, .int .i64 C0), (⟨w.heap.size, 1, none⟩, .slice a1 n1 c1), (⟨w.heap.size, 2, none⟩, .int .i64 T0), (⟨w.heap.size, 3, none⟩, .int .i64 U0), (⟨w.heap.size, 4, none⟩, .string X0), (⟨w.heap.size, 5, none⟩, .string X1), (⟨w.heap.size, 6, none⟩, .slice a2 n2 c2), (⟨w.heap.size, 7, none⟩, .bool D0)] W)) (fun i _ => n1 - (intOf i).toNat)
  case atStart => exact ⟨0, Nat.zero_le _, rfl, HH⟩
  case round =>
    clear HH
    obtain ⟨k, hk, rfl, HH⟩ := hrel
    by_cases hlt : k < n1
    · have hlk : k < l.length := by rw [← unhide HN]; exact hlt
      obtain ⟨b, o, rfl, hat⟩ := ((unhide HV).below (unhide HH).gr).at hlk
      obtain ⟨y, hy⟩ : ∃ y, y = l[k] := ⟨_, rfl⟩
      have hmem : y ∈ l := by rw [hy]; exact List.getElem_mem hlk
      rw [← hy] at hat
      obtain ⟨h0, hs0⟩ := at_str.1 hat
      rw [show strK.size = 1 from rfl, Nat.mul_one] at h0
      have k2 := hide (fun (V : World) (B : Nat) => unhide kOne y hmem hs0 V B)
      obtain ⟨X, hX⟩ : ∃ X, X = bytesT y := ⟨_, rfl⟩
      rw [← hX] at h0 k2
      have f0 := (unhide HH).at 0 rfl
      have f1 := (unhide HH).at 1 rfl
      have f2 := (unhide HH).at 2 rfl
      have f3 := (unhide HH).at 3 rfl
      have f4 := (unhide HH).at 4 rfl
      have f5 := (unhide HH).at 5 rfl
      have f6 := (unhide HH).at 6 rfl
      have f7 := (unhide HH).at 7 rfl
      cases k with
      | zero =>
        rw [Nat.add_zero] at h0
        clear hX hat hs0 hmem hy hlk
        go_wp2_with fail
        refine (unhide k2 _ _ (chain (unhide HH).gr (by repeat (first | exact Below.refl _ _ | refine Below.alloc ?_ (by simp <;> omega) _ | refine Below.setCell ?_ (by simp <;> omega) _))) (by simp [go_sem])).mono ?_
        rintro e w9 ⟨rfl, hw9⟩
        replace HH := hide ((unhide HH).below (chain (by repeat (first | exact Below.refl _ _ | refine Below.alloc ?_ (by simp <;> omega) _ | refine Below.setCell ?_ (by simp <;> omega) _)) hw9))
        clear hw9 h0
        clear f0 f1 f2 f3 f4 f5 f6 f7
        go_wp2_with fail
        exact ⟨⟨1, by omega, by go_num, HH⟩, by simp [intOf]; omega⟩
      | succ m =>
        have hlm : m < l.length := by rw [← unhide HN]; omega
        obtain ⟨b', o', eb, hat2⟩ := ((unhide HV).below (unhide HH).gr).at hlm
        obtain ⟨rfl, rfl⟩ : b = b' ∧ o = o' := by injection eb with eb; injection eb with e1 e2 _; exact ⟨e1, e2⟩
        obtain ⟨x, hx⟩ : ∃ x, x = l[m] := ⟨_, rfl⟩
        rw [← hx] at hat2
        obtain ⟨g0, _⟩ := at_str.1 hat2
        rw [show strK.size = 1 from rfl, Nat.mul_one] at g0
        have hg : (Op.bytesLess (bytesT x).toList (bytesT y).toList) = true := by
          rw [Lib.toList_data, Lib.toList_data]
          exact unhide hris m x y (by rw [hx]; exact List.getElem?_eq_getElem hlm) (by rw [hy]; exact List.getElem?_eq_getElem hlk)
        obtain ⟨Z, hZ⟩ : ∃ X, X = bytesT x := ⟨_, rfl⟩
        rw [← hX, ← hZ] at hg
        rw [← hZ] at g0
        clear hX hZ hat hat2 hs0 hmem hy hx hlk hlm eb
        have e2 : ((m + 1 : Nat) : Int) = (m : Int) + 1 := by omega
        have i0 : (0 : Int) ≤ (m : Int) := by omega
        have i1 : (m : Int) < (n1 : Int) := by omega
        rw [e2]
        clear e2
        go_wp2_with fail
        refine (unhide k2 _ _ (chain (unhide HH).gr (by repeat (first | exact Below.refl _ _ | refine Below.alloc ?_ (by simp <;> omega) _ | refine Below.setCell ?_ (by simp <;> omega) _))) (by simp [go_sem])).mono ?_
        rintro e w9 ⟨rfl, hw9⟩
        replace HH := hide ((unhide HH).below (chain (by repeat (first | exact Below.refl _ _ | refine Below.alloc ?_ (by simp <;> omega) _ | refine Below.setCell ?_ (by simp <;> omega) _)) hw9))
        clear hw9 h0 g0 hg
        clear f0 f1 f2 f3 f4 f5 f6 f7
        go_wp2_with fail
        exact ⟨⟨m + 1 + 1, by omega, by go_num, HH⟩, by simp [intOf]; omega⟩
    · obtain rfl : k = n1 := by omega
      have f1 := (unhide HH).at 1 rfl
      have m1' : (1 : Int) ≤ (k : Int) := by omega
      have m4' : (k : Int) ≤ 4 := by omega
      go_wp2_with fail
      go_ret
      exact ⟨by first | rfl | simp [m1, m4] | (simp; omega), (unhide HH).gr⟩
end Go.Proofs.YthaldbjnnbllbaaGreatDoor.objectNodes
