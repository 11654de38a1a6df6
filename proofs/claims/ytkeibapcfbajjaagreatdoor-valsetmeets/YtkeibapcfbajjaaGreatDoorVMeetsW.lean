/- The walk of ValsetMeets. -/
import Derived.Test.YtkeibapcfbajjaaGreatDoorV3RM
import Derived.Test.YtkeibapcfbajjaaGreatDoorV3OW
import Derived.Test.YtkeibapcfbajjaaGreatDoorV3UB
namespace Go.Proofs.YtkeibapcfbajjaaGreatDoor.valsetMeets
open Go.RowKit Suf Val Go.Maps

theorem Own.other {w w' : World} {r : Option Nat} {base : Nat} {v : Value} {l : List Txt} (h : Own w base v l) (hg : w.grownBy w' r) (hne : ∀ k j, r = some k → v.ownBlock = some j → j ≠ k) : Own w' base v l :=
  ⟨h.1.kept hg (by
    cases hv : v.ownBlock with
    | none => exact Or.inl rfl
    | some b => exact Or.inr (fun e => hne b b e.symm hv rfl)), h.2⟩
set_option maxRecDepth 100000 in
set_option maxHeartbeats 8000000 in
theorem walk (m0 n0 q0 : Bool) (u0 : Value) (l0 : List Txt) (lo0 hi0 : Int) (m1 n1 q1 : Bool) (u1 : Value) (l1 : List Txt) (lo1 hi1 : Int) (w : World) (hu0 : Strs w u0 l0) (hl0 : l0.length ≤ 8796093022208) (hu1 : Strs w u1 l1) (hl1 : l1.length ≤ 8796093022208) (hL : Laid w) :
    Calls Tryz.prog 6 #[.agg #[.bool m0, .bool n0, .bool q0, u0, .int .i64 lo0, .int .i64 hi0], .agg #[.bool m1, .bool n1, .bool q1, u1, .int .i64 lo1, .int .i64 hi1]] w fun e w' => e = .returned (.bool true) ∧ Below w.heap.size w w' := by
  have HL := hide hL
  have HL0 := hide hl0
  have HL1 := hide hl1
  clear hL hl0 hl1
  have U0 := hide hu0
  obtain ⟨a0, c0, rfl⟩ := hu0.val
  clear hu0
  obtain ⟨k0, hk0⟩ : ∃ n, n = l0.length := ⟨_, rfl⟩
  rw [← hk0] at U0 ⊢
  have HN0 := hide hk0
  clear hk0
  have U1 := hide hu1
  obtain ⟨a1, c1, rfl⟩ := hu1.val
  clear hu1
  obtain ⟨k1, hk1⟩ : ∃ n, n = l1.length := ⟨_, rfl⟩
  rw [← hk1] at U1 ⊢
  have HN1 := hide hk1
  clear hk1
  obtain ⟨W0, hW0⟩ : ∃ W0, W0 = ((((w.alloc (.cells #[.bool m0, .bool n0, .bool q0, .slice a0 k0 c0, .int .i64 lo0, .int .i64 hi0] 26)).alloc (.cells #[.bool m1, .bool n1, .bool q1, .slice a1 k1 c1, .int .i64 lo1, .int .i64 hi1] 26)).alloc (.cells #[.bool m0, .bool n0, .bool q0, .slice a0 k0 c0, .int .i64 lo0, .int .i64 hi0] 26)).alloc (.cells #[.bool m1, .bool n1, .bool q1, .slice a1 k1 c1, .int .i64 lo1, .int .i64 hi1] 26)) := ⟨_, rfl⟩
  have B0 : Hid (Below w.heap.size w W0) := by rw [hW0]; exact ((((box_below _).alloc (by simp) _).alloc (by simp; omega) _).alloc (by simp; omega) _)
  have A0 : Hid (Box6 W0 (w.heap.size) (.bool m0) (.bool n0) (.bool q0) (.slice a0 k0 c0) (.int .i64 lo0) (.int .i64 hi0)) := by rw [hW0]; exact (((((((box6_new w (.bool m0) (.bool n0) (.bool q0) (.slice a0 k0 c0) (.int .i64 lo0) (.int .i64 hi0) 26)).below (box_below _))).below (box_below _))).below (box_below _))
  have C0 : Hid (Box6 W0 (w.heap.size + 1) (.bool m1) (.bool n1) (.bool q1) (.slice a1 k1 c1) (.int .i64 lo1) (.int .i64 hi1)) := by
    have := (box6_new (w.alloc (.cells #[.bool m0, .bool n0, .bool q0, .slice a0 k0 c0, .int .i64 lo0, .int .i64 hi0] 26)) (.bool m1) (.bool n1) (.bool q1) (.slice a1 k1 c1) (.int .i64 lo1) (.int .i64 hi1) 26)
    rw [show (w.alloc (.cells #[.bool m0, .bool n0, .bool q0, .slice a0 k0 c0, .int .i64 lo0, .int .i64 hi0] 26)).heap.size = w.heap.size + 1 by simp] at this
    rw [hW0]; exact ((((this).below (box_below _))).below (box_below _))
  have X0 : Hid (Box6 W0 (w.heap.size + 1 + 1) (.bool m0) (.bool n0) (.bool q0) (.slice a0 k0 c0) (.int .i64 lo0) (.int .i64 hi0)) := by
    have := (box6_new ((w.alloc (.cells #[.bool m0, .bool n0, .bool q0, .slice a0 k0 c0, .int .i64 lo0, .int .i64 hi0] 26)).alloc (.cells #[.bool m1, .bool n1, .bool q1, .slice a1 k1 c1, .int .i64 lo1, .int .i64 hi1] 26)) (.bool m0) (.bool n0) (.bool q0) (.slice a0 k0 c0) (.int .i64 lo0) (.int .i64 hi0) 26)
    rw [show ((w.alloc (.cells #[.bool m0, .bool n0, .bool q0, .slice a0 k0 c0, .int .i64 lo0, .int .i64 hi0] 26)).alloc (.cells #[.bool m1, .bool n1, .bool q1, .slice a1 k1 c1, .int .i64 lo1, .int .i64 hi1] 26)).heap.size = w.heap.size + 1 + 1 by simp] at this
    rw [hW0]; exact ((this).below (box_below _))
  have Y0 : Hid (Box6 W0 (w.heap.size + 1 + 1 + 1) (.bool m1) (.bool n1) (.bool q1) (.slice a1 k1 c1) (.int .i64 lo1) (.int .i64 hi1)) := by
    have := (box6_new (((w.alloc (.cells #[.bool m0, .bool n0, .bool q0, .slice a0 k0 c0, .int .i64 lo0, .int .i64 hi0] 26)).alloc (.cells #[.bool m1, .bool n1, .bool q1, .slice a1 k1 c1, .int .i64 lo1, .int .i64 hi1] 26)).alloc (.cells #[.bool m0, .bool n0, .bool q0, .slice a0 k0 c0, .int .i64 lo0, .int .i64 hi0] 26)) (.bool m1) (.bool n1) (.bool q1) (.slice a1 k1 c1) (.int .i64 lo1) (.int .i64 hi1) 26)
    rw [show (((w.alloc (.cells #[.bool m0, .bool n0, .bool q0, .slice a0 k0 c0, .int .i64 lo0, .int .i64 hi0] 26)).alloc (.cells #[.bool m1, .bool n1, .bool q1, .slice a1 k1 c1, .int .i64 lo1, .int .i64 hi1] 26)).alloc (.cells #[.bool m0, .bool n0, .bool q0, .slice a0 k0 c0, .int .i64 lo0, .int .i64 hi0] 26)).heap.size = w.heap.size + 1 + 1 + 1 by simp] at this
    rw [hW0]; exact this
  have Z0 : Hid (W0.heap.size = w.heap.size + 4) := by rw [hW0]; show _ = _; simp
  have GW := hide hW0
  clear hW0
  obtain ⟨R, hR⟩ : ∃ r, r = meetR ⟨m0, n0, q0, l0, lo0, hi0⟩ ⟨m1, n1, q1, l1, lo1, hi1⟩ := ⟨_, rfl⟩
  have GR := hide hR
  clear hR
  obtain ⟨⟨pm, pn, pq, pv, plo, phi⟩, pe⟩ := R
  obtain ⟨⟨f0, f1, f2, f3, f4, f5⟩, ff, _⟩ := unhide A0
  obtain ⟨⟨g0, g1, g2, g3, g4, g5⟩, gf, _⟩ := unhide C0
  go_enter Tryz.func6, Tryz.ntmps6
  go_upto_region 3 with (fail)
  rw [← unhide GW]
  have OE := hide (own_empty W0)
  have bE := hide (box_below (w := W0) (.cells #[] 9))
  have hbl0 := hide (own_block (unhide OE))
  have ZB := hide (Nat.le_refl W0.heap.size)
  have S0 := hide (((unhide U0).below (unhide B0)).below (unhide bE))
  go_upto_region 4 with (at_builtin; refine wpList_append_strs rfl _ _ rfl W0.heap.size (.slice (some ⟨W0.heap.size, 0, none⟩) 0 0) [] rfl (unhide OE) (.slice a0 k0 c0) l0 rfl (unhide S0) (by have := unhide HL0; simp; omega) (by simp) ?_; intro v1 w1 hown1 hg1; rw [List.nil_append] at hown1; have O1 := hide hown1; have G1 := hide hg1; clear hown1 hg1; obtain ⟨va, vc, hve⟩ := (unhide O1).strs.val; rw [← unhide HN0] at hve; subst hve; have BX := ((unhide X0).below (unhide bE)).other (unhide G1) (fun k hk e => by have := (unhide hbl0 k hk).1; have := (unhide X0).2.2; omega); obtain ⟨⟨_, _, _, bx3, _, _⟩, bxf, _⟩ := BX; have bxf3 := bxf 3; clear bxf f0 f1 f2 f3 f4 f5 g0 g1 g2 g3 g4 g5 ff gf)
  obtain ⟨W1, hW1⟩ : ∃ W, W = w1.setCell ⟨w.heap.size + 1 + 1, 3, none⟩ (.slice va k0 vc) := ⟨_, rfl⟩
  rw [← hW1]
  have gX := hide (set_grown w1 (w.heap.size + 1 + 1) 3 (.slice va k0 vc))
  have Q1 : Hid (Own W1 W0.heap.size (.slice va k0 vc) l0) := by rw [hW1]; exact (unhide O1).grown (unhide gX) (unhide X0).2.2
  have B1 : Hid (Below w.heap.size w W1) := by rw [hW1]; exact grown_below ((chain (unhide B0) (unhide bE)).grown (unhide G1) (chain (unhide B0) (unhide bE)).size (fun k hk => Nat.le_trans (unhide B0).size (unhide hbl0 k hk).1)) (unhide gX) (by omega)
  have A1 : Hid (Box6 W1 (w.heap.size) (.bool m0) (.bool n0) (.bool q0) (.slice a0 k0 c0) (.int .i64 lo0) (.int .i64 hi0)) := by rw [hW1]; exact (((unhide A0).below (unhide bE)).other (unhide G1) (fun k hk e => by have := (unhide hbl0 k hk).1; have := (unhide A0).2.2; omega)).other (unhide gX) (fun k hk e => by injection hk with hk; omega)
  have C1 : Hid (Box6 W1 (w.heap.size + 1) (.bool m1) (.bool n1) (.bool q1) (.slice a1 k1 c1) (.int .i64 lo1) (.int .i64 hi1)) := by rw [hW1]; exact (((unhide C0).below (unhide bE)).other (unhide G1) (fun k hk e => by have := (unhide hbl0 k hk).1; have := (unhide C0).2.2; omega)).other (unhide gX) (fun k hk e => by injection hk with hk; omega)
  have X1 : Hid (Box6 W1 (w.heap.size + 1 + 1) (.bool m0) (.bool n0) (.bool q0) (.slice va k0 vc) (.int .i64 lo0) (.int .i64 hi0)) := by rw [hW1]; exact (((unhide X0).below (unhide bE)).other (unhide G1) (fun k hk e => by have := (unhide hbl0 k hk).1; have := (unhide X0).2.2; omega)).set3 _
  have Y1 : Hid (Box6 W1 (w.heap.size + 1 + 1 + 1) (.bool m1) (.bool n1) (.bool q1) (.slice a1 k1 c1) (.int .i64 lo1) (.int .i64 hi1)) := by rw [hW1]; exact (((unhide Y0).below (unhide bE)).other (unhide G1) (fun k hk e => by have := (unhide hbl0 k hk).1; have := (unhide Y0).2.2; omega)).other (unhide gX) (fun k hk e => by injection hk with hk; omega)
  have Z1 : Hid (W0.heap.size ≤ W1.heap.size) := by rw [hW1]; have h1 := (unhide bE).size; have h2 := (unhide G1).size; show _ ≤ _; simp; omega
  have V0 := Q1
  obtain ⟨xa0, hxa⟩ : ∃ x, x = va := ⟨_, rfl⟩
  obtain ⟨xc0, hxc⟩ : ∃ x, x = vc := ⟨_, rfl⟩
  rw [← hxa, ← hxc] at V0 X1 ⊢
  have GV := hide hW1
  clear hW1 Q1 O1 gX G1 bE OE hbl0 ZB S0 bx3 bxf3 B0 A0 C0 X0 Y0 hxa hxc GV
  obtain ⟨⟨g0, g1, g2, g3, g4, g5⟩, gf, _⟩ := unhide C1
  have f0 := gf
  have f1 := gf
  have f2 := gf
  have f3 := gf
  have f4 := gf
  have f5 := gf
  have ff := gf
  have OE := hide (own_empty W1)
  have bE := hide (box_below (w := W1) (.cells #[] 9))
  have hbl0 := hide (own_block (unhide OE))
  have ZB := hide (Nat.le_refl W1.heap.size)
  have S1 := hide (((unhide U1).below (unhide B1)).below (unhide bE))
  go_upto_region 5 with (at_builtin; refine wpList_append_strs rfl _ _ rfl W1.heap.size (.slice (some ⟨W1.heap.size, 0, none⟩) 0 0) [] rfl (unhide OE) (.slice a1 k1 c1) l1 rfl (unhide S1) (by have := unhide HL1; simp; omega) (by simp) ?_; intro v1 w1 hown1 hg1; rw [List.nil_append] at hown1; have O1 := hide hown1; have G1 := hide hg1; clear hown1 hg1; obtain ⟨va, vc, hve⟩ := (unhide O1).strs.val; rw [← unhide HN1] at hve; subst hve; have BX := ((unhide Y1).below (unhide bE)).other (unhide G1) (fun k hk e => by have := (unhide hbl0 k hk).1; have := (unhide Y1).2.2; omega); obtain ⟨⟨_, _, _, bx3, _, _⟩, bxf, _⟩ := BX; have bxf3 := bxf 3; clear bxf f0 f1 f2 f3 f4 f5 g0 g1 g2 g3 g4 g5 ff gf)
  obtain ⟨W2, hW2⟩ : ∃ W, W = w1.setCell ⟨w.heap.size + 1 + 1 + 1, 3, none⟩ (.slice va k1 vc) := ⟨_, rfl⟩
  rw [← hW2]
  have gX := hide (set_grown w1 (w.heap.size + 1 + 1 + 1) 3 (.slice va k1 vc))
  have Q1 : Hid (Own W2 W1.heap.size (.slice va k1 vc) l1) := by rw [hW2]; exact (unhide O1).grown (unhide gX) (unhide Y1).2.2
  have B2 : Hid (Below w.heap.size w W2) := by rw [hW2]; exact grown_below ((chain (unhide B1) (unhide bE)).grown (unhide G1) (chain (unhide B1) (unhide bE)).size (fun k hk => Nat.le_trans (unhide B1).size (unhide hbl0 k hk).1)) (unhide gX) (by omega)
  have A2 : Hid (Box6 W2 (w.heap.size) (.bool m0) (.bool n0) (.bool q0) (.slice a0 k0 c0) (.int .i64 lo0) (.int .i64 hi0)) := by rw [hW2]; exact (((unhide A1).below (unhide bE)).other (unhide G1) (fun k hk e => by have := (unhide hbl0 k hk).1; have := (unhide A1).2.2; omega)).other (unhide gX) (fun k hk e => by injection hk with hk; omega)
  have C2 : Hid (Box6 W2 (w.heap.size + 1) (.bool m1) (.bool n1) (.bool q1) (.slice a1 k1 c1) (.int .i64 lo1) (.int .i64 hi1)) := by rw [hW2]; exact (((unhide C1).below (unhide bE)).other (unhide G1) (fun k hk e => by have := (unhide hbl0 k hk).1; have := (unhide C1).2.2; omega)).other (unhide gX) (fun k hk e => by injection hk with hk; omega)
  have X2 : Hid (Box6 W2 (w.heap.size + 1 + 1) (.bool m0) (.bool n0) (.bool q0) (.slice xa0 k0 xc0) (.int .i64 lo0) (.int .i64 hi0)) := by rw [hW2]; exact (((unhide X1).below (unhide bE)).other (unhide G1) (fun k hk e => by have := (unhide hbl0 k hk).1; have := (unhide X1).2.2; omega)).other (unhide gX) (fun k hk e => by injection hk with hk; omega)
  have Y2 : Hid (Box6 W2 (w.heap.size + 1 + 1 + 1) (.bool m1) (.bool n1) (.bool q1) (.slice va k1 vc) (.int .i64 lo1) (.int .i64 hi1)) := by rw [hW2]; exact (((unhide Y1).below (unhide bE)).other (unhide G1) (fun k hk e => by have := (unhide hbl0 k hk).1; have := (unhide Y1).2.2; omega)).set3 _
  have Z2 : Hid (W1.heap.size ≤ W2.heap.size) := by rw [hW2]; have h1 := (unhide bE).size; have h2 := (unhide G1).size; show _ ≤ _; simp; omega
  have V0' : Hid (Own W2 W0.heap.size (.slice xa0 k0 xc0) l0) := by
    rw [hW2]
    exact (Own.other ((unhide V0).below (unhide bE)) (unhide G1) (fun k j hk hj e => by have := (unhide hbl0 k hk).1; have := (own_block (unhide V0) j hj).2; omega)).grown (unhide gX) (by rw [unhide Z0]; omega)
  clear V0
  have V0 := V0'
  clear V0'
  have V1 := Q1
  obtain ⟨xa1, hxa⟩ : ∃ x, x = va := ⟨_, rfl⟩
  obtain ⟨xc1, hxc⟩ : ∃ x, x = vc := ⟨_, rfl⟩
  rw [← hxa, ← hxc] at V1 Y2 ⊢
  have GV := hide hW2
  clear hW2 Q1 O1 gX G1 bE OE hbl0 ZB S1 bx3 bxf3 B1 A1 C1 X1 Y1 hxa hxc GV
  obtain ⟨f0, f1, f2, f3, f4, f5⟩ := (unhide A2).1
  obtain ⟨g0, g1, g2, g3, g4, g5⟩ := (unhide C2).1
  go_wp2_with fail
  refine (meet_any m0 n0 q0 _ l0 lo0 hi0 m1 n1 q1 _ l1 lo1 hi1 _ ((unhide HL).below (unhide B2)) ((unhide U0).below (unhide B2)) ((unhide U1).below (unhide B2))).mono ?_
  clear f0 f1 f2 f3 f4 f5 g0 g1 g2 g3 g4 g5
  rintro e w3 ⟨x3, y3, he, ho3, hw3⟩
  rw [← unhide GR] at he ho3
  unfold tells at he
  simp only at he ho3
  obtain ⟨kp, hkp⟩ : ∃ n, n = pv.length := ⟨_, rfl⟩
  rw [← hkp] at he ho3
  have HNP := hide hkp
  have hkb : kp ≤ 17592186044416 := by rw [hkp]; exact ho3.2.2
  clear hkp
  subst he
  obtain ⟨W3, hW3⟩ : ∃ W, W = w3.alloc (.cells #[.bool pm, .bool pn, .bool pq, .slice x3 kp y3, .int .i64 plo, .int .i64 phi] 26) := ⟨_, rfl⟩
  have bV3 : Hid (Below W2.heap.size W2 W3) := by rw [hW3]; exact chain hw3 (box_below _)
  have O3 : Hid (Own W3 W2.heap.size (.slice x3 kp y3) pv) := by rw [hW3]; exact ho3.below (box_below _)
  have D3 : Hid (Six W3 w3.heap.size (.bool pm) (.bool pn) (.bool pq) (.slice x3 kp y3) (.int .i64 plo) (.int .i64 phi)) := by rw [hW3]; exact six_new _ _ _ _ _ _ _ _
  have ZP : Hid (∀ k, (Value.slice x3 kp y3).ownBlock = some k → k < w3.heap.size) := fun k hk => (own_block ho3 k hk).2
  have GW3 := hide hW3
  clear hW3 hw3 ho3
  have X3 := hide ((unhide X2).below (unhide bV3))
  have Y3 := hide ((unhide Y2).below (unhide bV3))
  obtain ⟨f0, f1, f2, f3, f4, f5⟩ := (unhide X3).1
  obtain ⟨g0, g1, g2, g3, g4, g5⟩ := (unhide Y3).1
  rw [unhide GW3] at f0 f1 f2 f3 f4 f5 g0 g1 g2 g3 g4 g5
  go_wp2_with fail
  rw [← unhide GW3]
  refine (rmeet_any m0 n0 q0 _ l0 lo0 hi0 m1 n1 q1 _ l1 lo1 hi1 _ ((unhide V0).strs.below (unhide bV3)) ((unhide V1).strs.below (unhide bV3))).mono ?_
  clear f0 f1 f2 f3 f4 f5 g0 g1 g2 g3 g4 g5
  rintro e w4 ⟨x4, y4, he, ho4, hw4⟩
  rw [← unhide GR] at he ho4
  unfold tells at he
  simp only at he ho4
  rw [← unhide HNP] at he ho4
  subst he
  obtain ⟨W4, hW4⟩ : ∃ W, W = w4.alloc (.cells #[.bool pm, .bool pn, .bool pq, .slice x4 kp y4, .int .i64 plo, .int .i64 phi] 26) := ⟨_, rfl⟩
  have bV4 : Hid (Below W3.heap.size W3 W4) := by rw [hW4]; exact chain hw4 (box_below _)
  have S4 : Hid (Strs W4 (.slice x4 kp y4) pv) := by rw [hW4]; exact (Own.strs ho4).below (box_below _)
  have E4 : Hid (Six W4 w4.heap.size (.bool pm) (.bool pn) (.bool pq) (.slice x4 kp y4) (.int .i64 plo) (.int .i64 phi)) := by rw [hW4]; exact six_new _ _ _ _ _ _ _ _
  have GW4 := hide hW4
  clear hW4 hw4 ho4
  have O4 := hide ((unhide O3).below (unhide bV4))
  have D4 := hide ((unhide D3).below (unhide bV4))
  obtain ⟨f0, f1, f2, f3, f4, f5⟩ := unhide D4
  obtain ⟨g0, g1, g2, g3, g4, g5⟩ := unhide E4
  rw [unhide GW4] at f0 f1 f2 f3 f4 f5 g0 g1 g2 g3 g4 g5
  go_wp2_with fail
  rw [← unhide GW4]
  refine (same_any pm pn pq _ pv plo phi pm pn pq _ pv plo phi _ (Own.strs (unhide O4)) (unhide S4)).mono ?_
  clear f0 f1 f2 f3 f4 f5 g0 g1 g2 g3 g4 g5
  rintro e w5 ⟨he, hw5⟩
  rw [(same_iff ⟨pm, pn, pq, pv, plo, phi⟩ ⟨pm, pn, pq, pv, plo, phi⟩).2 rfl] at he
  subst he
  have bV5 := hide (chain (chain (unhide bV3) (unhide bV4)) hw5)
  have O5 := hide ((unhide O4).below hw5)
  have D5 := hide ((unhide D4).below hw5)
  clear hw5 O3 O4 D3 D4 E4 S4 bV3 bV4 GW3 GW4 X3 Y3 GR
  go_wp2_with fail
  go_loopw [12] (fun i W => ∃ (j : Nat) (l' : List Txt), j ≤ kp ∧ i = .int .i64 j ∧ Hid (l'.length = kp) ∧ Hid (Own W W2.heap.size (.slice x3 kp y3) l') ∧ Hid (Six W w3.heap.size (.bool pm) (.bool pn) (.bool pq) (.slice x3 kp y3) (.int .i64 plo) (.int .i64 phi)) ∧ Hid (Below W2.heap.size W2 W)) (fun i _ => kp - (intOf i).toNat)
  case atStart => exact ⟨0, pv, Nat.zero_le _, rfl, (unhide HNP).symm, O5, D5, bV5⟩
  case round =>
    obtain ⟨j, l', hj, rfl, hl', hown, hsix, hbel⟩ := hrel
    clear O5 D5 bV5
    by_cases hlt : j < kp
    · obtain ⟨g, hx3⟩ : ∃ g, x3 = some ⟨g, 0, none⟩ := by
        rcases (unhide hown).val with ⟨_, h⟩ | ⟨g, c, h, _⟩
        · rw [h] at hl'; have := unhide hl'; simp at this; omega
        · injection h with h; exact ⟨g, h⟩
      subst hx3
      have hgb := own_block (unhide hown) g rfl
      have hg2 := unhide ZP g rfl
      have hc : wr.cell? ⟨g, j, none⟩ = some (.string (bytesT (l'[j]'(by rw [unhide hl']; exact hlt)))) := by
        have := unhide hown
        rw [← unhide hl'] at this
        exact this.cellAt (by rw [unhide hl']; exact hlt)
      have hf : wr.frozen? ⟨g, j, none⟩ = false := by
        have := unhide hown
        rw [← unhide hl'] at this
        exact this.frozenAt j
      have O5 := hide ((unhide hown).stored j (t := [64]) (show short [64] by unfold short; simp))
      have X5 := hide ((unhide hsix).other (set_grown wr g j (.string (bytesT [64]))) (fun k hk e => by injection hk with hk; omega))
      have B5 := hide (grown_below (unhide hbel) (set_grown wr g j (.string (bytesT [64]))) hgb.1)
      obtain ⟨a0', a1', a2', a3', a4', a5'⟩ := unhide hsix
      clear hgb hg2
      generalize (l'[j]'(by rw [unhide hl']; exact hlt)) = old at hc
      go_wp2_with fail
      go_roundw
      case rel => exact ⟨j + 1, l'.set j [64], by omega, by go_num, by show _ = _; rw [List.length_set]; exact unhide hl', O5, X5, B5⟩
      case measure => simp [intOf]; omega
    · obtain rfl : j = kp := by omega
      obtain ⟨a0', a1', a2', a3', a4', a5'⟩ := unhide hsix
      have B5 := hide (chain (unhide B2) (unhide hbel))
      go_wp2_with fail
      clear a0' a1' a2' a3' a4' a5'
      refine (live_any _ ((unhide HL).below (unhide B5))).mono ?_
      rintro e w6 ⟨rfl, hw6⟩
      have bV6 := hide (chain (unhide hbel) hw6)
      have B6 := hide (chain (unhide B5) hw6)
      clear hw6 hown hl' hsix hbel ZP
      obtain ⟨f0, f1, f2, f3, f4, f5⟩ := ((unhide A2).below (unhide bV6)).1
      obtain ⟨g0, g1, g2, g3, g4, g5⟩ := ((unhide X2).below (unhide bV6)).1
      go_wp2_with fail
      refine (same_any m0 n0 q0 _ l0 lo0 hi0 m0 n0 q0 _ l0 lo0 hi0 _ ((unhide U0).below (unhide B6)) ((unhide V0).strs.below (unhide bV6))).mono ?_
      clear f0 f1 f2 f3 f4 f5 g0 g1 g2 g3 g4 g5
      rintro e w7 ⟨he, hw7⟩
      rw [(same_iff ⟨m0, n0, q0, l0, lo0, hi0⟩ ⟨m0, n0, q0, l0, lo0, hi0⟩).2 rfl] at he
      subst he
      have bV7 := hide (chain (unhide bV6) hw7)
      have B7 := hide (chain (unhide B6) hw7)
      clear hw7
      obtain ⟨f0, f1, f2, f3, f4, f5⟩ := ((unhide C2).below (unhide bV7)).1
      obtain ⟨g0, g1, g2, g3, g4, g5⟩ := ((unhide Y2).below (unhide bV7)).1
      go_wp2_with fail
      refine (same_any m1 n1 q1 _ l1 lo1 hi1 m1 n1 q1 _ l1 lo1 hi1 _ ((unhide U1).below (unhide B7)) ((unhide V1).strs.below (unhide bV7))).mono ?_
      clear f0 f1 f2 f3 f4 f5 g0 g1 g2 g3 g4 g5
      rintro e w8 ⟨he, hw8⟩
      rw [(same_iff ⟨m1, n1, q1, l1, lo1, hi1⟩ ⟨m1, n1, q1, l1, lo1, hi1⟩).2 rfl] at he
      subst he
      have B8 := hide (chain (unhide B7) hw8)
      clear hw8
      go_wp2_with fail
      go_ret
      exact ⟨rfl, unhide B8⟩

end Go.Proofs.YtkeibapcfbajjaaGreatDoor.valsetMeets
