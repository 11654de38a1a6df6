/- The walk of ValsetTurns. -/
import Derived.Test.YtkeibapcfbajjabDoorV3U
namespace Go.Proofs.YtkeibapcfbajjabDoor.valsetTurns
open Go.RowKit Suf Val Go.Maps

set_option maxRecDepth 100000 in
set_option maxHeartbeats 8000000 in
theorem walk (m0 n0 q0 : Bool) (u0 : Value) (l0 : List Txt) (lo0 hi0 : Int) (m1 n1 q1 : Bool) (u1 : Value) (l1 : List Txt) (lo1 hi1 : Int) (m2 n2 q2 : Bool) (u2 : Value) (l2 : List Txt) (lo2 hi2 : Int) (w : World) (hu0 : Strs w u0 l0) (hu1 : Strs w u1 l1) (hu2 : Strs w u2 l2) (hL : Laid w) :
    Calls Tryd.prog 5 #[.agg #[.bool m0, .bool n0, .bool q0, u0, .int .i64 lo0, .int .i64 hi0], .agg #[.bool m1, .bool n1, .bool q1, u1, .int .i64 lo1, .int .i64 hi1], .agg #[.bool m2, .bool n2, .bool q2, u2, .int .i64 lo2, .int .i64 hi2]] w fun e w' => e = .returned (.bool true) ∧ Below w.heap.size w w' := by
  have HL := hide hL
  clear hL
  have U0 := hide hu0
  obtain ⟨a0, c0, rfl⟩ := hu0.val
  clear hu0
  obtain ⟨k0, hk0⟩ : ∃ n, n = l0.length := ⟨_, rfl⟩
  rw [← hk0] at U0 ⊢
  clear hk0
  have U1 := hide hu1
  obtain ⟨a1, c1, rfl⟩ := hu1.val
  clear hu1
  obtain ⟨k1, hk1⟩ : ∃ n, n = l1.length := ⟨_, rfl⟩
  rw [← hk1] at U1 ⊢
  clear hk1
  have U2 := hide hu2
  obtain ⟨a2, c2, rfl⟩ := hu2.val
  clear hu2
  obtain ⟨k2, hk2⟩ : ∃ n, n = l2.length := ⟨_, rfl⟩
  rw [← hk2] at U2 ⊢
  clear hk2
  obtain ⟨W0, hW0⟩ : ∃ W0, W0 = (((w.alloc (.cells #[.bool m0, .bool n0, .bool q0, .slice a0 k0 c0, .int .i64 lo0, .int .i64 hi0] 24)).alloc (.cells #[.bool m1, .bool n1, .bool q1, .slice a1 k1 c1, .int .i64 lo1, .int .i64 hi1] 24)).alloc (.cells #[.bool m2, .bool n2, .bool q2, .slice a2 k2 c2, .int .i64 lo2, .int .i64 hi2] 24)) := ⟨_, rfl⟩
  have B0 : Hid (Below w.heap.size w W0) := by rw [hW0]; exact (((box_below _).alloc (by simp) _).alloc (by simp; omega) _)
  have XA : Hid (Six W0 w.heap.size (.bool m0) (.bool n0) (.bool q0) (.slice a0 k0 c0) (.int .i64 lo0) (.int .i64 hi0)) := by
    rw [hW0]; exact ((six_new w _ _ _ _ _ _ _).below (box_below _)).below (box_below _)
  have XB : Hid (Six W0 (w.heap.size + 1) (.bool m1) (.bool n1) (.bool q1) (.slice a1 k1 c1) (.int .i64 lo1) (.int .i64 hi1)) := by
    have := six_new (w.alloc (.cells #[.bool m0, .bool n0, .bool q0, .slice a0 k0 c0, .int .i64 lo0, .int .i64 hi0] 24)) (.bool m1) (.bool n1) (.bool q1) (.slice a1 k1 c1) (.int .i64 lo1) (.int .i64 hi1) 24
    rw [show (w.alloc (.cells #[.bool m0, .bool n0, .bool q0, .slice a0 k0 c0, .int .i64 lo0, .int .i64 hi0] 24)).heap.size = w.heap.size + 1 by simp] at this
    rw [hW0]; exact this.below (box_below _)
  have XC : Hid (Six W0 (w.heap.size + 1 + 1) (.bool m2) (.bool n2) (.bool q2) (.slice a2 k2 c2) (.int .i64 lo2) (.int .i64 hi2)) := by
    have := six_new ((w.alloc (.cells #[.bool m0, .bool n0, .bool q0, .slice a0 k0 c0, .int .i64 lo0, .int .i64 hi0] 24)).alloc (.cells #[.bool m1, .bool n1, .bool q1, .slice a1 k1 c1, .int .i64 lo1, .int .i64 hi1] 24)) (.bool m2) (.bool n2) (.bool q2) (.slice a2 k2 c2) (.int .i64 lo2) (.int .i64 hi2) 24
    rw [show ((w.alloc (.cells #[.bool m0, .bool n0, .bool q0, .slice a0 k0 c0, .int .i64 lo0, .int .i64 hi0] 24)).alloc (.cells #[.bool m1, .bool n1, .bool q1, .slice a1 k1 c1, .int .i64 lo1, .int .i64 hi1] 24)).heap.size = w.heap.size + 1 + 1 by simp] at this
    rw [hW0]; exact this
  have GW := hide hW0
  clear hW0
  obtain ⟨qa, hqa⟩ : ∃ q, q = checkB ⟨m0, n0, q0, l0, lo0, hi0⟩ := ⟨_, rfl⟩
  obtain ⟨qb, hqb⟩ : ∃ q, q = checkB ⟨m1, n1, q1, l1, lo1, hi1⟩ := ⟨_, rfl⟩
  obtain ⟨qc, hqc⟩ : ∃ q, q = checkB ⟨m2, n2, q2, l2, lo2, hi2⟩ := ⟨_, rfl⟩
  have QA := hide hqa
  have QB := hide hqb
  have QC := hide hqc
  clear hqa hqb hqc
  go_enter Tryd.func5, Tryd.ntmps5
  go_wp2_with fail
  rw [← unhide GW]
  refine (check_any m0 n0 q0 _ l0 lo0 hi0 _ ((unhide HL).below (unhide B0)) ((unhide U0).below (unhide B0))).mono ?_
  rintro e w1 ⟨he, hw1⟩
  rw [← unhide QA] at he
  subst he
  have B1 := hide (chain (unhide B0) hw1)
  have XA' := hide ((unhide XA).below hw1)
  clear XA
  have XA := XA'
  clear XA'
  have XB' := hide ((unhide XB).below hw1)
  clear XB
  have XB := XB'
  clear XB'
  have XC' := hide ((unhide XC).below hw1)
  clear XC
  have XC := XC'
  clear XC'
  clear hw1 B0
  cases qa
  · rw [show errC false = 1 from rfl]
    go_wp2_with fail
    refine (live_any _ ((unhide HL).below (unhide B1))).mono ?_
    rintro e wl ⟨rfl, hwl⟩
    have BL := hide (chain (unhide B1) hwl)
    clear hwl
    go_wp2_with fail
    go_ret
    exact ⟨rfl, unhide BL⟩
  rw [show errC true = 0 from rfl]
  obtain ⟨b0, b1, b2, b3, b4, b5⟩ := unhide XB
  go_wp2_with fail
  clear b0 b1 b2 b3 b4 b5
  refine (check_any m1 n1 q1 _ l1 lo1 hi1 _ ((unhide HL).below (unhide B1)) ((unhide U1).below (unhide B1))).mono ?_
  rintro e w2 ⟨he, hw2⟩
  rw [← unhide QB] at he
  subst he
  have B2 := hide (chain (unhide B1) hw2)
  have XA' := hide ((unhide XA).below hw2)
  clear XA
  have XA := XA'
  clear XA'
  have XB' := hide ((unhide XB).below hw2)
  clear XB
  have XB := XB'
  clear XB'
  have XC' := hide ((unhide XC).below hw2)
  clear XC
  have XC := XC'
  clear XC'
  clear hw2 B1
  cases qb
  · rw [show errC false = 1 from rfl]
    go_wp2_with fail
    refine (live_any _ ((unhide HL).below (unhide B2))).mono ?_
    rintro e wl ⟨rfl, hwl⟩
    have BL := hide (chain (unhide B2) hwl)
    clear hwl
    go_wp2_with fail
    go_ret
    exact ⟨rfl, unhide BL⟩
  rw [show errC true = 0 from rfl]
  obtain ⟨b0, b1, b2, b3, b4, b5⟩ := unhide XC
  go_wp2_with fail
  clear b0 b1 b2 b3 b4 b5
  refine (check_any m2 n2 q2 _ l2 lo2 hi2 _ ((unhide HL).below (unhide B2)) ((unhide U2).below (unhide B2))).mono ?_
  rintro e w3 ⟨he, hw3⟩
  rw [← unhide QC] at he
  subst he
  have B3 := hide (chain (unhide B2) hw3)
  have XA' := hide ((unhide XA).below hw3)
  clear XA
  have XA := XA'
  clear XA'
  have XB' := hide ((unhide XB).below hw3)
  clear XB
  have XB := XB'
  clear XB'
  have XC' := hide ((unhide XC).below hw3)
  clear XC
  have XC := XC'
  clear XC'
  clear hw3 B2
  cases qc
  · rw [show errC false = 1 from rfl]
    go_wp2_with fail
    refine (live_any _ ((unhide HL).below (unhide B3))).mono ?_
    rintro e wl ⟨rfl, hwl⟩
    have BL := hide (chain (unhide B3) hwl)
    clear hwl
    go_wp2_with fail
    go_ret
    exact ⟨rfl, unhide BL⟩
  rw [show errC true = 0 from rfl]
  obtain ⟨ab, hab⟩ : ∃ r, r = meetR ⟨m0, n0, q0, l0, lo0, hi0⟩ ⟨m1, n1, q1, l1, lo1, hi1⟩ := ⟨_, rfl⟩
  have hba : Hid (meetR ⟨m1, n1, q1, l1, lo1, hi1⟩ ⟨m0, n0, q0, l0, lo0, hi0⟩ = ab) := by show _ = _; rw [meetR_comm, hab]
  have hself := hide (meetR_self (unhide QA).symm)
  obtain ⟨bc, hbc⟩ : ∃ r, r = meetR ⟨m1, n1, q1, l1, lo1, hi1⟩ ⟨m2, n2, q2, l2, lo2, hi2⟩ := ⟨_, rfl⟩
  have GAB := hide hab
  have GBC := hide hbc
  clear hab hbc
  obtain ⟨⟨pm, pn, pq, pv, plo, phi⟩, pe⟩ := ab
  obtain ⟨⟨tm, tn, tq, tv, tlo, thi⟩, te⟩ := bc
  obtain ⟨b0, b1, b2, b3, b4, b5⟩ := unhide XA
  obtain ⟨d0, d1, d2, d3, d4, d5⟩ := unhide XB
  go_wp2_with fail
  refine (meet_any m0 n0 q0 _ l0 lo0 hi0 m1 n1 q1 _ l1 lo1 hi1 _ ((unhide HL).below (unhide B3)) ((unhide U0).below (unhide B3)) ((unhide U1).below (unhide B3))).mono ?_
  clear b0 b1 b2 b3 b4 b5
  clear d0 d1 d2 d3 d4 d5
  rintro e w4 ⟨x4, y4, he, ho4, hw4⟩
  rw [← unhide GAB] at he ho4
  unfold tells at he
  simp only at he ho4
  obtain ⟨g4, hg4⟩ : ∃ n, n = pv.length := ⟨_, rfl⟩
  rw [← hg4] at he ho4
  clear hg4
  subst he
  have V4 := hide (show Strs (w4.alloc (.cells #[.bool pm, .bool pn, .bool pq, .slice x4 g4 y4, .int .i64 plo, .int .i64 phi] 24)) (.slice x4 g4 y4) pv from (Own.strs ho4).below (box_below _))
  have B4 := hide (chain (chain (unhide B3) hw4) (box_below (.cells #[.bool pm, .bool pn, .bool pq, .slice x4 g4 y4, .int .i64 plo, .int .i64 phi] 24)))
  have X4 := hide (six_new w4 (.bool pm) (.bool pn) (.bool pq) (.slice x4 g4 y4) (.int .i64 plo) (.int .i64 phi) 24)
  have XA' := hide (((unhide XA).below hw4).below (box_below (.cells #[.bool pm, .bool pn, .bool pq, .slice x4 g4 y4, .int .i64 plo, .int .i64 phi] 24)))
  clear XA
  have XA := XA'
  clear XA'
  have XB' := hide (((unhide XB).below hw4).below (box_below (.cells #[.bool pm, .bool pn, .bool pq, .slice x4 g4 y4, .int .i64 plo, .int .i64 phi] 24)))
  clear XB
  have XB := XB'
  clear XB'
  have XC' := hide (((unhide XC).below hw4).below (box_below (.cells #[.bool pm, .bool pn, .bool pq, .slice x4 g4 y4, .int .i64 plo, .int .i64 phi] 24)))
  clear XC
  have XC := XC'
  clear XC'
  clear hw4 ho4 B3
  obtain ⟨b0, b1, b2, b3, b4, b5⟩ := unhide XA
  obtain ⟨d0, d1, d2, d3, d4, d5⟩ := unhide XB
  go_wp2_with fail
  refine (meet_any m1 n1 q1 _ l1 lo1 hi1 m0 n0 q0 _ l0 lo0 hi0 _ ((unhide HL).below (unhide B4)) ((unhide U1).below (unhide B4)) ((unhide U0).below (unhide B4))).mono ?_
  clear b0 b1 b2 b3 b4 b5
  clear d0 d1 d2 d3 d4 d5
  rintro e w5 ⟨x5, y5, he, ho5, hw5⟩
  rw [unhide hba] at he ho5
  unfold tells at he
  simp only at he ho5
  obtain ⟨g5, hg5⟩ : ∃ n, n = pv.length := ⟨_, rfl⟩
  rw [← hg5] at he ho5
  clear hg5
  subst he
  have V5 := hide (show Strs (w5.alloc (.cells #[.bool pm, .bool pn, .bool pq, .slice x5 g5 y5, .int .i64 plo, .int .i64 phi] 24)) (.slice x5 g5 y5) pv from (Own.strs ho5).below (box_below _))
  have B5 := hide (chain (chain (unhide B4) hw5) (box_below (.cells #[.bool pm, .bool pn, .bool pq, .slice x5 g5 y5, .int .i64 plo, .int .i64 phi] 24)))
  have X5 := hide (six_new w5 (.bool pm) (.bool pn) (.bool pq) (.slice x5 g5 y5) (.int .i64 plo) (.int .i64 phi) 24)
  have XA' := hide (((unhide XA).below hw5).below (box_below (.cells #[.bool pm, .bool pn, .bool pq, .slice x5 g5 y5, .int .i64 plo, .int .i64 phi] 24)))
  clear XA
  have XA := XA'
  clear XA'
  have XB' := hide (((unhide XB).below hw5).below (box_below (.cells #[.bool pm, .bool pn, .bool pq, .slice x5 g5 y5, .int .i64 plo, .int .i64 phi] 24)))
  clear XB
  have XB := XB'
  clear XB'
  have XC' := hide (((unhide XC).below hw5).below (box_below (.cells #[.bool pm, .bool pn, .bool pq, .slice x5 g5 y5, .int .i64 plo, .int .i64 phi] 24)))
  clear XC
  have XC := XC'
  clear XC'
  have X4' := hide (((unhide X4).below hw5).below (box_below (.cells #[.bool pm, .bool pn, .bool pq, .slice x5 g5 y5, .int .i64 plo, .int .i64 phi] 24)))
  clear X4
  have X4 := X4'
  clear X4'
  have V4' := hide (((unhide V4).below hw5).below (box_below (.cells #[.bool pm, .bool pn, .bool pq, .slice x5 g5 y5, .int .i64 plo, .int .i64 phi] 24)))
  clear V4
  have V4 := V4'
  clear V4'
  clear hw5 ho5 B4
  obtain ⟨b0, b1, b2, b3, b4, b5⟩ := unhide XA
  go_wp2_with fail
  refine (meet_any m0 n0 q0 _ l0 lo0 hi0 m0 n0 q0 _ l0 lo0 hi0 _ ((unhide HL).below (unhide B5)) ((unhide U0).below (unhide B5)) ((unhide U0).below (unhide B5))).mono ?_
  clear b0 b1 b2 b3 b4 b5
  rintro e w6 ⟨x6, y6, he, ho6, hw6⟩
  rw [unhide hself] at he ho6
  unfold tells at he
  simp only at he ho6
  obtain ⟨g6, hg6⟩ : ∃ n, n = l0.length := ⟨_, rfl⟩
  rw [← hg6] at he ho6
  clear hg6
  subst he
  have V6 := hide (show Strs (w6.alloc (.cells #[.bool m0, .bool n0, .bool q0, .slice x6 g6 y6, .int .i64 lo0, .int .i64 hi0] 24)) (.slice x6 g6 y6) l0 from (Own.strs ho6).below (box_below _))
  have B6 := hide (chain (chain (unhide B5) hw6) (box_below (.cells #[.bool m0, .bool n0, .bool q0, .slice x6 g6 y6, .int .i64 lo0, .int .i64 hi0] 24)))
  have X6 := hide (six_new w6 (.bool m0) (.bool n0) (.bool q0) (.slice x6 g6 y6) (.int .i64 lo0) (.int .i64 hi0) 24)
  have XA' := hide (((unhide XA).below hw6).below (box_below (.cells #[.bool m0, .bool n0, .bool q0, .slice x6 g6 y6, .int .i64 lo0, .int .i64 hi0] 24)))
  clear XA
  have XA := XA'
  clear XA'
  have XB' := hide (((unhide XB).below hw6).below (box_below (.cells #[.bool m0, .bool n0, .bool q0, .slice x6 g6 y6, .int .i64 lo0, .int .i64 hi0] 24)))
  clear XB
  have XB := XB'
  clear XB'
  have XC' := hide (((unhide XC).below hw6).below (box_below (.cells #[.bool m0, .bool n0, .bool q0, .slice x6 g6 y6, .int .i64 lo0, .int .i64 hi0] 24)))
  clear XC
  have XC := XC'
  clear XC'
  have X4' := hide (((unhide X4).below hw6).below (box_below (.cells #[.bool m0, .bool n0, .bool q0, .slice x6 g6 y6, .int .i64 lo0, .int .i64 hi0] 24)))
  clear X4
  have X4 := X4'
  clear X4'
  have V4' := hide (((unhide V4).below hw6).below (box_below (.cells #[.bool m0, .bool n0, .bool q0, .slice x6 g6 y6, .int .i64 lo0, .int .i64 hi0] 24)))
  clear V4
  have V4 := V4'
  clear V4'
  have X5' := hide (((unhide X5).below hw6).below (box_below (.cells #[.bool m0, .bool n0, .bool q0, .slice x6 g6 y6, .int .i64 lo0, .int .i64 hi0] 24)))
  clear X5
  have X5 := X5'
  clear X5'
  have V5' := hide (((unhide V5).below hw6).below (box_below (.cells #[.bool m0, .bool n0, .bool q0, .slice x6 g6 y6, .int .i64 lo0, .int .i64 hi0] 24)))
  clear V5
  have V5 := V5'
  clear V5'
  clear hw6 ho6 B5
  obtain ⟨b0, b1, b2, b3, b4, b5⟩ := unhide X4
  obtain ⟨d0, d1, d2, d3, d4, d5⟩ := unhide X5
  go_wp2_with fail
  refine (same_any pm pn pq _ pv plo phi pm pn pq _ pv plo phi _ (unhide V4) (unhide V5)).mono ?_
  clear b0 b1 b2 b3 b4 b5
  clear d0 d1 d2 d3 d4 d5
  rintro e w7 ⟨he, hw7⟩
  rw [(same_iff ⟨pm, pn, pq, pv, plo, phi⟩ ⟨pm, pn, pq, pv, plo, phi⟩).2 rfl] at he
  subst he
  have B7 := hide (chain (unhide B6) hw7)
  have XA' := hide ((unhide XA).below hw7)
  clear XA
  have XA := XA'
  clear XA'
  have XB' := hide ((unhide XB).below hw7)
  clear XB
  have XB := XB'
  clear XB'
  have XC' := hide ((unhide XC).below hw7)
  clear XC
  have XC := XC'
  clear XC'
  have X4' := hide ((unhide X4).below hw7)
  clear X4
  have X4 := X4'
  clear X4'
  have V4' := hide ((unhide V4).below hw7)
  clear V4
  have V4 := V4'
  clear V4'
  have X6' := hide ((unhide X6).below hw7)
  clear X6
  have X6 := X6'
  clear X6'
  have V6' := hide ((unhide V6).below hw7)
  clear V6
  have V6 := V6'
  clear V6'
  clear hw7 B6
  clear X5 V5
  obtain ⟨b0, b1, b2, b3, b4, b5⟩ := unhide X6
  obtain ⟨d0, d1, d2, d3, d4, d5⟩ := unhide XA
  go_wp2_with fail
  refine (same_any m0 n0 q0 _ l0 lo0 hi0 m0 n0 q0 _ l0 lo0 hi0 _ (unhide V6) ((unhide U0).below (unhide B7))).mono ?_
  clear b0 b1 b2 b3 b4 b5
  clear d0 d1 d2 d3 d4 d5
  rintro e w8 ⟨he, hw8⟩
  rw [(same_iff ⟨m0, n0, q0, l0, lo0, hi0⟩ ⟨m0, n0, q0, l0, lo0, hi0⟩).2 rfl] at he
  subst he
  have B8 := hide (chain (unhide B7) hw8)
  have XA' := hide ((unhide XA).below hw8)
  clear XA
  have XA := XA'
  clear XA'
  have XB' := hide ((unhide XB).below hw8)
  clear XB
  have XB := XB'
  clear XB'
  have XC' := hide ((unhide XC).below hw8)
  clear XC
  have XC := XC'
  clear XC'
  have X4' := hide ((unhide X4).below hw8)
  clear X4
  have X4 := X4'
  clear X4'
  have V4' := hide ((unhide V4).below hw8)
  clear V4
  have V4 := V4'
  clear V4'
  clear hw8 B7
  clear X6 V6
  obtain ⟨b0, b1, b2, b3, b4, b5⟩ := unhide XB
  obtain ⟨d0, d1, d2, d3, d4, d5⟩ := unhide XC
  go_wp2_with fail
  refine (meet_any m1 n1 q1 _ l1 lo1 hi1 m2 n2 q2 _ l2 lo2 hi2 _ ((unhide HL).below (unhide B8)) ((unhide U1).below (unhide B8)) ((unhide U2).below (unhide B8))).mono ?_
  clear b0 b1 b2 b3 b4 b5
  clear d0 d1 d2 d3 d4 d5
  rintro e w9 ⟨x9, y9, he, ho9, hw9⟩
  rw [← unhide GBC] at he ho9
  unfold tells at he
  simp only at he ho9
  obtain ⟨g9, hg9⟩ : ∃ n, n = tv.length := ⟨_, rfl⟩
  rw [← hg9] at he ho9
  clear hg9
  subst he
  have V9 := hide (show Strs (w9.alloc (.cells #[.bool tm, .bool tn, .bool tq, .slice x9 g9 y9, .int .i64 tlo, .int .i64 thi] 24)) (.slice x9 g9 y9) tv from (Own.strs ho9).below (box_below _))
  have B9 := hide (chain (chain (unhide B8) hw9) (box_below (.cells #[.bool tm, .bool tn, .bool tq, .slice x9 g9 y9, .int .i64 tlo, .int .i64 thi] 24)))
  have X9 := hide (six_new w9 (.bool tm) (.bool tn) (.bool tq) (.slice x9 g9 y9) (.int .i64 tlo) (.int .i64 thi) 24)
  have XA' := hide (((unhide XA).below hw9).below (box_below (.cells #[.bool tm, .bool tn, .bool tq, .slice x9 g9 y9, .int .i64 tlo, .int .i64 thi] 24)))
  clear XA
  have XA := XA'
  clear XA'
  have XB' := hide (((unhide XB).below hw9).below (box_below (.cells #[.bool tm, .bool tn, .bool tq, .slice x9 g9 y9, .int .i64 tlo, .int .i64 thi] 24)))
  clear XB
  have XB := XB'
  clear XB'
  have XC' := hide (((unhide XC).below hw9).below (box_below (.cells #[.bool tm, .bool tn, .bool tq, .slice x9 g9 y9, .int .i64 tlo, .int .i64 thi] 24)))
  clear XC
  have XC := XC'
  clear XC'
  have X4' := hide (((unhide X4).below hw9).below (box_below (.cells #[.bool tm, .bool tn, .bool tq, .slice x9 g9 y9, .int .i64 tlo, .int .i64 thi] 24)))
  clear X4
  have X4 := X4'
  clear X4'
  have V4' := hide (((unhide V4).below hw9).below (box_below (.cells #[.bool tm, .bool tn, .bool tq, .slice x9 g9 y9, .int .i64 tlo, .int .i64 thi] 24)))
  clear V4
  have V4 := V4'
  clear V4'
  clear hw9 ho9 B8
  by_cases hpe : pe = 0
  rotate_left
  · have ht : (pe != 0) = true := bne_iff_ne.2 hpe
    clear hpe
    go_wp2_with fail
    refine (live_any _ ((unhide HL).below (unhide B9))).mono ?_
    rintro e wl ⟨rfl, hwl⟩
    have BL := hide (chain (unhide B9) hwl)
    clear hwl
    go_wp2_with fail
    go_ret
    exact ⟨rfl, unhide BL⟩
  subst hpe
  by_cases hte : te = 0
  rotate_left
  · have ht : (te != 0) = true := bne_iff_ne.2 hte
    clear hte
    go_wp2_with fail
    refine (live_any _ ((unhide HL).below (unhide B9))).mono ?_
    rintro e wl ⟨rfl, hwl⟩
    have BL := hide (chain (unhide B9) hwl)
    clear hwl
    go_wp2_with fail
    go_ret
    exact ⟨rfl, unhide BL⟩
  subst hte
  obtain ⟨xx, hxx⟩ : ∃ r, r = meetR ⟨pm, pn, pq, pv, plo, phi⟩ ⟨m2, n2, q2, l2, lo2, hi2⟩ := ⟨_, rfl⟩
  obtain ⟨yy, hyy⟩ : ∃ r, r = meetR ⟨m0, n0, q0, l0, lo0, hi0⟩ ⟨tm, tn, tq, tv, tlo, thi⟩ := ⟨_, rfl⟩
  have GX := hide hxx
  have GY := hide hyy
  clear hxx hyy
  obtain ⟨⟨xm, xn, xq, xv, xlo, xhi⟩, xe⟩ := xx
  obtain ⟨⟨ym, yn, yq, yv, ylo, yhi⟩, ye⟩ := yy
  obtain ⟨b0, b1, b2, b3, b4, b5⟩ := unhide X4
  obtain ⟨d0, d1, d2, d3, d4, d5⟩ := unhide XC
  go_wp2_with fail
  refine (meet_any pm pn pq _ pv plo phi m2 n2 q2 _ l2 lo2 hi2 _ ((unhide HL).below (unhide B9)) (unhide V4) ((unhide U2).below (unhide B9))).mono ?_
  clear b0 b1 b2 b3 b4 b5
  clear d0 d1 d2 d3 d4 d5
  rintro e w10 ⟨x10, y10, he, ho10, hw10⟩
  rw [← unhide GX] at he ho10
  unfold tells at he
  simp only at he ho10
  obtain ⟨g10, hg10⟩ : ∃ n, n = xv.length := ⟨_, rfl⟩
  rw [← hg10] at he ho10
  clear hg10
  subst he
  have V10 := hide (show Strs (w10.alloc (.cells #[.bool xm, .bool xn, .bool xq, .slice x10 g10 y10, .int .i64 xlo, .int .i64 xhi] 24)) (.slice x10 g10 y10) xv from (Own.strs ho10).below (box_below _))
  have B10 := hide (chain (chain (unhide B9) hw10) (box_below (.cells #[.bool xm, .bool xn, .bool xq, .slice x10 g10 y10, .int .i64 xlo, .int .i64 xhi] 24)))
  have X10 := hide (six_new w10 (.bool xm) (.bool xn) (.bool xq) (.slice x10 g10 y10) (.int .i64 xlo) (.int .i64 xhi) 24)
  have XA' := hide (((unhide XA).below hw10).below (box_below (.cells #[.bool xm, .bool xn, .bool xq, .slice x10 g10 y10, .int .i64 xlo, .int .i64 xhi] 24)))
  clear XA
  have XA := XA'
  clear XA'
  have X9' := hide (((unhide X9).below hw10).below (box_below (.cells #[.bool xm, .bool xn, .bool xq, .slice x10 g10 y10, .int .i64 xlo, .int .i64 xhi] 24)))
  clear X9
  have X9 := X9'
  clear X9'
  have V9' := hide (((unhide V9).below hw10).below (box_below (.cells #[.bool xm, .bool xn, .bool xq, .slice x10 g10 y10, .int .i64 xlo, .int .i64 xhi] 24)))
  clear V9
  have V9 := V9'
  clear V9'
  clear hw10 ho10 B9
  obtain ⟨b0, b1, b2, b3, b4, b5⟩ := unhide XA
  obtain ⟨d0, d1, d2, d3, d4, d5⟩ := unhide X9
  go_wp2_with fail
  refine (meet_any m0 n0 q0 _ l0 lo0 hi0 tm tn tq _ tv tlo thi _ ((unhide HL).below (unhide B10)) ((unhide U0).below (unhide B10)) (unhide V9)).mono ?_
  clear b0 b1 b2 b3 b4 b5
  clear d0 d1 d2 d3 d4 d5
  rintro e w11 ⟨x11, y11, he, ho11, hw11⟩
  rw [← unhide GY] at he ho11
  unfold tells at he
  simp only at he ho11
  obtain ⟨g11, hg11⟩ : ∃ n, n = yv.length := ⟨_, rfl⟩
  rw [← hg11] at he ho11
  clear hg11
  subst he
  have V11 := hide (show Strs (w11.alloc (.cells #[.bool ym, .bool yn, .bool yq, .slice x11 g11 y11, .int .i64 ylo, .int .i64 yhi] 24)) (.slice x11 g11 y11) yv from (Own.strs ho11).below (box_below _))
  have B11 := hide (chain (chain (unhide B10) hw11) (box_below (.cells #[.bool ym, .bool yn, .bool yq, .slice x11 g11 y11, .int .i64 ylo, .int .i64 yhi] 24)))
  have X11 := hide (six_new w11 (.bool ym) (.bool yn) (.bool yq) (.slice x11 g11 y11) (.int .i64 ylo) (.int .i64 yhi) 24)
  have X10' := hide (((unhide X10).below hw11).below (box_below (.cells #[.bool ym, .bool yn, .bool yq, .slice x11 g11 y11, .int .i64 ylo, .int .i64 yhi] 24)))
  clear X10
  have X10 := X10'
  clear X10'
  have V10' := hide (((unhide V10).below hw11).below (box_below (.cells #[.bool ym, .bool yn, .bool yq, .slice x11 g11 y11, .int .i64 ylo, .int .i64 yhi] 24)))
  clear V10
  have V10 := V10'
  clear V10'
  clear hw11 ho11 B10
  go_wp2_with fail
  refine (live_any _ ((unhide HL).below (unhide B11))).mono ?_
  rintro e w12 ⟨rfl, hw12⟩
  have B12 := hide (chain (unhide B11) hw12)
  have Y10 := hide ((unhide X10).below hw12)
  have Y11 := hide ((unhide X11).below hw12)
  have T10 := hide ((unhide V10).below hw12)
  have T11 := hide ((unhide V11).below hw12)
  clear hw12 B11 X10 X11 V10 V11
  by_cases hxe : xe = 0
  rotate_left
  · have ht : (xe != 0) = true := bne_iff_ne.2 hxe
    clear hxe
    go_wp2_with fail
    go_ret
    exact ⟨rfl, unhide B12⟩
  by_cases hye : ye = 0
  rotate_left
  · subst hxe
    have ht : (ye != 0) = true := bne_iff_ne.2 hye
    clear hye
    go_wp2_with fail
    go_ret
    exact ⟨rfl, unhide B12⟩
  subst hxe hye
  have hsame := hide (meetR_assoc (unhide GAB).symm (unhide GBC).symm (unhide GX).symm (unhide GY).symm)
  obtain ⟨b0, b1, b2, b3, b4, b5⟩ := unhide Y10
  obtain ⟨d0, d1, d2, d3, d4, d5⟩ := unhide Y11
  go_wp2_with fail
  refine (same_any xm xn xq _ xv xlo xhi ym yn yq _ yv ylo yhi _ (unhide T10) (unhide T11)).mono ?_
  clear b0 b1 b2 b3 b4 b5 d0 d1 d2 d3 d4 d5
  rintro e w13 ⟨he, hw13⟩
  rw [(same_iff _ _).2 (unhide hsame)] at he
  subst he
  have B13 := hide (chain (unhide B12) hw13)
  clear hw13 B12
  go_wp2_with fail
  go_ret
  exact ⟨rfl, unhide B13⟩

end Go.Proofs.YtkeibapcfbajjabDoor.valsetTurns
