/- The walk of ValsetAsks. -/
import Derived.Test.YtkeibapcfbajjaaGreatDoorV3Y
import Derived.Test.YtkeibapcfbajjaaGreatDoorV3SA
import Derived.Test.YtkeibapcfbajjaaGreatDoorV3U
namespace Go.Proofs.YtkeibapcfbajjaaGreatDoor.valsetAsks
open Go.RowKit Suf Val Go.Maps

set_option maxRecDepth 100000 in
set_option maxHeartbeats 8000000 in
theorem walk (m0 n0 q0 : Bool) (u0 : Value) (l0 : List Txt) (lo0 hi0 : Int) (m1 n1 q1 : Bool) (u1 : Value) (l1 : List Txt) (lo1 hi1 : Int) (v : ByteArray) (w : World) (hu0 : Strs w u0 l0) (hu1 : Strs w u1 l1) (hv : v.size ≤ 281474976710656) (hL : Laid w) :
    Calls Tryz.prog 5 #[.agg #[.bool m0, .bool n0, .bool q0, u0, .int .i64 lo0, .int .i64 hi0], .agg #[.bool m1, .bool n1, .bool q1, u1, .int .i64 lo1, .int .i64 hi1], .string v] w fun e w' => e = .returned (.bool true) ∧ Below w.heap.size w w' := by
  have HL := hide hL
  clear hL
  obtain ⟨x, hx⟩ : ∃ x : Txt, v = bytesT x := ⟨v.data.toList, rfl⟩
  have HX : Hid (short x) := by
    show x.length ≤ _
    rw [← bytesT_size, ← hx]; exact hv
  have GX := hide hx
  clear hv hx
  have U0 := hide hu0
  obtain ⟨a0, c0, rfl⟩ := hu0.val
  clear hu0
  obtain ⟨k0, hk0⟩ : ∃ n, n = l0.length := ⟨_, rfl⟩
  rw [← hk0] at U0 ⊢
  clear hk0
  have U1 := hide hu1
  obtain ⟨a1, c1, rfl⟩ := hu1.val
  clear hu1
  obtain ⟨k1, hk1⟩ : ∃ n, n = l1.length := ⟨_, rfl⟩
  rw [← hk1] at U1 ⊢
  clear hk1
  obtain ⟨W0, hW0⟩ : ∃ W0, W0 = ((w.alloc (.cells #[.bool m0, .bool n0, .bool q0, .slice a0 k0 c0, .int .i64 lo0, .int .i64 hi0] 26)).alloc (.cells #[.bool m1, .bool n1, .bool q1, .slice a1 k1 c1, .int .i64 lo1, .int .i64 hi1] 26)) := ⟨_, rfl⟩
  have B0 : Hid (Below w.heap.size w W0) := by rw [hW0]; exact ((box_below _).alloc (by simp) _)
  have XA : Hid (Six W0 w.heap.size (.bool m0) (.bool n0) (.bool q0) (.slice a0 k0 c0) (.int .i64 lo0) (.int .i64 hi0)) := by
    rw [hW0]; exact ((six_new w _ _ _ _ _ _ _).below (box_below _))
  have XB : Hid (Six W0 (w.heap.size + 1) (.bool m1) (.bool n1) (.bool q1) (.slice a1 k1 c1) (.int .i64 lo1) (.int .i64 hi1)) := by
    have := six_new (w.alloc (.cells #[.bool m0, .bool n0, .bool q0, .slice a0 k0 c0, .int .i64 lo0, .int .i64 hi0] 26)) (.bool m1) (.bool n1) (.bool q1) (.slice a1 k1 c1) (.int .i64 lo1) (.int .i64 hi1) 26
    rw [show (w.alloc (.cells #[.bool m0, .bool n0, .bool q0, .slice a0 k0 c0, .int .i64 lo0, .int .i64 hi0] 26)).heap.size = w.heap.size + 1 by simp] at this
    rw [hW0]; exact this
  have GW := hide hW0
  clear hW0
  obtain ⟨ha, hha⟩ : ∃ q, q = hasB ⟨m0, n0, q0, l0, lo0, hi0⟩ x := ⟨_, rfl⟩
  obtain ⟨em, hem⟩ : ∃ q, q = emptyB ⟨m0, n0, q0, l0, lo0, hi0⟩ := ⟨_, rfl⟩
  obtain ⟨sa, hsa⟩ : ∃ q, q = sameB ⟨m0, n0, q0, l0, lo0, hi0⟩ ⟨m1, n1, q1, l1, lo1, hi1⟩ := ⟨_, rfl⟩
  have GH := hide hha
  have GE := hide hem
  have GS := hide hsa
  clear hha hem hsa
  go_enter Tryz.func5, Tryz.ntmps5
  go_wp2_with fail
  rw [← unhide GW]
  rw [unhide GX]
  refine (rhas_any m0 n0 q0 _ l0 lo0 hi0 x _ ((unhide U0).below (unhide B0)) (unhide HX)).mono ?_
  rintro e w1 ⟨he, hw1⟩
  rw [← unhide GH] at he
  subst he
  rw [← unhide GX]
  have B1 := hide (chain (unhide B0) hw1)
  have XA' := hide ((unhide XA).below hw1)
  clear XA
  have XA := XA'
  clear XA'
  have XB' := hide ((unhide XB).below hw1)
  clear XB
  have XB := XB'
  clear XB'
  clear hw1 B0
  obtain ⟨b0, b1, b2, b3, b4, b5⟩ := unhide XA
  go_wp2_with fail
  refine (rempty_any m0 n0 q0 _ l0 lo0 hi0 _ ((unhide U0).below (unhide B1))).mono ?_
  clear b0 b1 b2 b3 b4 b5
  rintro e w2 ⟨he, hw2⟩
  rw [← unhide GE] at he
  subst he
  have B2 := hide (chain (unhide B1) hw2)
  have XA' := hide ((unhide XA).below hw2)
  clear XA
  have XA := XA'
  clear XA'
  have XB' := hide ((unhide XB).below hw2)
  clear XB
  have XB := XB'
  clear XB'
  clear hw2 B1
  obtain ⟨b0, b1, b2, b3, b4, b5⟩ := unhide XA
  obtain ⟨d0, d1, d2, d3, d4, d5⟩ := unhide XB
  go_wp2_with fail
  refine (same_any m0 n0 q0 _ l0 lo0 hi0 m1 n1 q1 _ l1 lo1 hi1 _ ((unhide U0).below (unhide B2)) ((unhide U1).below (unhide B2))).mono ?_
  clear b0 b1 b2 b3 b4 b5
  clear d0 d1 d2 d3 d4 d5
  rintro e w3 ⟨he, hw3⟩
  rw [← unhide GS] at he
  subst he
  have B3 := hide (chain (unhide B2) hw3)
  have XA' := hide ((unhide XA).below hw3)
  clear XA
  have XA := XA'
  clear XA'
  have XB' := hide ((unhide XB).below hw3)
  clear XB
  have XB := XB'
  clear XB'
  clear hw3 B2
  go_wp2_with fail
  refine (live_any _ ((unhide HL).below (unhide B3))).mono ?_
  rintro e w4 ⟨he, hw4⟩
  subst he
  have B4 := hide (chain (unhide B3) hw4)
  have XA' := hide ((unhide XA).below hw4)
  clear XA
  have XA := XA'
  clear XA'
  have XB' := hide ((unhide XB).below hw4)
  clear XB
  have XB := XB'
  clear XB'
  clear hw4 B3
  obtain ⟨b0, b1, b2, b3, b4, b5⟩ := unhide XA
  go_wp2_with fail
  rw [unhide GX]
  refine (has_any m0 n0 q0 _ l0 lo0 hi0 x _ ((unhide HL).below (unhide B4)) ((unhide U0).below (unhide B4)) (unhide HX)).mono ?_
  clear b0 b1 b2 b3 b4 b5
  rintro e w5 ⟨he, hw5⟩
  rw [← unhide GH] at he
  subst he
  rw [← unhide GX]
  have B5 := hide (chain (unhide B4) hw5)
  have XA' := hide ((unhide XA).below hw5)
  clear XA
  have XA := XA'
  clear XA'
  have XB' := hide ((unhide XB).below hw5)
  clear XB
  have XB := XB'
  clear XB'
  clear hw5 B4
  obtain ⟨b0, b1, b2, b3, b4, b5⟩ := unhide XA
  go_wp2_with fail
  refine (empty_any m0 n0 q0 _ l0 lo0 hi0 _ ((unhide HL).below (unhide B5)) ((unhide U0).below (unhide B5))).mono ?_
  clear b0 b1 b2 b3 b4 b5
  rintro e w6 ⟨he, hw6⟩
  rw [← unhide GE] at he
  subst he
  have B6 := hide (chain (unhide B5) hw6)
  have XA' := hide ((unhide XA).below hw6)
  clear XA
  have XA := XA'
  clear XA'
  have XB' := hide ((unhide XB).below hw6)
  clear XB
  have XB := XB'
  clear XB'
  clear hw6 B5
  obtain ⟨b0, b1, b2, b3, b4, b5⟩ := unhide XA
  obtain ⟨d0, d1, d2, d3, d4, d5⟩ := unhide XB
  go_wp2_with fail
  refine (psame_any m0 n0 q0 _ l0 lo0 hi0 m1 n1 q1 _ l1 lo1 hi1 _ ((unhide U0).below (unhide B6)) ((unhide U1).below (unhide B6))).mono ?_
  clear b0 b1 b2 b3 b4 b5
  clear d0 d1 d2 d3 d4 d5
  rintro e w7 ⟨he, hw7⟩
  rw [← unhide GS] at he
  subst he
  have B7 := hide (chain (unhide B6) hw7)
  have XA' := hide ((unhide XA).below hw7)
  clear XA
  have XA := XA'
  clear XA'
  have XB' := hide ((unhide XB).below hw7)
  clear XB
  have XB := XB'
  clear XB'
  clear hw7 B6
  obtain ⟨b0, b1, b2, b3, b4, b5⟩ := unhide XA
  go_wp2_with fail
  refine (psame_any m0 n0 q0 _ l0 lo0 hi0 m0 n0 q0 _ l0 lo0 hi0 _ ((unhide U0).below (unhide B7)) ((unhide U0).below (unhide B7))).mono ?_
  clear b0 b1 b2 b3 b4 b5
  rintro e w8 ⟨he, hw8⟩
  rw [(same_iff ⟨m0, n0, q0, l0, lo0, hi0⟩ ⟨m0, n0, q0, l0, lo0, hi0⟩).2 rfl] at he
  subst he
  have B8 := hide (chain (unhide B7) hw8)
  have XA' := hide ((unhide XA).below hw8)
  clear XA
  have XA := XA'
  clear XA'
  have XB' := hide ((unhide XB).below hw8)
  clear XB
  have XB := XB'
  clear XB'
  clear hw8 B7
  go_wp2_with fail
  go_ret
  exact ⟨rfl, unhide B8⟩

end Go.Proofs.YtkeibapcfbajjaaGreatDoor.valsetAsks
