/- The walk of ValsetChecks. -/
import Derived.Test.YtkeibapcfbajjaaGreatDoorV3Y
import Derived.Test.YtkeibapcfbajjaaGreatDoorV3U
namespace Go.Proofs.YtkeibapcfbajjaaGreatDoor.valsetChecks
open Go.RowKit Suf Val Go.Maps

set_option maxRecDepth 100000 in
set_option maxHeartbeats 4000000 in
theorem walk (m n q : Bool) (u : Value) (l : List Txt) (lo hi : Int) (w : World) (hu : Strs w u l) (hL : Laid w) :
    Calls Tryz.prog 4 #[.agg #[.bool m, .bool n, .bool q, u, .int .i64 lo, .int .i64 hi]] w fun e w' => e = .returned (.bool true) ∧ Below w.heap.size w w' := by
  have HL := hide hL
  have U := hide hu
  obtain ⟨a, c, rfl⟩ := hu.val
  clear hL hu
  obtain ⟨k, hk⟩ : ∃ n, n = l.length := ⟨_, rfl⟩
  rw [← hk] at U ⊢
  clear hk
  obtain ⟨z, hz⟩ : ∃ z, z = errC (checkB ⟨m, n, q, l, lo, hi⟩) := ⟨_, rfl⟩
  have GZ := hide hz
  clear hz
  have B0 := hide (box_below (w := w) (.cells #[.bool m, .bool n, .bool q, .slice a k c, .int .i64 lo, .int .i64 hi] 26))
  have X0 := hide (six_new w (.bool m) (.bool n) (.bool q) (.slice a k c) (.int .i64 lo) (.int .i64 hi) 26)
  go_enter Tryz.func4, Tryz.ntmps4
  go_wp2_with fail
  refine (rcheck_any _ _ _ _ l _ _ _ ((unhide U).below (unhide B0))).mono ?_
  rintro e w1 ⟨he, hw1⟩
  rw [← unhide GZ] at he
  subst he
  have B1 := hide (chain (unhide B0) hw1)
  have X1 := hide ((unhide X0).below hw1)
  clear hw1 B0 X0
  go_wp2_with fail
  refine (live_any _ ((unhide HL).below (unhide B1))).mono ?_
  rintro e w2 ⟨rfl, hw2⟩
  have B2 := hide (chain (unhide B1) hw2)
  obtain ⟨b0, b1, b2, b3, b4, b5⟩ := (unhide X1).below hw2
  clear hw2 B1 X1
  go_wp2_with fail
  refine (check_any _ _ _ _ l _ _ _ ((unhide HL).below (unhide B2)) ((unhide U).below (unhide B2))).mono ?_
  clear b0 b1 b2 b3 b4 b5
  rintro e w3 ⟨he, hw3⟩
  rw [← unhide GZ] at he
  subst he
  have B3 := hide (chain (unhide B2) hw3)
  clear hw3 B2
  go_wp2_with fail
  go_ret
  exact ⟨ret_bool (by simp), unhide B3⟩

end Go.Proofs.YtkeibapcfbajjaaGreatDoor.valsetChecks
