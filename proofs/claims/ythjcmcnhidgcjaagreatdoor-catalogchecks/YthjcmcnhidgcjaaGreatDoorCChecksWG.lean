/- CatalogChecks: the walk. -/
import Derived.Test.YthjcmcnhidgcjaaGreatDoorCeCG
import Derived.Test.YthjcmcnhidgcjaaGreatDoorCuTG
namespace Go.Proofs.YthjcmcnhidgcjaaGreatDoor.catalogChecks
open Go.RowKit Suf Val

set_option maxRecDepth 100000 in
set_option maxHeartbeats 16000000 in
theorem walk (v : Value) (l : List VType) (t : VType) (u1 u2 : Value) (w : World) (hv : Lst typK w v l) (hs : short t.name) (h1 : Lst labK w u1 t.labs) (h2 : Lst ofgK w u2 t.offs) (hL : Laid w) :
    Calls Tryz.prog 4 #[v, typA t u1 u2] w fun e w' => e = .returned (.bool true) ∧ Below w.heap.size w w' := by
  have HL := hide hL
  have cr := hide (fun W hW => rtype6_any t u1 u2 W hs (h1.below (w' := W) hW) (h2.below hW))
  have cp := hide (fun W hW => ptype_any t u1 u2 W (hL.below (w' := W) hW) hs (h1.below hW) (h2.below hW))
  have dr := hide (fun W hW => rcat6_any v l W (hv.below (w' := W) hW))
  have dp := hide (fun W hW => pcheck6_any v l W (hL.below (w' := W) hW) (hv.below hW))
  obtain ⟨a, c, rfl⟩ := hv.val
  obtain ⟨a1, d1, rfl⟩ := h1.val
  obtain ⟨a2, d2, rfl⟩ := h2.val
  obtain ⟨z, hz⟩ : ∃ z, z = typeR t := ⟨_, rfl⟩
  obtain ⟨y, hy⟩ : ∃ z, z = catR l := ⟨_, rfl⟩
  obtain ⟨n, hn⟩ : ∃ n, n = l.length := ⟨_, rfl⟩
  obtain ⟨n1, hn1⟩ : ∃ n, n = t.labs.length := ⟨_, rfl⟩
  obtain ⟨n2, hn2⟩ : ∃ n, n = t.offs.length := ⟨_, rfl⟩
  rw [← hz, ← hn1, ← hn2] at cr cp
  rw [← hy, ← hn] at dr dp
  rw [← hn, ← hn1, ← hn2]
  clear hv hs h1 h2 hL hz hy hn hn1 hn2
  have hbz : (z == z) = true := by simp
  have hby : (y == y) = true := by simp
  unfold typA at *
  obtain ⟨W0, hW0⟩ : ∃ W, W = w.alloc (.cells #[.string (bytesT t.name), .int .i64 t.cap.1, .int .i64 t.cap.2, .int .i64 t.ovr.1, .int .i64 t.ovr.2, .slice a1 n1 d1, .slice a2 n2 d2] 27) := ⟨_, rfl⟩
  have B0 : Hid (Below w.heap.size w W0) := by rw [hW0]; exact boxb _
  have F0 : Hid (TypBox W0 w.heap.size t (.slice a1 n1 d1) (.slice a2 n2 d2)) := by rw [hW0]; exact typ_box _ _ _ _
  have GW := hide hW0
  clear hW0
  go_enter Tryz.func4, Tryz.ntmps4
  go_wp2_with fail
  rw [← unhide GW]
  refine (unhide cr _ (unhide B0)).mono ?_
  rintro e w1 ⟨rfl, hw1⟩
  have B1 := hide (chain (unhide B0) hw1)
  have F1 := hide ((unhide F0).below hw1)
  clear hw1 F0 B0 GW cr
  go_wp2_with fail
  refine (unhide dr _ (unhide B1)).mono ?_
  rintro e w2 ⟨rfl, hw2⟩
  have B2 := hide (chain (unhide B1) hw2)
  have F2 := hide ((unhide F1).below hw2)
  clear hw2 F1 B1 dr
  go_wp2_with fail
  refine (live6_any _ ((unhide HL).below (unhide B2))).mono ?_
  rintro e w3 ⟨rfl, hw3⟩
  have B3 := hide (chain (unhide B2) hw3)
  obtain ⟨f0, f1, f2, f3, f4, f5, f6⟩ := (unhide F2).below hw3
  clear hw3 F2 B2
  go_wp2_with fail
  refine (unhide cp _ (unhide B3)).mono ?_
  rintro e w4 ⟨rfl, hw4⟩
  have B4 := hide (chain (unhide B3) hw4)
  clear hw4 B3 f0 f1 f2 f3 f4 f5 f6 cp
  go_wp2_with fail
  refine (unhide dp _ (unhide B4)).mono ?_
  rintro e w5 ⟨rfl, hw5⟩
  have B5 := hide (chain (unhide B4) hw5)
  clear hw5 B4 dp
  go_wp2_with fail
  go_ret
  exact ⟨rfl, unhide B5⟩
end Go.Proofs.YthjcmcnhidgcjaaGreatDoor.catalogChecks
