/- ReqsCan: the walk. -/
import Derived.Test.YtnkcbmlobikjkaaGreatDoorRqZG
namespace Go.Proofs.YtnkcbmlobikjkaaGreatDoor.reqsCan
open Go.RowKit Suf Val Go.Maps

set_option maxRecDepth 100000 in
set_option maxHeartbeats 8000000 in
theorem walk (v0 : Value) (la : List VReq) (v1 : Value) (lb : List VReq) (w : World) (h0 : Reqs w v0 la) (h1 : Reqs w v1 lb) (hL : Laid w) :
    Calls Tryz.prog 6 #[v0, v1] w fun e w' => e = .returned (.bool true) ∧ Below w.heap.size w w' := by
  have HL := hide hL
  have H0 := hide h0
  have H1 := hide h1
  obtain ⟨a0, c0, rfl⟩ := h0.val
  obtain ⟨a1, c1, rfl⟩ := h1.val
  obtain ⟨n0, hn0⟩ : ∃ n, n = la.length := ⟨_, rfl⟩
  obtain ⟨n1, hn1⟩ : ∃ n, n = lb.length := ⟨_, rfl⟩
  rw [← hn0] at H0 ⊢
  rw [← hn1] at H1 ⊢
  clear hL h0 h1 hn0 hn1
  obtain ⟨R, hR⟩ : ∃ R, R = canR la := ⟨_, rfl⟩
  have HR := hide hR
  obtain ⟨M, hM⟩ : ∃ M, M = meetsR la lb := ⟨_, rfl⟩
  have HM := hide hM
  clear hR hM
  obtain ⟨q, z⟩ := R
  obtain ⟨p, y⟩ := M
  go_enter Tryz.func6, Tryz.ntmps6
  go_wp2_with fail
  refine (pcan_any _ la _ (unhide HL) (unhide H0)).mono ?_
  rintro e w1 ⟨he, hw1⟩
  rw [← unhide HR] at he
  subst he
  have B1 := hide hw1
  clear hw1
  go_wp2_with fail
  refine (rcan_of rsets_any _ la _ ((unhide HL).below (unhide B1)) ((unhide H0).below (unhide B1))).mono ?_
  rintro e w2 ⟨he, hw2⟩
  rw [← unhide HR] at he
  subst he
  have B2 := hide (chain (unhide B1) hw2)
  clear hw2 B1
  go_wp2_with fail
  refine (pmeets_any _ _ la lb _ ((unhide HL).below (unhide B2)) ((unhide H0).below (unhide B2)) ((unhide H1).below (unhide B2))).mono ?_
  rintro e w3 ⟨he, hw3⟩
  rw [← unhide HM] at he
  subst he
  have B3 := hide (chain (unhide B2) hw3)
  clear hw3 B2
  go_wp2_with fail
  refine (rmeets_of rsets_any _ _ la lb _ ((unhide HL).below (unhide B3)) ((unhide H0).below (unhide B3)) ((unhide H1).below (unhide B3))).mono ?_
  rintro e w4 ⟨he, hw4⟩
  rw [← unhide HM] at he
  subst he
  have B4 := hide (chain (unhide B3) hw4)
  clear hw4 B3
  have hz : (z == z) = true := by simp
  have hy : (y == y) = true := by simp
  cases q <;> cases p
  all_goals
    go_wp2_with fail
    refine (live4_any _ ((unhide HL).below (unhide B4))).mono ?_
    rintro e w5 ⟨rfl, hw5⟩
    have B5 := hide (chain (unhide B4) hw5)
    clear hw5
    go_wp2_with fail
    go_ret
    exact ⟨rfl, unhide B5⟩
end Go.Proofs.YtnkcbmlobikjkaaGreatDoor.reqsCan
