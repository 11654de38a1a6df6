/- ReqsAdmits: the walk. -/
import Derived.Test.YtnkcbmlobikjkaaGreatDoorRqUG
namespace Go.Proofs.YtnkcbmlobikjkaaGreatDoor.reqsAdmits
open Go.RowKit Suf Val Go.Maps

set_option maxRecDepth 100000 in
set_option maxHeartbeats 8000000 in
theorem walk (v0 : Value) (l : List VReq) (v1 : Value) (ls : List Lab) (w : World) (h0 : Reqs w v0 l) (h1 : Labs w v1 ls) (hL : Laid w) :
    Calls Tryz.prog 5 #[v0, v1] w fun e w' => e = .returned (.bool true) ∧ Below w.heap.size w w' := by
  have HL := hide hL
  have H0 := hide h0
  have H1 := hide h1
  obtain ⟨a0, c0, rfl⟩ := h0.val
  obtain ⟨a1, c1, rfl⟩ := h1.val
  obtain ⟨n0, hn0⟩ : ∃ n, n = l.length := ⟨_, rfl⟩
  obtain ⟨n1, hn1⟩ : ∃ n, n = ls.length := ⟨_, rfl⟩
  rw [← hn0] at H0 ⊢
  rw [← hn1] at H1 ⊢
  clear hL h0 h1 hn0 hn1
  obtain ⟨R, hR⟩ : ∃ R, R = admitsR l ls := ⟨_, rfl⟩
  have HR := hide hR
  clear hR
  obtain ⟨q, z⟩ := R
  go_enter Tryz.func5, Tryz.ntmps5
  go_wp2_with fail
  refine (padmits_any _ l _ ls _ (unhide HL) (unhide H0) (unhide H1)).mono ?_
  rintro e w1 ⟨he, hw1⟩
  rw [← unhide HR] at he
  subst he
  have B1 := hide hw1
  clear hw1
  go_wp2_with fail
  refine (radmitsL_any _ l _ ls _ ((unhide H0).below (unhide B1)) ((unhide H1).below (unhide B1))).mono ?_
  rintro e w2 ⟨he, hw2⟩
  rw [← unhide HR] at he
  subst he
  have B2 := hide (chain (unhide B1) hw2)
  clear hw2
  have hz : (z == z) = true := by simp
  cases q
  · go_wp2_with fail
    refine (live4_any _ ((unhide HL).below (unhide B2))).mono ?_
    rintro e w3 ⟨rfl, hw3⟩
    have B3 := hide (chain (unhide B2) hw3)
    clear hw3
    go_wp2_with fail
    go_ret
    exact ⟨rfl, unhide B3⟩
  · go_wp2_with fail
    refine (live4_any _ ((unhide HL).below (unhide B2))).mono ?_
    rintro e w3 ⟨rfl, hw3⟩
    have B3 := hide (chain (unhide B2) hw3)
    clear hw3
    go_wp2_with fail
    go_ret
    exact ⟨rfl, unhide B3⟩
end Go.Proofs.YtnkcbmlobikjkaaGreatDoor.reqsAdmits
