/- TaintChecks: the walk. -/
import Derived.Test.YtnkcbmlobikjkabDoorTaU
import Derived.Test.YtnkcbmlobikjkabDoorTaM
namespace Go.Proofs.YtnkcbmlobikjkabDoor.taintChecks
open Go.RowKit Suf Val

set_option maxRecDepth 100000 in
set_option maxHeartbeats 8000000 in
theorem walk (v0 : Value) (la : List Lab) (v1 : Value) (lm : List VTol) (w : World) (h0 : Labs w v0 la) (h1 : Tols w v1 lm) (hL : Laid w) :
    Calls Tryd.prog 4 #[v0, v1] w fun e w' => e = .returned (.bool true) ∧ Below w.heap.size w w' := by
  have HL := hide hL
  have H0 := hide h0
  have H1 := hide h1
  obtain ⟨a0, c0, rfl⟩ := h0.val
  obtain ⟨a1, c1, rfl⟩ := h1.val
  obtain ⟨n0, hn0⟩ : ∃ n, n = la.length := ⟨_, rfl⟩
  obtain ⟨n1, hn1⟩ : ∃ n, n = lm.length := ⟨_, rfl⟩
  rw [← hn0] at H0 ⊢
  rw [← hn1] at H1 ⊢
  clear hL h0 h1 hn0 hn1
  obtain ⟨p, hp⟩ : ∃ p, p = taintR la := ⟨_, rfl⟩
  obtain ⟨q, hq⟩ : ∃ p, p = tolsR lm := ⟨_, rfl⟩
  have HP := hide hp
  have HQ := hide hq
  have hpp : (p == p) = true := by simp
  have hqq : (q == q) = true := by simp
  clear hp hq
  go_enter Tryd.func4, Tryd.ntmps4
  go_wp2_with fail
  refine (rcheck_any _ la _ (unhide H0)).mono ?_
  rintro e w1 ⟨he, hw1⟩
  rw [← unhide HP] at he
  subst he
  have B1 := hide hw1
  clear hw1
  go_wp2_with fail
  refine (rtols_any _ lm _ ((unhide H1).below (unhide B1))).mono ?_
  rintro e w2 ⟨he, hw2⟩
  rw [← unhide HQ] at he
  subst he
  have B2 := hide (chain (unhide B1) hw2)
  clear hw2 B1
  go_wp2_with fail
  refine (live5_any _ ((unhide HL).below (unhide B2))).mono ?_
  rintro e w3 ⟨rfl, hw3⟩
  have B3 := hide (chain (unhide B2) hw3)
  clear hw3 B2
  go_wp2_with fail
  refine (pcheck_any _ la _ ((unhide HL).below (unhide B3)) ((unhide H0).below (unhide B3))).mono ?_
  rintro e w4 ⟨he, hw4⟩
  rw [← unhide HP] at he
  subst he
  have B4 := hide (chain (unhide B3) hw4)
  clear hw4 B3
  go_wp2_with fail
  refine (ptols_any _ lm _ ((unhide HL).below (unhide B4)) ((unhide H1).below (unhide B4))).mono ?_
  rintro e w5 ⟨he, hw5⟩
  rw [← unhide HQ] at he
  subst he
  have B5 := hide (chain (unhide B4) hw5)
  clear hw5 B4
  go_wp2_with fail
  go_ret
  exact ⟨rfl, unhide B5⟩
end Go.Proofs.YtnkcbmlobikjkabDoor.taintChecks
