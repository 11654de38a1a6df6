/- TaintTolerates: the walk. -/
import Derived.Test.YtnkcbmlobikjkabDoorTaU
import Derived.Test.YtnkcbmlobikjkabDoorTaM
namespace Go.Proofs.YtnkcbmlobikjkabDoor.taintTolerates
open Go.RowKit Suf Val

set_option maxRecDepth 100000 in
set_option maxHeartbeats 8000000 in
theorem walk (v0 : Value) (lm : List VTol) (v1 : Value) (la : List Lab) (w : World) (h0 : Tols w v0 lm) (h1 : Labs w v1 la) (hL : Laid w) :
    Calls Tryd.prog 5 #[v0, v1] w fun e w' => e = .returned (.bool true) ∧ Below w.heap.size w w' := by
  have HL := hide hL
  have H0 := hide h0
  have H1 := hide h1
  obtain ⟨a0, c0, rfl⟩ := h0.val
  obtain ⟨a1, c1, rfl⟩ := h1.val
  obtain ⟨n0, hn0⟩ : ∃ n, n = lm.length := ⟨_, rfl⟩
  obtain ⟨n1, hn1⟩ : ∃ n, n = la.length := ⟨_, rfl⟩
  rw [← hn0] at H0 ⊢
  rw [← hn1] at H1 ⊢
  clear hL h0 h1 hn0 hn1
  obtain ⟨⟨⟨x, y⟩, q⟩, hp⟩ : ∃ p, p = firstR lm la := ⟨_, rfl⟩
  obtain ⟨r, hr⟩ : ∃ p, p = tolerR lm la := ⟨_, rfl⟩
  have HP := hide hp
  have HR := hide hr
  clear hp hr
  have cf := hide (fun W h1 h2 => pfirst_any (.slice a0 n0 c0) lm (.slice a1 n1 c1) la W h1 h2)
  have rf := hide (fun W h1 h2 => rfirst_any (.slice a0 n0 c0) lm (.slice a1 n1 c1) la W h1 h2)
  rw [← unhide HP] at cf rf
  unfold labV at cf rf
  simp only at cf rf
  obtain ⟨X, hX⟩ : ∃ X, X = bytesT x := ⟨_, rfl⟩
  obtain ⟨Y, hY⟩ : ∃ X, X = bytesT y := ⟨_, rfl⟩
  rw [← hX, ← hY] at cf rf
  clear hX hY HP
  have qL : ∀ W, (binOp .eql 26 (.agg #[.string X, .string Y]) (.agg #[.string X, .string Y])).run Tryd.prog W = .ok (.bool true) W := fun W => by rw [eqlLab]; simp
  have qG := labGuard
  go_enter Tryd.func5, Tryd.ntmps5
  go_wp2_with fail
  refine (unhide cf _ (unhide H0) (unhide H1)).mono ?_
  rintro e w1 ⟨rfl, hw1⟩
  obtain ⟨W1, hW1⟩ : ∃ W, W = w1.alloc (.cells #[.string X, .string Y] 26) := ⟨_, rfl⟩
  have B1 : Hid (Below w.heap.size w W1) := by rw [hW1]; exact chain hw1 (box_below _)
  have F1 : Hid (Two W1 w1.heap.size (.string X) (.string Y)) := by rw [hW1]; exact two_new _ _ _ _
  have G1 := hide hW1
  clear hw1 hW1
  go_wp2_with fail
  rw [← unhide G1]
  refine (unhide rf _ ((unhide H0).below (unhide B1)) ((unhide H1).below (unhide B1))).mono ?_
  rintro e w2 ⟨rfl, hw2⟩
  obtain ⟨W2, hW2⟩ : ∃ W, W = w2.alloc (.cells #[.string X, .string Y] 26) := ⟨_, rfl⟩
  have B2 : Hid (Below w.heap.size w W2) := by rw [hW2]; exact chain (chain (unhide B1) hw2) (box_below _)
  have F2 : Hid (Two W2 w2.heap.size (.string X) (.string Y)) := by rw [hW2]; exact two_new _ _ _ _
  have E2 : Hid (Two W2 w1.heap.size (.string X) (.string Y)) := by rw [hW2]; exact ((unhide F1).below hw2).below (box_below _)
  have G2 := hide hW2
  clear hw2 hW2 B1 F1 G1
  go_wp2_with fail
  rw [← unhide G2]
  refine (rtol_any _ lm _ la _ ((unhide H0).below (unhide B2)) ((unhide H1).below (unhide B2))).mono ?_
  rintro e w3 ⟨he, hw3⟩
  rw [← unhide HR] at he
  subst he
  have B3 := hide (chain (unhide B2) hw3)
  have F3 := hide ((unhide F2).below hw3)
  have E3 := hide ((unhide E2).below hw3)
  clear hw3 B2 F2 E2 G2
  go_wp2_with fail
  refine (live5_any _ ((unhide HL).below (unhide B3))).mono ?_
  rintro e w4 ⟨rfl, hw4⟩
  have B4 := hide (chain (unhide B3) hw4)
  obtain ⟨f0, f1⟩ := (unhide F3).below hw4
  obtain ⟨e0, e1⟩ := (unhide E3).below hw4
  clear hw4 B3 F3 E3
  cases q <;> cases r
  all_goals
    go_wp2_with fail
    refine (ptol_any _ lm _ la _ ((unhide H0).below (unhide B4)) ((unhide H1).below (unhide B4))).mono ?_
    rintro e w5 ⟨he, hw5⟩
    rw [← unhide HR] at he
    subst he
    have B5 := hide (chain (unhide B4) hw5)
    clear hw5
    go_wp2_with fail
    go_ret
    exact ⟨rfl, unhide B5⟩
end Go.Proofs.YtnkcbmlobikjkabDoor.taintTolerates
