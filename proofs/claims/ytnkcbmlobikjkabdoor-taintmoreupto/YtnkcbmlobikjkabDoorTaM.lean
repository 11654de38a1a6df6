/- Layer 5: live. -/
import Derived.Test.YtnkcbmlobikjkabDoorTaL
namespace Go.Proofs.YtnkcbmlobikjkabDoor
open Go.RowKit Suf Val

theorem c4_drew {V W : World} {p0 p1 p2 p3 : Addr} {v0 v1 v2 v3 : Value} (h : Hid (Below V.heap.size V W) ∧ W.cell? p0 = some v0 ∧ W.cell? p1 = some v1 ∧ W.cell? p2 = some v2 ∧ W.cell? p3 = some v3) :
    Hid (Below V.heap.size V W.drew) ∧ W.drew.cell? p0 = some v0 ∧ W.drew.cell? p1 = some v1 ∧ W.drew.cell? p2 = some v2 ∧ W.drew.cell? p3 = some v3 := ⟨(unhide h.1).drew, h.2⟩
theorem c4_next {V W W' : World} {p0 p1 p2 p3 : Addr} {v0 v1 v2 v3 : Value} (h : Hid (Below V.heap.size V W) ∧ W.cell? p0 = some v0 ∧ W.cell? p1 = some v1 ∧ W.cell? p2 = some v2 ∧ W.cell? p3 = some v3) (hb : Below W.heap.size W W') :
    Hid (Below V.heap.size V W') ∧ W'.cell? p0 = some v0 ∧ W'.cell? p1 = some v1 ∧ W'.cell? p2 = some v2 ∧ W'.cell? p3 = some v3 := ⟨chain (unhide h.1) hb, cell_kept hb h.2.1, cell_kept hb h.2.2.1, cell_kept hb h.2.2.2.1, cell_kept hb h.2.2.2.2⟩
theorem step_append_full {w : World} {ops : Array Oper} {o : Oper} {a : Act} {K : Act → World → Prop} {Q : Exit → Act → World → Prop} {E : Prop} (hw : Region.wanted o (yielded ops a.tmps) = true) (s x : Operand)
    (ho : o.op = .call { callee := .builtin .append, args := #[s, x], argTypes := #[23, 23] })
    (b1 o1 n1 c1 : Nat) (l1 : List VTol) (hs : a.eval s = .slice (some ⟨b1, o1, none⟩) n1 c1) (h1 : Tols w (.slice (some ⟨b1, o1, none⟩) n1 c1) l1) (hn1 : n1 = l1.length)
    (b2 o2 n2 c2 : Nat) (l2 : List VTol) (hx : a.eval x = .slice (some ⟨b2, o2, none⟩) n2 c2) (h2 : Tols w (.slice (some ⟨b2, o2, none⟩) n2 c2) l2) (hn2 : n2 = l2.length)
    (hfull : c1 < n1 + n2) (hsz : n1 + n2 ≤ 3298534883328)
    (h : ∀ v' w', Tols w' v' (l1 ++ l2) → Below w.heap.size w w' → K (a.put o.dst v') w') : if Region.wanted o (yielded ops a.tmps) = true then Oper.wp Tryd.prog o a w K Q else E := by
  rw [if_pos hw]
  exact wp_append_full s x ho b1 o1 n1 c1 l1 hs h1 hn1 b2 o2 n2 c2 l2 hx h2 hn2 hfull hsz h

set_option maxRecDepth 100000 in
set_option maxHeartbeats 8000000 in
theorem live5_any (w : World) (hL : Laid w) :
    Calls Tryd.prog 7 #[] w fun e w' => e = .returned (.bool true) ∧ Below w.heap.size w w' := by
  have HL := hide hL
  clear hL
  obtain ⟨W0, hW0⟩ : ∃ W, W = (w.alloc (.cells #[.string ⟨#[103, 112, 117]⟩, .string ⟨#[121, 101, 115]⟩, .string ⟨#[111, 108, 100]⟩, .string ⟨#[49]⟩] 26)).alloc (.cells #[.string ⟨#[103, 112, 117]⟩, .string ⟨#[121, 101, 115]⟩, .bool false] 28) := ⟨_, rfl⟩
  have B0 : Hid (Below w.heap.size w W0) := by rw [hW0]; exact chain (box_below _) (box_below _)
  have S0 : Hid (Labs W0 (.slice (some ⟨w.heap.size, 0, none⟩) 2 2) gpuL) := by rw [hW0]; exact (labs_gpu w _ rfl).below (box_below _)
  have T0 : Hid (Tols W0 (.slice (some ⟨w.heap.size + 1, 0, none⟩) 1 1) tolL) := by rw [hW0]; exact tols_one _ _ (by simp)
  have G0 := hide hW0
  clear hW0
  go_enter Tryd.func7, Tryd.ntmps7
  go_wp2_with fail
  rw [← unhide G0]
  refine (pfirst_any _ tolL _ gpuL _ (unhide T0) (unhide S0)).mono ?_
  rintro e w2 ⟨he, hw2⟩
  rw [live_first] at he
  subst he
  have B2 := hide (chain (unhide B0) hw2)
  have S2 := hide ((unhide S0).below hw2)
  have T2 := hide ((unhide T0).below hw2)
  clear hw2 B0 S0 T0 G0
  unfold labV
  obtain ⟨W3, hW3⟩ : ∃ W, W = w2.alloc (.cells #[.string (bytesT tOld), .string (bytesT [49])] 26) := ⟨_, rfl⟩
  have B3 : Hid (Below w.heap.size w W3) := by rw [hW3]; exact chain (unhide B2) (box_below _)
  have S3 : Hid (Labs W3 (.slice (some ⟨w.heap.size, 0, none⟩) 2 2) gpuL) := by rw [hW3]; exact (unhide S2).below (box_below _)
  have T3 : Hid (Tols W3 (.slice (some ⟨w.heap.size + 1, 0, none⟩) 1 1) tolL) := by rw [hW3]; exact (unhide T2).below (box_below _)
  have X3 : Hid (Two W3 w2.heap.size (.string (bytesT tOld)) (.string (bytesT [49]))) := by rw [hW3]; exact two_new _ _ _ _
  have N3 : Hid (W3.heap.size = w2.heap.size + 1) := by show _ = _; rw [hW3]; simp
  obtain ⟨W4, hW4⟩ : ∃ W, W = W3.alloc (.cells #[.string ⟨#[103, 112, 117]⟩, .string ⟨#[]⟩, .bool true, .string ⟨#[111, 108, 100]⟩, .string ⟨#[]⟩, .bool true] 28) := ⟨_, rfl⟩
  have B4 : Hid (Below w.heap.size w W4) := by rw [hW4]; exact chain (unhide B3) (box_below _)
  have S4 : Hid (Labs W4 (.slice (some ⟨w.heap.size, 0, none⟩) 2 2) gpuL) := by rw [hW4]; exact (unhide S3).below (box_below _)
  have T4 : Hid (Tols W4 (.slice (some ⟨w.heap.size + 1, 0, none⟩) 1 1) tolL) := by rw [hW4]; exact (unhide T3).below (box_below _)
  have X4 : Hid (Two W4 w2.heap.size (.string (bytesT tOld)) (.string (bytesT [49]))) := by rw [hW4]; exact (unhide X3).below (box_below _)
  have A4 : Hid (Tols W4 (.slice (some ⟨w2.heap.size + 1, 0, none⟩) 2 2) anyL) := by rw [hW4]; exact tols_any _ _ (unhide N3)
  rw [hW3] at hW4
  have G4 := hide hW4
  clear hW3 hW4 B2 B3 S2 S3 T2 T3 X3 N3
  go_wp2_with fail
  rw [← unhide G4]
  refine (ptol_any _ anyL _ gpuL _ (unhide A4) (unhide S4)).mono ?_
  rintro e w5 ⟨he, hw5⟩
  rw [live_any] at he
  subst he
  have B5 := hide (chain (unhide B4) hw5)
  have S5 := hide ((unhide S4).below hw5)
  have T5 := hide ((unhide T4).below hw5)
  obtain ⟨x0, x1⟩ := (unhide X4).below hw5
  obtain ⟨b', o', e', g2, g3, hz1, hz2⟩ := ((unhide S4).below hw5).at (j := 1) (by decide)
  injection e' with e'
  injection e' with e1 e2
  subst e1
  subst e2
  have hg2 : w5.cell? ⟨w.heap.size, 2, none⟩ = some (.string (bytesT tOld)) := g2
  have hg3 : w5.cell? ⟨w.heap.size, 3, none⟩ = some (.string (bytesT [49])) := g3
  clear g2 g3 hz1 hz2 hw5 B4 S4 T4 X4 A4 G4
  have qL : ∀ W, (binOp .eql 26 (.agg #[.string (bytesT tOld), .string (bytesT [49])]) (.agg #[.string (bytesT tOld), .string (bytesT [49])])).run Tryd.prog W = .ok (.bool true) W := fun W => by rw [eqlLab]; simp
  have qG := labGuard
  obtain ⟨XO, hXO⟩ : ∃ X, X = bytesT tOld := ⟨_, rfl⟩
  obtain ⟨X1, hX1⟩ : ∃ X, X = bytesT [49] := ⟨_, rfl⟩
  rw [← hXO, ← hX1] at qL
  rw [← hXO] at x0 hg2
  rw [← hX1] at x1 hg3
  clear hXO hX1
  have LT := hide (fun W (hs : Hid (Below w5.heap.size w5 W) ∧ W.cell? ⟨w2.heap.size, 0, none⟩ = some (.string XO) ∧ W.cell? ⟨w2.heap.size, 1, none⟩ = some (.string X1) ∧ W.cell? ⟨w.heap.size, 2, none⟩ = some (.string XO) ∧ W.cell? ⟨w.heap.size, 3, none⟩ = some (.string X1)) => ptol_any _ tolL _ gpuL W ((unhide T5).below (unhide hs.1)) ((unhide S5).below (unhide hs.1)))
  have LC := hide (fun W (hs : Hid (Below w5.heap.size w5 W) ∧ W.cell? ⟨w2.heap.size, 0, none⟩ = some (.string XO) ∧ W.cell? ⟨w2.heap.size, 1, none⟩ = some (.string X1) ∧ W.cell? ⟨w.heap.size, 2, none⟩ = some (.string XO) ∧ W.cell? ⟨w.heap.size, 3, none⟩ = some (.string X1)) => pcheck_any _ gpuL W ((unhide HL).below (chain (unhide B5) (unhide hs.1))) ((unhide S5).below (unhide hs.1)))
  have LK := hide (fun v W (hs : Hid (Below w5.heap.size w5 W) ∧ W.cell? ⟨w2.heap.size, 0, none⟩ = some (.string XO) ∧ W.cell? ⟨w2.heap.size, 1, none⟩ = some (.string X1) ∧ W.cell? ⟨w.heap.size, 2, none⟩ = some (.string XO) ∧ W.cell? ⟨w.heap.size, 3, none⟩ = some (.string X1)) ht => ptols_any v (tolL ++ tolL) W ((unhide HL).below (chain (unhide B5) (unhide hs.1))) ht)
  have TT := hide (fun W (hs : Hid (Below w5.heap.size w5 W) ∧ W.cell? ⟨w2.heap.size, 0, none⟩ = some (.string XO) ∧ W.cell? ⟨w2.heap.size, 1, none⟩ = some (.string X1) ∧ W.cell? ⟨w.heap.size, 2, none⟩ = some (.string XO) ∧ W.cell? ⟨w.heap.size, 3, none⟩ = some (.string X1)) => (unhide T5).below (unhide hs.1))
  rw [live_not] at LT
  rw [live_check] at LC
  rw [live_tols] at LK
  have hS := And.intro (show Hid (Below w5.heap.size w5 w5) from Below.refl _ _) (And.intro x0 (And.intro x1 (And.intro hg2 hg3)))
  clear x0 x1 hg2 hg3
  go_wp2_with fail
  go_region_held3 (fun W => Hid (Below w5.heap.size w5 W) ∧ W.cell? ⟨w2.heap.size, 0, none⟩ = some (.string XO) ∧ W.cell? ⟨w2.heap.size, 1, none⟩ = some (.string X1) ∧ W.cell? ⟨w.heap.size, 2, none⟩ = some (.string XO) ∧ W.cell? ⟨w.heap.size, 3, none⟩ = some (.string X1))
    (first | (with_reducible exact hS) | (with_reducible assumption) | (with_reducible refine c4_drew ?_; with_reducible assumption) | (with_reducible refine c4_next ?_ hw; with_reducible assumption))
    (first
      | (go_at_call 15; with_reducible refine (unhide LT _ ?_).mono ?_; (with_reducible assumption); rintro e w6 ⟨rfl, hw⟩)
      | (go_at_call 8; with_reducible refine (unhide LC _ ?_).mono ?_; (with_reducible assumption); rintro e w6 ⟨rfl, hw⟩)
      | (go_at_call 9; with_reducible refine (unhide LK _ _ ?_ ?_).mono ?_; (with_reducible assumption); (first | (with_reducible exact unhide T6) | exact (unhide T6).below (Below.refl _ _).drew); rintro e w6 ⟨rfl, hw⟩)
      | (refine step_append_full (by kernel_rfl) _ _ rfl _ _ _ _ tolL rfl (unhide TT _ ?_) rfl _ _ _ _ tolL rfl (unhide TT _ ?_) rfl (by decide) (by decide) ?_; (with_reducible assumption); (with_reducible assumption); intro v6 w6 ht hw; have T6 := hide ht; clear ht))
  all_goals
    rename_i hH
    have B6 := hide (chain (unhide B5) (unhide hH.1))
    clear hH hS
    go_wp2_with fail
    go_ret
    exact ⟨rfl, unhide B6⟩
end Go.Proofs.YtnkcbmlobikjkabDoor
