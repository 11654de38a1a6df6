/- Layer 5: labels, and what is tolerated, appended to rows of the call's own. -/
import Derived.Test.YtnkcbmlobikjkabDoorTaL
import Derived.Laws.OwnMore
import Derived.Laws.AppendOwn
import Derived.Deep.AppendLies
namespace Go.Proofs.YtnkcbmlobikjkabDoor
open Go.RowKit Suf Val

theorem run_append_nilT {P : Program} {w : World} (base : Nat) (t ty e : TypeId) (i : TypeInfo) (size c : Nat) (ht : P.underlying t = some (.slice e)) (hi : P.info? e = some i)
    (v : Value) (n : Nat) (xs : List Value) (hown : w.ownsRow base e size v n xs) :
    (Builtin.append_ #[t, t] ty #[v, .slice none 0 c]).run P w = .ok v w := by
  rcases hown.2 with ⟨rfl, rfl⟩ | ⟨g, cap, cur, rfl, _, _, hnc, _⟩
  · simp [Builtin.append_, run_underlying ht, sizeOf, typeInfo, hi, Builtin.lenOf, Builtin.firstCells]
  · simp [Builtin.append_, run_underlying ht, sizeOf, typeInfo, hi, Builtin.lenOf, Builtin.firstCells, hnc, storeCells]
theorem wpList_append_nilT {P : Program} {w : World} {ops : Array Oper} {rest : List Oper} {o : Oper} {a : Act} {Q : Exit → Act → World → Prop} (hgd : o.guard = none) (s x : Operand) (t : TypeId)
    (ho : o.op = .call { callee := .builtin .append, args := #[s, x], argTypes := #[t, t] })
    (base : Nat) (e : TypeId) (i : TypeInfo) (size c : Nat) (ht : P.underlying t = some (.slice e)) (hi : P.info? e = some i)
    (v : Value) (n : Nat) (xs : List Value) (hs : a.eval s = v) (hown : w.ownsRow base e size v n xs) (hx : a.eval x = .slice none 0 c)
    (h : wpList P ops Q rest (a.put o.dst v) w) : wpList P ops Q (o :: rest) a w := by
  refine wpList_plain hgd fun K hK => ?_
  have hrun := run_append_nilT (P := P) (w := w) base t o.type e i size c ht hi v n xs hown
  unfold Oper.wp
  simp [execOp, ho, resolve, invoke, builtin, hs, hx, hrun, Result.andThen]
  exact hK _ _ h
theorem grown_reflT (w : World) (r : Option Nat) : w.grownBy w r := ⟨rfl, rfl, rfl, Nat.le_refl _, fun _ _ _ => rfl⟩
theorem row_blockT {w : World} {base : Nat} {T : TypeId} {sz : Nat} {v : Value} {n : Nat} {xs : List Value} (h : w.ownsRow base T sz v n xs) : ∀ k, v.ownBlock = some k → base ≤ k := fun k hk => (h.lt k hk).1
theorem row_growT {w W W1 : World} {T : TypeId} {sz : Nat} {v : Value} {n : Nat} {xs : List Value} (hb : Below w.heap.size w W) (ho : W.ownsRow w.heap.size T sz v n xs) (hg : W.grownBy W1 v.ownBlock) : Below w.heap.size w W1 := hb.grown hg hb.size (row_blockT ho)
theorem below_grownByT {w w' : World} (h : Below w.heap.size w w') : w.grownBy w' none := ⟨h.os, h.tape, h.output, h.size, fun i hi _ => h.block i hi⟩
theorem row_belowT {w w' : World} {base : Nat} {T : TypeId} {sz : Nat} {v : Value} {n : Nat} {xs : List Value} (h : w.ownsRow base T sz v n xs) (hb : Below w.heap.size w w') : w'.ownsRow base T sz v n xs :=
  h.kept (below_grownByT hb) (by
    cases hv : v.ownBlock with
    | none => exact Or.inl rfl
    | some b => exact Or.inr (by simp))
theorem row_otherT {w w' : World} {r : Option Nat} {base : Nat} {T : TypeId} {sz : Nat} {v : Value} {n : Nat} {xs : List Value} (h : w.ownsRow base T sz v n xs) (hg : w.grownBy w' r) (hne : ∀ k, r = some k → v.ownBlock ≠ some k) : w'.ownsRow base T sz v n xs :=
  h.kept hg (by
    cases hv : v.ownBlock with
    | none => exact Or.inl rfl
    | some b => exact Or.inr (fun e => hne b e.symm hv))
/-- A list appended to a row of the call's own. -/
theorem wpList_append_labs {w : World} {ops : Array Oper} {rest : List Oper} {o : Oper} {a : Act} {Q : Exit → Act → World → Prop} (hgd : o.guard = none) (s x : Operand)
    (ho : o.op = .call { callee := .builtin .append, args := #[s, x], argTypes := #[22, 22] })
    (base : Nat) (v : Value) (n : Nat) (xs : List Value) (hs : a.eval s = v) (hown : w.ownsRow base 26 2 v n xs) (u : Value) (l : List Lab) (hx : a.eval x = u) (hsrc : Labs w u l)
    (hlen : (n + l.length) * 32 ≤ 140737488355328) (hbase : base ≤ w.heap.size)
    (h : ∀ v' w', w'.ownsRow base 26 2 v' (n + l.length) (xs ++ flatL l) → w.grownBy w' v.ownBlock → wpList Tryd.prog ops Q rest (a.put o.dst v') w') : wpList Tryd.prog ops Q (o :: rest) a w := by
  obtain ⟨i, hi, hz, hz1, hz2⟩ := info_partsT Tryd.infoLab
  obtain ⟨ad, c, rfl⟩ := hsrc.val
  cases ad with
  | none =>
    have hm : l = [] := by
      cases l with
      | nil => rfl
      | cons t m => obtain ⟨b, o, e, _⟩ := hsrc.at (j := 0) (by simp); cases e
    subst hm
    refine wpList_append_nilT hgd s x _ ho base 26 i 2 c Tryd.underlying22 hi v n _ hs hown hx (h v w ?_ (grown_reflT _ _))
    rw [show flatL [] = [] from rfl, List.append_nil]; exact hown
  | some ad =>
    by_cases hl : l = []
    · subst hl
      refine wpList_append_own w hgd s x _ ho base 26 i _ 2 32 Tryd.underlying22 hi hz hz1 hz2 rfl (by decide) v n _ hs hown ad 0 c (flatL []) hx rfl (fun j u hu => by cases hu) (flatL_one _) (by unfold maxLen; simp only [List.length_nil] at hlen; omega) (by simp only [List.length_nil] at hlen; omega) hbase ?_
      intro v' w' h2 h3 _
      exact h v' w' h2 h3
    · obtain ⟨b, o', e, _⟩ := hsrc.at (j := 0) (by cases l with | nil => exact absurd rfl hl | cons => simp)
      injection e with e
      subst e
      refine wpList_append_own w hgd s x _ ho base 26 i _ 2 32 Tryd.underlying22 hi hz hz1 hz2 rfl (by decide) v n _ hs hown ⟨b, o', none⟩ l.length c (flatL l) hx (flatL_len l) (labs_cells hsrc) (flatL_one _) (by unfold maxLen; omega) (by omega) hbase ?_
      intro v' w' h2 h3 _
      exact h v' w' h2 h3
/-- A list appended to a row of the call's own. -/
theorem wpList_append_tols {w : World} {ops : Array Oper} {rest : List Oper} {o : Oper} {a : Act} {Q : Exit → Act → World → Prop} (hgd : o.guard = none) (s x : Operand)
    (ho : o.op = .call { callee := .builtin .append, args := #[s, x], argTypes := #[23, 23] })
    (base : Nat) (v : Value) (n : Nat) (xs : List Value) (hs : a.eval s = v) (hown : w.ownsRow base 28  3 v n xs) (u : Value) (l : List VTol) (hx : a.eval x = u) (hsrc : Tols w u l)
    (hlen : (n + l.length) * 40 ≤ 140737488355328) (hbase : base ≤ w.heap.size)
    (h : ∀ v' w', w'.ownsRow base 28  3 v' (n + l.length) (xs ++ flatT l) → w.grownBy w' v.ownBlock → wpList Tryd.prog ops Q rest (a.put o.dst v') w') : wpList Tryd.prog ops Q (o :: rest) a w := by
  obtain ⟨i, hi, hz, hz1, hz2⟩ := info_partsT Tryd.infoTol
  obtain ⟨ad, c, rfl⟩ := hsrc.val
  cases ad with
  | none =>
    have hm : l = [] := by
      cases l with
      | nil => rfl
      | cons t m => obtain ⟨b, o, e, _⟩ := hsrc.at (j := 0) (by simp); cases e
    subst hm
    refine wpList_append_nilT hgd s x _ ho base 28 i 3 c Tryd.underlying23 hi v n _ hs hown hx (h v w ?_ (grown_reflT _ _))
    rw [show flatT [] = [] from rfl, List.append_nil]; exact hown
  | some ad =>
    by_cases hl : l = []
    · subst hl
      refine wpList_append_own w hgd s x _ ho base 28 i _  3 40 Tryd.underlying23 hi hz hz1 hz2 rfl (by decide) v n _ hs hown ad 0 c (flatT []) hx rfl (fun j u hu => by cases hu) (flatT_one _) (by unfold maxLen; simp only [List.length_nil] at hlen; omega) (by simp only [List.length_nil] at hlen; omega) hbase ?_
      intro v' w' h2 h3 _
      exact h v' w' h2 h3
    · obtain ⟨b, o', e, _⟩ := hsrc.at (j := 0) (by cases l with | nil => exact absurd rfl hl | cons => simp)
      injection e with e
      subst e
      refine wpList_append_own w hgd s x _ ho base 28 i _  3 40 Tryd.underlying23 hi hz hz1 hz2 rfl (by decide) v n _ hs hown ⟨b, o', none⟩ l.length c (flatT l) hx (flatT_len l) (tols_cells hsrc) (flatT_one _) (by unfold maxLen; omega) (by omega) hbase ?_
      intro v' w' h2 h3 _
      exact h v' w' h2 h3
/-- Some appended, and where it lies then. -/
theorem wpList_append_lab1 {w : World} {ops : Array Oper} {rest : List Oper} {o : Oper} {a : Act} {Q : Exit → Act → World → Prop} (hgd : o.guard = none) (s x : Operand)
    (ho : o.op = .call { callee := .builtin .append, args := #[s, x], argTypes := #[22, 22] })
    (base : Nat) (v : Value) (n : Nat) (xs : List Value) (hs : a.eval s = v) (hown : w.ownsRow base 26 2 v n xs) (b m c : Nat) (l : List Lab) (hx : a.eval x = .slice (some ⟨b, 0, none⟩) m c) (hsrc : Labs w (.slice (some ⟨b, 0, none⟩) m c) l) (hm : m = l.length) (h0 : 0 < m)
    (hlen : (n + m) * 32 ≤ 140737488355328) (hbase : base ≤ w.heap.size) (H : Nat) (hH : w.heap.size = H)
    (h : ∀ g cap w', w'.ownsRow base 26 2 (.slice (some ⟨g, 0, none⟩) (n + m) cap) (n + m) (xs ++ flatL l) → w.grownBy w' v.ownBlock → (v.ownBlock = some g ∨ g = H) → g < w'.heap.size → wpList Tryd.prog ops Q rest (a.put o.dst (.slice (some ⟨g, 0, none⟩) (n + m) cap)) w') : wpList Tryd.prog ops Q (o :: rest) a w := by
  obtain ⟨i, hi, hz, hz1, hz2⟩ := info_partsT Tryd.infoLab
  exact wpList_append_lies w hgd s x _ ho base 26 i _ 2 32 Tryd.underlying22 hi hz hz1 hz2 rfl (by decide) v n _ hs hown ⟨b, 0, none⟩ m c (flatL l) hx (by rw [hm]; exact flatL_len l) (labs_cells hsrc) (flatL_one _) h0 (by unfold maxLen; omega) hlen hbase H hH h
/-- Some appended, and where it lies then. -/
theorem wpList_append_tol1 {w : World} {ops : Array Oper} {rest : List Oper} {o : Oper} {a : Act} {Q : Exit → Act → World → Prop} (hgd : o.guard = none) (s x : Operand)
    (ho : o.op = .call { callee := .builtin .append, args := #[s, x], argTypes := #[23, 23] })
    (base : Nat) (v : Value) (n : Nat) (xs : List Value) (hs : a.eval s = v) (hown : w.ownsRow base 28  3 v n xs) (b m c : Nat) (l : List VTol) (hx : a.eval x = .slice (some ⟨b, 0, none⟩) m c) (hsrc : Tols w (.slice (some ⟨b, 0, none⟩) m c) l) (hm : m = l.length) (h0 : 0 < m)
    (hlen : (n + m) * 40 ≤ 140737488355328) (hbase : base ≤ w.heap.size) (H : Nat) (hH : w.heap.size = H)
    (h : ∀ g cap w', w'.ownsRow base 28 3 (.slice (some ⟨g, 0, none⟩) (n + m) cap) (n + m) (xs ++ flatT l) → w.grownBy w' v.ownBlock → (v.ownBlock = some g ∨ g = H) → g < w'.heap.size → wpList Tryd.prog ops Q rest (a.put o.dst (.slice (some ⟨g, 0, none⟩) (n + m) cap)) w') : wpList Tryd.prog ops Q (o :: rest) a w := by
  obtain ⟨i, hi, hz, hz1, hz2⟩ := info_partsT Tryd.infoTol
  exact wpList_append_lies w hgd s x _ ho base 28 i _  3 40 Tryd.underlying23 hi hz hz1 hz2 rfl (by decide) v n _ hs hown ⟨b, 0, none⟩ m c (flatT l) hx (by rw [hm]; exact flatT_len l) (tols_cells hsrc) (flatT_one _) h0 (by unfold maxLen; omega) hlen hbase H hH h
/-- One of them, in a box. -/
theorem labs_box {w : World} {B : Nat} {x : Lab} {t : TypeId} (hB : w.heap.size = B) (h1 : short x.1) (h2 : short x.2) : Labs (w.alloc (.cells #[.string (bytesT x.1), .string (bytesT x.2)] t)) (.slice (some ⟨B, 0, none⟩) 1 1) [x] := by
  subst hB
  refine ⟨_, _, rfl, fun j hj => ?_, by simp, by simp⟩
  obtain rfl : j = 0 := by simp at hj; exact hj
  exact ⟨w.heap.size, 0, rfl, by simp [go_sem], by simp [go_sem], h1, h2⟩
theorem tols_box {w : World} {B : Nat} {x : VTol} {t : TypeId} (hB : w.heap.size = B) (h1 : short x.1) (h2 : short x.2.1) : Tols (w.alloc (.cells #[.string (bytesT x.1), .string (bytesT x.2.1), .bool x.2.2] t)) (.slice (some ⟨B, 0, none⟩) 1 1) [x] := by
  subst hB
  refine ⟨_, _, rfl, fun j hj => ?_, by simp, by simp⟩
  obtain rfl : j = 0 := by simp at hj; exact hj
  exact ⟨w.heap.size, 0, rfl, by simp [go_sem], by simp [go_sem], by simp [go_sem], h1, h2⟩
theorem Labs.cut {w : World} {a : Option Addr} {n c : Nat} {l : List Lab} (h : Labs w (.slice a n c) l) {m : Nat} (hm : m ≤ l.length) : Labs w (.slice a m c) (l.take m) := h.take hm
theorem row_nilL (w : World) (base : Nat) : w.ownsRow base 26 2 (.slice none 0 0) 0 [] := World.ownsRow_nil _ _ _ _
theorem row_nilT (w : World) (base : Nat) : w.ownsRow base 28 3 (.slice none 0 0) 0 [] := World.ownsRow_nil _ _ _ _
end Go.Proofs.YtnkcbmlobikjkabDoor
