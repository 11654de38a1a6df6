/- Layer 5: live. -/
import Derived.Test.YtnkcbmlobikjkabDoorTaE
import Derived.Test.YtnkcbmlobikjkabDoorTaF
import Derived.Test.YtnkcbmlobikjkabDoorTaI
import Derived.ArgAppend
namespace Go.Proofs.YtnkcbmlobikjkabDoor
open Go.RowKit Suf Val

def tGpu : Txt := [103, 112, 117]
def tYes : Txt := [121, 101, 115]
def tOld : Txt := [111, 108, 100]
def gpuL : List Lab := [(tGpu, tYes), (tOld, [49])]
def tolL : List VTol := [(tGpu, tYes, false)]
def anyL : List VTol := [(tGpu, [], true), (tOld, [], true)]
theorem live_first : firstR tolL gpuL = ((tOld, [49]), true) := by decide +kernel
theorem live_any : tolerR anyL gpuL = true := by decide +kernel
theorem live_not : tolerR tolL gpuL = false := by decide +kernel
theorem live_check : taintR gpuL = 0 := by decide +kernel
theorem live_tols : tolsR (tolL ++ tolL) = 6 := by decide +kernel
theorem sh_gpu : short tGpu := by unfold short; decide
theorem sh_yes : short tYes := by unfold short; decide
theorem sh_old : short tOld := by unfold short; decide
theorem sh_one : short [49] := by unfold short; decide
theorem sh_nil : short [] := by unfold short; decide
theorem labs_gpu (w : World) (B : Nat) (hB : w.heap.size = B) : Labs (w.alloc (.cells #[.string ⟨#[103, 112, 117]⟩, .string ⟨#[121, 101, 115]⟩, .string ⟨#[111, 108, 100]⟩, .string ⟨#[49]⟩] 26)) (.slice (some ⟨B, 0, none⟩) 2 2) gpuL := by
  subst hB
  refine ⟨_, _, rfl, fun j hj => ?_, by decide, by decide⟩
  match j, hj with
  | 0, _ => exact ⟨w.heap.size, 0, rfl, by simp [go_sem]; rfl, by simp [go_sem]; rfl, sh_gpu, sh_yes⟩
  | 1, _ => exact ⟨w.heap.size, 0, rfl, by simp [go_sem]; rfl, by simp [go_sem]; rfl, sh_old, sh_one⟩
theorem tols_one (w : World) (B : Nat) (hB : w.heap.size = B) : Tols (w.alloc (.cells #[.string ⟨#[103, 112, 117]⟩, .string ⟨#[121, 101, 115]⟩, .bool false] 28)) (.slice (some ⟨B, 0, none⟩) 1 1) tolL := by
  subst hB
  refine ⟨_, _, rfl, fun j hj => ?_, by decide, by decide⟩
  match j, hj with
  | 0, _ => exact ⟨w.heap.size, 0, rfl, by simp [go_sem]; rfl, by simp [go_sem]; rfl, by simp [go_sem]; rfl, sh_gpu, sh_yes⟩
theorem tols_any (w : World) (B : Nat) (hB : w.heap.size = B) : Tols (w.alloc (.cells #[.string ⟨#[103, 112, 117]⟩, .string ⟨#[]⟩, .bool true, .string ⟨#[111, 108, 100]⟩, .string ⟨#[]⟩, .bool true] 28)) (.slice (some ⟨B, 0, none⟩) 2 2) anyL := by
  subst hB
  refine ⟨_, _, rfl, fun j hj => ?_, by decide, by decide⟩
  match j, hj with
  | 0, _ => exact ⟨w.heap.size, 0, rfl, by simp [go_sem]; rfl, by simp [go_sem]; rfl, by simp [go_sem]; rfl, sh_gpu, sh_nil⟩
  | 1, _ => exact ⟨w.heap.size, 0, rfl, by simp [go_sem]; rfl, by simp [go_sem]; rfl, by simp [go_sem]; rfl, sh_old, sh_nil⟩
theorem nil_labs (w : World) : Labs w (.slice none 0 0) [] := ⟨none, 0, rfl, fun j hj => absurd hj (Nat.not_lt_zero _), by decide, by decide⟩
theorem nil_tols (w : World) : Tols w (.slice none 0 0) [] := ⟨none, 0, rfl, fun j hj => absurd hj (Nat.not_lt_zero _), by decide, by decide⟩

/-- Cells of lists of them, in a row. -/
def flatT (l : List VTol) : List Value := l.flatMap fun x => [.string (bytesT x.1), .string (bytesT x.2.1), .bool x.2.2]
def flatL (l : List Lab) : List Value := l.flatMap fun x => [.string (bytesT x.1), .string (bytesT x.2)]
theorem flatT_len (l : List VTol) : (flatT l).length = l.length * 3 := by
  induction l with
  | nil => rfl
  | cons x l ih => unfold flatT at *; rw [List.flatMap_cons, List.length_append, ih, List.length_cons]; simp; omega
theorem flatL_len (l : List Lab) : (flatL l).length = l.length * 2 := by
  induction l with
  | nil => rfl
  | cons x l ih => unfold flatL at *; rw [List.flatMap_cons, List.length_append, ih, List.length_cons]; simp; omega
theorem flatT_at : ∀ (xs : List VTol) (j : Nat) (h : j < xs.length) (i : Nat), i < 3 → (flatT xs)[j * 3 + i]? = [.string (bytesT xs[j].1), .string (bytesT xs[j].2.1), .bool xs[j].2.2][i]?
  | [], j, h, _, _ => by simp at h
  | x :: xs, 0, _, i, hi => by
    unfold flatT
    rw [List.flatMap_cons, List.getElem?_append_left (by show 0 * 3 + i < 3; omega)]; simp
  | x :: xs, j + 1, h, i, hi => by
    have e : flatT (x :: xs) = [.string (bytesT x.1), .string (bytesT x.2.1), .bool x.2.2] ++ flatT xs := by unfold flatT; rw [List.flatMap_cons]
    rw [e, List.getElem?_append_right (by simp; omega)]
    have := flatT_at xs j (by simpa using h) i hi
    simp only [List.length_cons, List.length_nil, List.getElem_cons_succ] at this ⊢
    rw [← this]; congr 1; omega
theorem flatL_at : ∀ (xs : List Lab) (j : Nat) (h : j < xs.length) (i : Nat), i < 2 → (flatL xs)[j * 2 + i]? = [.string (bytesT xs[j].1), .string (bytesT xs[j].2)][i]?
  | [], j, h, _, _ => by simp at h
  | x :: xs, 0, _, i, hi => by
    unfold flatL
    rw [List.flatMap_cons, List.getElem?_append_left (by show 0 * 2 + i < 2; omega)]; simp
  | x :: xs, j + 1, h, i, hi => by
    have e : flatL (x :: xs) = [.string (bytesT x.1), .string (bytesT x.2)] ++ flatL xs := by unfold flatL; rw [List.flatMap_cons]
    rw [e, List.getElem?_append_right (by simp; omega)]
    have := flatL_at xs j (by simpa using h) i hi
    simp only [List.length_cons, List.length_nil, List.getElem_cons_succ] at this ⊢
    rw [← this]; congr 1; omega
/-- A row of the call's own reads as a list. -/
theorem row_tols {w : World} {base n : Nat} {v : Value} {l : List VTol} (h : w.ownsRow base 28 3 v n (flatT l)) (hn : n = l.length) (hs : ∀ y ∈ l, short y.1 ∧ short y.2.1) (hl : l.length ≤ 4398046511104) : Tols w v l := by
  subst hn
  rcases h.2 with ⟨rfl, h0⟩ | ⟨g, cap, cur, rfl, hg, hc, h1, h2, h3, h4⟩
  · obtain rfl : l = [] := List.eq_nil_of_length_eq_zero h0
    exact nil_tols w
  · refine ⟨_, _, rfl, fun j hj => ⟨g, 0, rfl, ?_⟩, hl, h1⟩
    have at' : ∀ i, i < 3 → w.cell? ⟨g, 0 + j * 3 + i, none⟩ = (flatT l)[j * 3 + i]? := fun i hi => by
      rw [Nat.zero_add]; exact h.cellAt (j * 3 + i) (by omega)
    have e := fun i hi => (at' i hi).trans (flatT_at l j hj i hi)
    exact ⟨e 0 (by decide), e 1 (by decide), e 2 (by decide), (hs _ (List.getElem_mem hj)).1, (hs _ (List.getElem_mem hj)).2⟩
theorem row_labs {w : World} {base n : Nat} {v : Value} {l : List Lab} (h : w.ownsRow base 26 2 v n (flatL l)) (hn : n = l.length) (hs : ∀ y ∈ l, short y.1 ∧ short y.2) (hl : l.length ≤ 4398046511104) : Labs w v l := by
  subst hn
  rcases h.2 with ⟨rfl, h0⟩ | ⟨g, cap, cur, rfl, hg, hc, h1, h2, h3, h4⟩
  · obtain rfl : l = [] := List.eq_nil_of_length_eq_zero h0
    exact nil_labs w
  · refine ⟨_, _, rfl, fun j hj => ⟨g, 0, rfl, ?_⟩, hl, h1⟩
    have at' : ∀ i, i < 2 → w.cell? ⟨g, 0 + j * 2 + i, none⟩ = (flatL l)[j * 2 + i]? := fun i hi => by
      rw [Nat.zero_add]; exact h.cellAt (j * 2 + i) (by omega)
    have e := fun i hi => (at' i hi).trans (flatL_at l j hj i hi)
    exact ⟨e 0 (by decide), e 1 (by decide), (hs _ (List.getElem_mem hj)).1, (hs _ (List.getElem_mem hj)).2⟩
/-- The cells of a list that lies somewhere. -/
theorem tols_cells {w : World} {b o n c : Nat} {l : List VTol} (h : Tols w (.slice (some ⟨b, o, none⟩) n c) l) : ∀ j u, (flatT l)[j]? = some u → w.cell? ((⟨b, o, none⟩ : Addr).add j) = some u := fun j u hu => by
  have hj : j < l.length * 3 := by
    rw [← flatT_len]
    exact (List.getElem?_eq_some_iff.1 hu).1
  obtain ⟨b', o', e, h0, h1, h2, _⟩ := h.at (j := j / 3) (by omega)
  injection e with e
  injection e with e1 e2
  subst e1
  subst e2
  have hm := flatT_at l (j / 3) (by omega) (j % 3) (by omega)
  rw [show j / 3 * 3 + j % 3 = j by omega, hu] at hm
  have ha : (⟨b, o, none⟩ : Addr).add j = ⟨b, o + j / 3 * 3 + j % 3, none⟩ := by unfold Addr.add; split <;> simp_all; omega
  rw [ha, hm]
  rcases (show j % 3 = 0 ∨ j % 3 = 1 ∨ j % 3 = 2 by omega) with e | e | e <;> rw [e]
  · exact h0
  · exact h1
  · exact h2
theorem labs_cells {w : World} {b o n c : Nat} {l : List Lab} (h : Labs w (.slice (some ⟨b, o, none⟩) n c) l) : ∀ j u, (flatL l)[j]? = some u → w.cell? ((⟨b, o, none⟩ : Addr).add j) = some u := fun j u hu => by
  have hj : j < l.length * 2 := by
    rw [← flatL_len]
    exact (List.getElem?_eq_some_iff.1 hu).1
  obtain ⟨b', o', e, h0, h1, _⟩ := h.at (j := j / 2) (by omega)
  injection e with e
  injection e with e1 e2
  subst e1
  subst e2
  have hm := flatL_at l (j / 2) (by omega) (j % 2) (by omega)
  rw [show j / 2 * 2 + j % 2 = j by omega, hu] at hm
  have ha : (⟨b, o, none⟩ : Addr).add j = ⟨b, o + j / 2 * 2 + j % 2, none⟩ := by unfold Addr.add; split <;> simp_all; omega
  rw [ha, hm]
  rcases (show j % 2 = 0 ∨ j % 2 = 1 by omega) with e | e <;> rw [e]
  · exact h0
  · exact h1
theorem flatT_one (l : List VTol) : ∀ u ∈ flatT l, u.oneCell' = true := fun u hu => by
  obtain ⟨x, _, hx⟩ := List.mem_flatMap.1 hu
  simp at hx
  rcases hx with rfl | rfl | rfl <;> rfl
theorem flatL_one (l : List Lab) : ∀ u ∈ flatL l, u.oneCell' = true := fun u hu => by
  obtain ⟨x, _, hx⟩ := List.mem_flatMap.1 hu
  simp at hx
  rcases hx with rfl | rfl <;> rfl
theorem flatT_append (a b : List VTol) : flatT (a ++ b) = flatT a ++ flatT b := by unfold flatT; rw [List.flatMap_append]
theorem flatL_append (a b : List Lab) : flatL (a ++ b) = flatL a ++ flatL b := by unfold flatL; rw [List.flatMap_append]
theorem Tryd.infoTol : (Tryd.prog.info? 28).map (fun i => (i.zero, i.size, i.bytes)) = some (some (.agg #[.string ⟨#[]⟩, .string ⟨#[]⟩, .bool false]), 3, 40) := by kernel_rfl
theorem Tryd.infoLab : (Tryd.prog.info? 26).map (fun i => (i.zero, i.size, i.bytes)) = some (some (.agg #[.string ⟨#[]⟩, .string ⟨#[]⟩]), 2, 32) := by kernel_rfl
theorem info_partsT {P : Program} {e : TypeId} {z : Value} {s b : Nat} (h : (P.info? e).map (fun i => (i.zero, i.size, i.bytes)) = some (some z, s, b)) : ∃ i, P.info? e = some i ∧ i.zero = some z ∧ i.size = s ∧ i.bytes = b := by
  obtain ⟨i, hi, he⟩ := Option.map_eq_some_iff.1 h
  simp only [Prod.mk.injEq] at he
  exact ⟨i, hi, he.1, he.2.1, he.2.2⟩
theorem none_below {w w' : World} (h : w.grownBy w' none) : Below w.heap.size w w' := (Below.refl _ _).grown h (Nat.le_refl _) (fun k hk => by cases hk)
/-- An append of tolerations to a slice that is full. -/
theorem wp_append_full {w : World} {o : Oper} {a : Act} {K : Act → World → Prop} {Q : Exit → Act → World → Prop} (s x : Operand)
    (ho : o.op = .call { callee := .builtin .append, args := #[s, x], argTypes := #[23, 23] })
    (b1 o1 n1 c1 : Nat) (l1 : List VTol) (hs : a.eval s = .slice (some ⟨b1, o1, none⟩) n1 c1) (h1 : Tols w (.slice (some ⟨b1, o1, none⟩) n1 c1) l1) (hn1 : n1 = l1.length)
    (b2 o2 n2 c2 : Nat) (l2 : List VTol) (hx : a.eval x = .slice (some ⟨b2, o2, none⟩) n2 c2) (h2 : Tols w (.slice (some ⟨b2, o2, none⟩) n2 c2) l2) (hn2 : n2 = l2.length)
    (hfull : c1 < n1 + n2) (hsz : n1 + n2 ≤ 3298534883328)
    (h : ∀ v' w', Tols w' v' (l1 ++ l2) → Below w.heap.size w w' → K (a.put o.dst v') w') : o.wp Tryd.prog a w K Q := by
  obtain ⟨i, hi, hz, hsi, hby⟩ := info_partsT Tryd.infoTol
  obtain ⟨v', w', hrun, r1, r2⟩ := run_append_arg_grows (P := Tryd.prog) w 23 o.type 28 i _ 3 40 Tryd.underlying23 hi hz hsi hby rfl (by decide) ⟨b1, o1, none⟩ n1 c1 (flatT l1) (by rw [flatT_len, hn1]) (tols_cells h1) ⟨b2, o2, none⟩ n2 c2 (flatT l2) (by rw [flatT_len, hn2]) (tols_cells h2) hfull (by simp only [maxLen]; omega) (by omega)
  unfold Oper.wp
  simp [execOp, ho, resolve, invoke, builtin, hs, hx, hrun, Result.andThen]
  refine h v' w' (row_tols (by rw [flatT_append]; exact r1) (by rw [List.length_append, hn1, hn2]) (fun y hy => ?_) (by rw [List.length_append, ← hn1, ← hn2]; omega)) (none_below r2)
  rcases List.mem_append.1 hy with hy | hy
  · exact h1.short y hy
  · exact h2.short y hy
end Go.Proofs.YtnkcbmlobikjkabDoor
