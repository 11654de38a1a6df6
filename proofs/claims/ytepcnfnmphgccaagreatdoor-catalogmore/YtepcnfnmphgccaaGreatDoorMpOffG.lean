/- Layer 6: offers as keys of maps; what is said of an offer, as a map's value. -/
import Derived.Test.YtepcnfnmphgccaaGreatDoorMpAG
import Derived.Test.YtepcnfnmphgccaaGreatDoorCtAG
import Derived.Test.YtepcnfnmphgccaaGreatDoorCaAG
import Derived.DeepKeys4
import Derived.Deep.AppendLies
namespace Go.Proofs.YtepcnfnmphgccaaGreatDoor
open Go.RowKit Go.Maps Val

theorem off_law : Keyed Tryz.prog 24 := Keyed.of_law (deep_law_laid laidOut (m := 2) (by omega) (of_decide_eq_true (by kernel_rfl)) (by kernel_rfl) (by kernel_rfl))
def litO (x : VOff) : Lit := .string (keyBytes [.string x.1, .string x.2.1, .string x.2.2])
def okO (x : VOff) : Prop := short x.1 ∧ short x.2.1 ∧ short x.2.2
theorem bytesT_inj {a b : Txt} (h : bytesT a = bytesT b) : a = b := by
  have := congrArg (fun s : ByteArray => s.data.toList) h
  exact this
theorem offA_inj {x y : VOff} (h : offA x = offA y) : x = y := by
  obtain ⟨a, b, c⟩ := x
  obtain ⟨d, e, f⟩ := y
  unfold offA at h
  simp only [Value.agg.injEq, Array.mk.injEq, List.cons.injEq, Value.string.injEq, and_true] at h
  rw [bytesT_inj h.1, bytesT_inj h.2.1, bytesT_inj h.2.2]
theorem str_cells : Tryz.prog.cellsOf 9 = 1 := by kernel_rfl
theorem key_off {x : VOff} (h : okO x) : keyOf Tryz.prog 24 (offA x) = some (litO x) := by
  have h1 := short_max h.1
  have h2 := short_max h.2.1
  have h3 := short_max h.2.2
  have hf : (offA x).formed Tryz.prog 24 = true := by simp [Value.formed, offA, Tryz.underlying24, off_cells]
  have hk : Tryz.prog.keyType 24 = true := by kernel_rfl
  obtain ⟨m, hm⟩ : ∃ m, Tryz.prog.types.size + 1 = m + 1 + 1 := ⟨Tryz.prog.types.size - 1, by have : 0 < Tryz.prog.types.size := of_decide_eq_true (by kernel_rfl); omega⟩
  unfold keyOf
  rw [Tryz.underlying24]
  simp only [hk, hf, Bool.and_self, if_true, hm]
  simp [Program.keyLits, Tryz.underlying24, Tryz.underlying9, off_cells, str_cells, offA, h1, h2, h3, litO, bytesT_list, Value.cells]
def offT : KeyT VOff where
  k := 24
  enc := offA
  lit := litO
  ok := okO
  law := off_law
  key := key_off
  inj := offA_inj
/-- What is said of an offer. -/
def rowV (p : VType × VOfg) (u : Value) : Value := .agg #[.int .i64 (p.1.cap.1 - p.1.ovr.1), .int .i64 (p.1.cap.2 - p.1.ovr.2), .int .i64 p.2.price, .bool p.2.opn, u]
def RowIs (W : World) (p : VType × VOfg) (v : Value) : Prop := ∃ u, v = rowV p u ∧ Lst labK W u p.1.labs
theorem RowIs.below {W W' : World} {p : VType × VOfg} {v : Value} (h : RowIs W p v) (hb : Below W.heap.size W W') : RowIs W' p v := by
  obtain ⟨u, e, h⟩ := h; exact ⟨u, e, h.below hb⟩
def OptRel {α β : Type} (R : α → β → Prop) (a : Option α) (b : Option β) : Prop := (a = none ∧ b = none) ∨ ∃ x y, a = some x ∧ b = some y ∧ R x y
theorem OptRel.mono {α β : Type} {R R' : α → β → Prop} {a : Option α} {b : Option β} (h : OptRel R a b) (hR : ∀ x y, R x y → R' x y) : OptRel R' a b := by
  rcases h with h | ⟨x, y, e1, e2, h⟩
  · exact Or.inl h
  · exact Or.inr ⟨x, y, e1, e2, hR _ _ h⟩
theorem OptRel.some_of {α β : Type} {R : α → β → Prop} {a : Option α} {b : Option β} {x : α} (h : OptRel R a b) (e : a = some x) : ∃ y, b = some y ∧ R x y := by
  rcases h with ⟨h, _⟩ | ⟨x', y, e1, e2, h⟩
  · rw [e] at h; cases h
  · rw [e] at e1
    obtain rfl := Option.some.inj e1
    exact ⟨y, e2, h⟩
theorem OptRel.none_of {α β : Type} {R : α → β → Prop} {a : Option α} {b : Option β} (h : OptRel R a b) (e : a = none) : b = none := by
  rcases h with ⟨_, h⟩ | ⟨x', y, e1, e2, h⟩
  · exact h
  · rw [e] at e1; cases e1
theorem OptRel.isSome {α β : Type} {R : α → β → Prop} {a : Option α} {b : Option β} (h : OptRel R a b) : b.isSome = a.isSome := by
  rcases h with ⟨e1, e2⟩ | ⟨x', y, e1, e2, h⟩
  · rw [e1, e2]; rfl
  · rw [e1, e2]; rfl
/-- A table of offers: at each that may be a key, what g says; labels lie in w0. -/
def Tab (w0 W : World) (b : Nat) (g : VOff → Option (VType × VOfg)) (n : Nat) : Prop := ∃ f, MapK offT W b f n ∧ ∀ o, okO o → OptRel (RowIs w0) (g o) (f o)
theorem Tab.below {w0 W W' : World} {b n : Nat} {g : VOff → Option (VType × VOfg)} (h : Tab w0 W b g n) (hb : Below W.heap.size W W') : Tab w0 W' b g n := by
  obtain ⟨f, h1, h2⟩ := h
  exact ⟨f, h1.below hb, h2⟩
theorem Tab.from {w0 w1 W : World} {b n : Nat} {g : VOff → Option (VType × VOfg)} (h : Tab w0 W b g n) (hb : Below w0.heap.size w0 w1) : Tab w1 W b g n := by
  obtain ⟨f, h1, h2⟩ := h
  exact ⟨f, h1, fun o ho => (h2 o ho).mono fun _ _ h => h.below hb⟩
theorem Tab.kept {w0 W W' : World} {b n : Nat} {row : Option Nat} {g : VOff → Option (VType × VOfg)} (h : Tab w0 W b g n) (hg : W.grownBy W' row) (hne : some b ≠ row) : Tab w0 W' b g n := by
  obtain ⟨f, h1, h2⟩ := h
  exact ⟨f, h1.kept hg hne, h2⟩
theorem Tab.congr {w0 W : World} {b n : Nat} {g g' : VOff → Option (VType × VOfg)} (h : Tab w0 W b g n) (he : ∀ o, okO o → g o = g' o) : Tab w0 W b g' n := by
  obtain ⟨f, h1, h2⟩ := h
  exact ⟨f, h1, fun o ho => by rw [← he o ho]; exact h2 o ho⟩
theorem Tab.mono {w0 W : World} {b n m : Nat} {g : VOff → Option (VType × VOfg)} (h : Tab w0 W b g n) (hm : n ≤ m) : Tab w0 W b g m := by
  obtain ⟨f, h1, h2⟩ := h
  exact ⟨f, h1.mono hm, h2⟩
theorem Tab.lt {w0 W : World} {b n : Nat} {g : VOff → Option (VType × VOfg)} (h : Tab w0 W b g n) : b < W.heap.size := by obtain ⟨f, h1, _⟩ := h; exact h1.lt
theorem tab_new (w0 w : World) : Tab w0 (w.alloc (.map #[] 0)) w.heap.size (fun _ => none) 0 := ⟨_, mapK_new offT w, fun _ _ => Or.inl ⟨rfl, rfl⟩⟩
variable {w : World} {ops : Array Oper} {rest : List Oper} {o : Oper} {a : Act} {Q : Exit → Act → World → Prop}
theorem Tab.isMap {w0 W : World} {b n : Nat} {g : VOff → Option (VType × VOfg)} (h : Tab w0 W b g n) : ∃ es c, W.heap[b]? = some (.map es c) := by
  obtain ⟨f, ⟨k, D, ⟨es, c, hb, _⟩, _⟩, _⟩ := h
  exact ⟨es, c, hb⟩
/-- Cells stay where a map is written. -/
theorem cell_map {W W' : World} {b : Nat} {p : Addr} {v : Value} (hg : W.grownBy W' (some b)) (hm : ∃ es c, W.heap[b]? = some (.map es c)) (h : W.cell? p = some v) : W'.cell? p = some v := by
  obtain ⟨es, c, hm⟩ := hm
  have hne : p.block ≠ b := fun e => by unfold World.cell? at h; rw [e, hm] at h; cases h
  have hlt : p.block < W.heap.size := by
    rcases Nat.lt_or_ge p.block W.heap.size with h1 | h1
    · exact h1
    · unfold World.cell? at h
      rw [Array.getElem?_eq_none h1] at h; cases h
  rw [World.grownBy.cell_far hg p hlt (fun e => hne (Option.some.inj e))]; exact h
/-- 'm[o] = row{..}'. -/
theorem wpList_tab (hg : o.guard = none) (m x v : Operand) (t : TypeId) (hop : o.op = Op.mapUpdate t m x v) (e : TypeId) (ht : Tryz.prog.underlying t = some (.map 24 e)) {w0 : World} {b k : Nat} {g : VOff → Option (VType × VOfg)} (h : Tab w0 w b g k) (hk : k < maxLen)
    (hm : a.eval m = .map (some b)) (s : VOff) (hx : a.eval x = offA s) (hs : okO s) (p : VType × VOfg) (u : Value) (hv : a.eval v = rowV p u) (hu : Lst labK w0 u p.1.labs)
    (hK : ∀ w', Tab w0 w' b (fun y => if s = y then some p else g y) (k + 1) → w.grownBy w' (some b) → wpList Tryz.prog ops Q rest (a.put o.dst undef) w') : wpList Tryz.prog ops Q (o :: rest) a w := by
  obtain ⟨f, h1, h2⟩ := h
  refine wpList_keepK (T := offT) hg m x v t hop e ht h1 hk hm s hx hs _ hv (fun y => if s = y then some (rowV p u) else f y) (if_pos rfl) (fun y hy => if_neg (fun e => hy e.symm)) ?_
  intro w' h3 h4
  refine hK w' ⟨_, h3, fun y hy => ?_⟩ h4
  dsimp only
  by_cases e : s = y
  · rw [if_pos e, if_pos e]
    exact Or.inr ⟨_, _, rfl, rfl, u, rfl, hu⟩
  · rw [if_neg e, if_neg e]
    exact h2 y hy
end Go.Proofs.YtepcnfnmphgccaaGreatDoor
