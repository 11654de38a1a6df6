/- Layer 4: labels in memory, and by their keys in a map; contract of keyed. -/
import Derived.Test.YthaldbjnnbllbaaGreatDoorRqBG
import Derived.Test.YthaldbjnnbllbaaGreatDoorV3QG
import Derived.Test.YthaldbjnnbllbaaGreatDoorMpO
namespace Go.Proofs.YthaldbjnnbllbaaGreatDoor
open Go.RowKit Suf Val Go.Maps

/-- What a map keyed by texts holds, with k stores at the most. -/
def MapOf (w : World) (b : Nat) (f : Txt → Option Value) (k : Nat) : Prop :=
  ∃ n D, w.ownsMap Tryz.prog 9 selfElem b n D ∧ n ≤ k ∧ ∀ x, Maps.has D (.string x) = (f x).isSome ∧ ∀ v, f x = some v → ∀ z, D.atKey (.string x) z = .held v
theorem MapOf.lt {w : World} {b k : Nat} {f : Txt → Option Value} (h : MapOf w b f k) : b < w.heap.size := by obtain ⟨n, D, ho, _⟩ := h; exact ho.lt
theorem MapOf.kept {w w' : World} {b k : Nat} {row : Option Nat} {f : Txt → Option Value} (h : MapOf w b f k) (hg : w.grownBy w' row) (hne : some b ≠ row) : MapOf w' b f k := by
  obtain ⟨n, D, ho, h2⟩ := h; exact ⟨n, D, ho.kept hg hne, h2⟩
theorem MapOf.below {w w' : World} {b k : Nat} {f : Txt → Option Value} (h : MapOf w b f k) (hb : Below w.heap.size w w') : MapOf w' b f k := h.kept (below_grownBy hb) (by simp)
theorem MapOf.congr {w : World} {b k : Nat} {f g : Txt → Option Value} (h : MapOf w b f k) (he : ∀ x, f x = g x) : MapOf w b g k := by
  have : f = g := funext he
  rw [← this]; exact h
theorem map_new (w : World) : MapOf (w.alloc (.map #[] 0)) w.heap.size (fun _ => none) 0 := ⟨0, _, World.ownsMap_made _ _ _ _, Nat.le_refl _, fun x => ⟨by simp [has_eq], fun v h => by cases h⟩⟩
section
variable {w : World} {ops : Array Oper} {rest : List Oper} {o : Oper} {a : Act} {Q : Exit → Act → World → Prop}
/-- 'v, ok := m[k]' where the key is there, and where it isn't. -/
theorem wpList_look_some (hg : o.guard = none) (m x : Operand) (t : TypeId) (hop : o.op = Op.lookup t m x true) (e : TypeId) (ht : Tryz.prog.underlying t = some (.map 9 e)) {z : Value} (hz : (zeroValue e).run Tryz.prog w = .ok z w) {b k : Nat} {f : Txt → Option Value} (h : MapOf w b f k)
    (hm : a.eval m = .map (some b)) (s : Txt) (hx : a.eval x = .string (bytesT s)) (hs : short s) (u : Value) (hf : f s = some u)
    (hK : wpList Tryz.prog ops Q rest (a.put o.dst (.tuple #[u, .bool true])) w) : wpList Tryz.prog ops Q (o :: rest) a w := by
  obtain ⟨n, D, ho, _, hD⟩ := h
  refine wpList_lookup_own_ok w hg m x t hop 9 e law ht selfElem hz (.held z) [] rfl b n D hm ho _ _ hx (key_of hs) ?_
  intro v ps hv
  rw [(hD s).2 u hf] at hv
  have hvu : v = u := DataW.held.inj (Prod.mk.inj (Option.some.inj hv)).1
  rw [hvu, (hD s).1, hf]; exact hK
theorem wpList_look_none (hg : o.guard = none) (m x : Operand) (t : TypeId) (hop : o.op = Op.lookup t m x true) (e : TypeId) (ht : Tryz.prog.underlying t = some (.map 9 e)) {z : Value} (hz : (zeroValue e).run Tryz.prog w = .ok z w) {b k : Nat} {f : Txt → Option Value} (h : MapOf w b f k)
    (hm : a.eval m = .map (some b)) (s : Txt) (hx : a.eval x = .string (bytesT s)) (hs : short s) (hf : f s = none)
    (hK : wpList Tryz.prog ops Q rest (a.put o.dst (.tuple #[z, .bool false])) w) : wpList Tryz.prog ops Q (o :: rest) a w := by
  obtain ⟨n, D, ho, _, hD⟩ := h
  have hno : Maps.has D (.string s) = false := by rw [(hD s).1, hf]; rfl
  refine wpList_lookup_own_ok w hg m x t hop 9 e law ht selfElem hz (.held z) [] rfl b n D hm ho _ _ hx (key_of hs) ?_
  intro v ps hv
  rw [atKey_of_not_has hno] at hv
  have hvu : v = z := DataW.held.inj (Prod.mk.inj (Option.some.inj hv)).1
  rw [hvu, hno]; exact hK
/-- 'm[k] = v'. -/
theorem wpList_keep (hg : o.guard = none) (m x v : Operand) (t : TypeId) (hop : o.op = Op.mapUpdate t m x v) (e : TypeId) (ht : Tryz.prog.underlying t = some (.map 9 e)) {b k : Nat} {f : Txt → Option Value} (h : MapOf w b f k) (hk : k < maxLen)
    (hm : a.eval m = .map (some b)) (s : Txt) (hx : a.eval x = .string (bytesT s)) (hs : short s) (u : Value) (hv : a.eval v = u)
    (hK : ∀ w', MapOf w' b (fun y => if y = s then some u else f y) (k + 1) → w.grownBy w' (some b) → wpList Tryz.prog ops Q rest (a.put o.dst undef) w') : wpList Tryz.prog ops Q (o :: rest) a w := by
  obtain ⟨n, D, ho, hn, hD⟩ := h
  refine wpList_mapUpdate_own w hg m x v t hop 9 e law ht selfElem b n D hm ho (Nat.lt_of_le_of_lt hn hk) _ u _ hx hv (key_of hs) (.held u) [] rfl ?_
  intro w' ho' hgr
  refine hK w' ⟨n + 1, _, ho', Nat.succ_le_succ hn, fun y => ?_⟩ hgr
  by_cases hy : y = s
  · subst hy
    dsimp only
    rw [if_pos rfl]
    exact ⟨has_put_same ho.isMap (show WideAt.IsKeyLit (.string y) from trivial) _, fun v' h' z => by rw [atKey_put_same ho.isMap (show WideAt.IsKeyLit (.string y) from trivial)]; rw [Option.some.inj h']⟩
  · dsimp only
    rw [if_neg hy]
    have hne : (Lit.string y : Lit) ≠ .string s := fun c => hy (by injection c)
    exact ⟨by rw [has_put_other hne]; exact (hD y).1, fun v' h' z => by rw [atKey_put_other hne]; exact (hD y).2 v' h' z⟩
end

/-- Labels in memory. -/
def LabAt (w : World) (b o : Nat) (x : Lab) : Prop := w.cell? ⟨b, o, none⟩ = some (.string (bytesT x.1)) ∧ w.cell? ⟨b, o + 1, none⟩ = some (.string (bytesT x.2)) ∧ short x.1 ∧ short x.2
theorem LabAt.below {w w' : World} {b o : Nat} {x : Lab} (h : LabAt w b o x) (hb : Below w.heap.size w w') : LabAt w' b o x := ⟨cell_kept hb h.1, cell_kept hb h.2.1, h.2.2⟩
def Labs (w : World) (v : Value) (l : List Lab) : Prop :=
  ∃ a c, v = .slice a l.length c ∧ (∀ j (h : j < l.length), ∃ b o, a = some ⟨b, o, none⟩ ∧ LabAt w b (o + j * 2) l[j]) ∧ l.length ≤ 4398046511104
theorem Labs.below {w w' : World} {v : Value} {l : List Lab} (h : Labs w v l) (hb : Below w.heap.size w w') : Labs w' v l := by
  obtain ⟨a, c, e, hc, hl⟩ := h
  exact ⟨a, c, e, fun j hj => by obtain ⟨b, o, e2, h2⟩ := hc j hj; exact ⟨b, o, e2, h2.below hb⟩, hl⟩
theorem Labs.val {w : World} {v : Value} {l : List Lab} (h : Labs w v l) : ∃ a c, v = .slice a l.length c := by obtain ⟨a, c, e, _⟩ := h; exact ⟨a, c, e⟩
theorem Labs.len {w : World} {v : Value} {l : List Lab} (h : Labs w v l) : l.length ≤ 4398046511104 := by obtain ⟨_, _, _, _, h⟩ := h; exact h
theorem Labs.at {w : World} {a : Option Addr} {n c : Nat} {l : List Lab} (h : Labs w (.slice a n c) l) {j : Nat} (hj : j < l.length) : ∃ b o, a = some ⟨b, o, none⟩ ∧ LabAt w b (o + j * 2) l[j] := by
  obtain ⟨a', c', e, hc, _⟩ := h
  injection e with e1 e2 e3
  subst e1
  exact hc j hj
def labV (k v : Txt) : Value := .agg #[.string (bytesT k), .string (bytesT v)]
def zeroLab : Value := .agg #[.string ⟨#[]⟩, .string ⟨#[]⟩]
theorem zeroL (w : World) : (zeroValue 96).run Tryz.prog w = .ok zeroLab w := by kernel_rfl
/-- What keyed lays down of labels. -/
def labF (l : List Lab) (x : Txt) : Option Value := (lookL x l).map (labV x)
theorem lookL_snoc (x : Txt) (y : Lab) : ∀ l : List Lab, lookL x (l ++ [y]) = match lookL x l with | some v => some v | none => if y.1 = x then some y.2 else none
  | [] => rfl
  | z :: l => by
    show (if z.1 = x then some z.2 else lookL x (l ++ [y])) = match (if z.1 = x then some z.2 else lookL x l) with | some v => some v | none => _
    by_cases h : z.1 = x
    · rw [if_pos h, if_pos h]
    · rw [if_neg h, if_neg h]; exact lookL_snoc x y l
theorem labF_snoc {l : List Lab} {y : Lab} (h : lookL y.1 l = none) (x : Txt) : (if x = y.1 then some (labV y.1 y.2) else labF l x) = labF (l ++ [y]) x := by
  unfold labF
  rw [lookL_snoc]
  by_cases e : x = y.1
  · subst e; rw [if_pos rfl, h]; simp
  · rw [if_neg e]
    cases hl : lookL x l with
    | none => simp; exact fun c => e c.symm
    | some v => rfl
theorem any_look (l : List Lab) (k : Txt) : l.any (fun y => y.1 == k) = (lookL k l).isSome := by
  cases hl : lookL k l with
  | none =>
    have := lookL_none.1 hl
    rw [List.any_eq_false.2 (fun y hy => by simpa using this y hy)]; rfl
  | some v =>
    cases ha : l.any (fun y => y.1 == k) with
    | true => rfl
    | false =>
      have : lookL k l = none := lookL_none.2 fun y hy => by have := List.any_eq_false.1 ha y hy; simpa using this
      rw [hl] at this; cases this
theorem labels_step {l : List Lab} {k : Nat} (h : k < l.length) : labelsF (l.take k) (l.drop k) = if (nameB l[k].1 && valueB l[k].2) = false then 20 else if (lookL l[k].1 (l.take k)).isSome = true then 6 else labelsF (l.take (k + 1)) (l.drop (k + 1)) := by
  rw [List.drop_eq_getElem_cons h]
  show (if (nameB l[k].1 && valueB l[k].2) = false then (20 : Int) else if (l.take k).any (fun y => y.1 == l[k].1) = true then 6 else labelsF (l.take k ++ [l[k]]) (l.drop (k + 1))) = _
  rw [any_look, ← take_nextG l k h]

def keyedPost (l : List Lab) (w : World) (e : Ending) (w' : World) : Prop :=
  (¬ labelsR l = 0 ∧ e = .returned (.tuple #[.map none, .int .i64 (labelsR l)]) ∧ Below w.heap.size w w') ∨
  (labelsR l = 0 ∧ ∃ b k, e = .returned (.tuple #[.map (some b), .int .i64 0]) ∧ MapOf w' b (labF l) k ∧ w.heap.size ≤ b ∧ Below w.heap.size w w')

end Go.Proofs.YthaldbjnnbllbaaGreatDoor

/- Layer 4: contracts of Check, admits, Admits. -/
namespace Go.Proofs.YthaldbjnnbllbaaGreatDoor
open Go.RowKit Suf Val Go.Maps

/-- The seven cells of a keyed set. -/
def Seven (w : World) (B o : Nat) (x : VKS) : Prop :=
  w.cell? ⟨B, o, none⟩ = some (.string (bytesT x.2.1)) ∧ w.cell? ⟨B, o + 1, none⟩ = some (.bool x.2.2.miss) ∧ w.cell? ⟨B, o + 2, none⟩ = some (.bool x.2.2.no) ∧ w.cell? ⟨B, o + 3, none⟩ = some (.bool x.2.2.num) ∧ w.cell? ⟨B, o + 4, none⟩ = some x.1 ∧ w.cell? ⟨B, o + 5, none⟩ = some (.int .i64 x.2.2.lo) ∧ w.cell? ⟨B, o + 6, none⟩ = some (.int .i64 x.2.2.hi)
theorem Seven.below {w w' : World} {B o : Nat} {x : VKS} (h : Seven w B o x) (hb : Below w.heap.size w w') : Seven w' B o x :=
  ⟨cell_kept hb h.1, cell_kept hb h.2.1, cell_kept hb h.2.2.1, cell_kept hb h.2.2.2.1, cell_kept hb h.2.2.2.2.1, cell_kept hb h.2.2.2.2.2.1, cell_kept hb h.2.2.2.2.2.2⟩
theorem flatK_at : ∀ (xs : List VKS) (j : Nat) (h : j < xs.length) (i : Nat), i < 7 → (flatK xs)[j * 7 + i]? = (encK xs[j])[i]?
  | [], j, h, _, _ => by simp at h
  | x :: xs, 0, _, i, hi => by
    unfold flatK
    rw [List.flatMap_cons, List.getElem?_append_left (by show 0 * 7 + i < 7; omega)]; simp
  | x :: xs, j + 1, h, i, hi => by
    have e : flatK (x :: xs) = encK x ++ flatK xs := by unfold flatK; rw [List.flatMap_cons]
    rw [e, List.getElem?_append_right (by show 7 ≤ _; omega), show (j + 1) * 7 + i - (encK x).length = j * 7 + i by show (j + 1) * 7 + i - 7 = _; omega]
    exact flatK_at xs j (by simpa using h) i hi
theorem OwnK.at {T : TypeId} {w : World} {base n c : Nat} {a : Option Addr} {xs : List VKS} (h : OwnK T w base (.slice a n c) xs) {j : Nat} (hj : j < xs.length) : ∃ g, a = some ⟨g, 0, none⟩ ∧ Seven w g (j * 7) xs[j] := by
  have hown := h.1
  rcases hown.2 with ⟨e, hn⟩ | ⟨g, cap, cur, e, _⟩
  · omega
  · injection e with e1 e2 e3
    subst e1 e2 e3
    have hc : ∀ i, i < 7 → w.cell? ⟨g, j * 7 + i, none⟩ = (encK xs[j])[i]? := fun i hi => by rw [hown.cellAt (j * 7 + i) (by omega), flatK_at xs j hj i hi]
    exact ⟨g, rfl, hc 0 (by omega), hc 1 (by omega), hc 2 (by omega), hc 3 (by omega), hc 4 (by omega), hc 5 (by omega), hc 6 (by omega)⟩

set_option maxRecDepth 100000 in
set_option maxHeartbeats 4000000 in
theorem rcheckL_any (v : Value) (l : List VReq) (w : World) (hL : Laid w) (hv : Reqs w v l) :
    Calls Tryz.prog 27 #[v] w fun e w' => e = .returned (.int .i64 (moreR 8 l)) ∧ Below w.heap.size w w' := by
  have HL := hide hL
  have HV := hide hv
  obtain ⟨a, c, rfl⟩ := hv.val
  clear hL hv
  obtain ⟨n, hn⟩ : ∃ n, n = l.length := ⟨_, rfl⟩
  rw [← hn] at HV ⊢
  clear hn
  go_enter Tryz.func27, Tryz.ntmps27
  go_wp2_with fail
  refine (each_any _ l 8 _ (unhide HL) (unhide HV) (by decide)).mono ?_
  rintro e w1 (⟨h0, rfl, hw1⟩ | ⟨h0, v', xs, rfl, hxs, hown, hw1⟩)
  · have B1 := hide hw1
    clear hw1 h0
    go_wp2_with fail
    go_ret
    exact ⟨rfl, unhide B1⟩
  · have B1 := hide hw1
    have H0 := hide h0
    obtain ⟨xa, xc, hxe⟩ := hown.val
    clear hw1 h0 hown hxs
    subst hxe
    go_wp2_with fail
    go_ret
    exact ⟨ret_int (unhide H0).symm, unhide B1⟩

theorem short_look {l : List Lab} (h : ∀ y ∈ l, short y.2) {k v : Txt} (hv : lookL k l = some v) : short v := by
  induction l with
  | nil => cases hv
  | cons y l ih =>
    unfold lookL at hv
    split at hv
    · rw [← Option.some.inj hv]; exact h y (by simp)
    · exact ih (fun z hz => h z (List.mem_cons_of_mem _ hz)) hv

theorem admits_bad {l : List VReq} {ls : List Lab} (h : ¬ moreR 16 l = 0) : admitsR l ls = (false, moreR 16 l) := by unfold admitsR; rw [if_neg h]
theorem admits_lab {l : List VReq} {ls : List Lab} (h : moreR 16 l = 0) (h2 : ¬ labelsR ls = 0) : admitsR l ls = (false, labelsR ls) := by unfold admitsR; rw [if_pos h, if_neg h2]
theorem admits_is {l : List VReq} {ls : List Lab} (h : moreR 16 l = 0) (h2 : labelsR ls = 0) : admitsR l ls = (l.all (fun r => admB ls (keyS r)), 0) := by unfold admitsR; rw [if_pos h, if_pos h2]
theorem all_nextG {α : Type} {p : α → Bool} (l : List α) (k : Nat) (h : k < l.length) : (l.take (k + 1)).all p = ((l.take k).all p && p l[k]) := by
  rw [take_nextG l k h, List.all_append]; simp
theorem all_noG {α : Type} {p : α → Bool} (l : List α) (k : Nat) (h : k < l.length) (hp : p l[k] = false) : l.all p = false := by
  cases hc : l.all p with
  | false => rfl
  | true =>
    have := List.all_eq_true.1 hc l[k] (List.getElem_mem h)
    rw [hp] at this; cases this
theorem Labs.short {w : World} {v : Value} {l : List Lab} (h : Labs w v l) : ∀ y ∈ l, short y.2 := by
  obtain ⟨a, c, e, hc, _⟩ := h
  intro y hy
  obtain ⟨j, hj, rfl⟩ := List.getElem_of_mem hy
  obtain ⟨b, o, _, h2⟩ := hc j hj
  exact h2.2.2.2
theorem ret_bi {x y : Bool} {a b : Int} (h : x = y) (h2 : a = b) : Ending.returned (.tuple #[.bool x, .int .i64 a]) = .returned (.tuple #[.bool y, .int .i64 b]) := by rw [h, h2]

end Go.Proofs.YthaldbjnnbllbaaGreatDoor
