/- Layer 4: labels in memory, and by their keys in a map; contract of keyed. -/
import Derived.Test.YtepcnfnmphgccaaGreatDoorRqBG
import Derived.Test.YtepcnfnmphgccaaGreatDoorV3QG
import Derived.Test.YtepcnfnmphgccaaGreatDoorMpO
namespace Go.Proofs.YtepcnfnmphgccaaGreatDoor
open Go.RowKit Suf Val Go.Maps

/-- What a map keyed by texts holds, with k stores at the most. -/
def MapOf (w : World) (b : Nat) (f : Txt → Option Value) (k : Nat) : Prop :=
  ∃ n D, w.ownsMap Tryz.prog 9 selfElem b n D ∧ n ≤ k ∧ ∀ x, Maps.has D (.string x) = (f x).isSome ∧ ∀ v, f x = some v → ∀ z, D.atKey (.string x) z = .held v
theorem MapOf.lt {w : World} {b k : Nat} {f : Txt → Option Value} (h : MapOf w b f k) : b < w.heap.size := by obtain ⟨n, D, ho, _⟩ := h; exact ho.lt
theorem MapOf.kept {w w' : World} {b k : Nat} {row : Option Nat} {f : Txt → Option Value} (h : MapOf w b f k) (hg : w.grownBy w' row) (hne : some b ≠ row) : MapOf w' b f k := by
  obtain ⟨n, D, ho, h2⟩ := h; exact ⟨n, D, ho.kept hg hne, h2⟩
theorem MapOf.below {w w' : World} {b k : Nat} {f : Txt → Option Value} (h : MapOf w b f k) (hb : Below w.heap.size w w') : MapOf w' b f k := h.kept (below_grownBy hb) (by simp)
theorem MapOf.congr {w : World} {b k : Nat} {f g : Txt → Option Value} (h : MapOf w b f k) (he : ∀ x, f x = g x) : MapOf w b g k := by
  have : f = g := funext he
  rw [← this]; exact h
theorem map_new (w : World) : MapOf (w.alloc (.map #[] 0)) w.heap.size (fun _ => none) 0 := ⟨0, _, World.ownsMap_made _ _ _ _, Nat.le_refl _, fun x => ⟨by simp [has_eq], fun v h => by cases h⟩⟩
section
variable {w : World} {ops : Array Oper} {rest : List Oper} {o : Oper} {a : Act} {Q : Exit → Act → World → Prop}
/-- 'v, ok := m[k]' where the key is there, and where it isn't. -/
theorem wpList_look_some (hg : o.guard = none) (m x : Operand) (t : TypeId) (hop : o.op = Op.lookup t m x true) (e : TypeId) (ht : Tryz.prog.underlying t = some (.map 9 e)) {z : Value} (hz : (zeroValue e).run Tryz.prog w = .ok z w) {b k : Nat} {f : Txt → Option Value} (h : MapOf w b f k)
    (hm : a.eval m = .map (some b)) (s : Txt) (hx : a.eval x = .string (bytesT s)) (hs : short s) (u : Value) (hf : f s = some u)
    (hK : wpList Tryz.prog ops Q rest (a.put o.dst (.tuple #[u, .bool true])) w) : wpList Tryz.prog ops Q (o :: rest) a w := by
  obtain ⟨n, D, ho, _, hD⟩ := h
  refine wpList_lookup_own_ok w hg m x t hop 9 e law ht selfElem hz (.held z) [] rfl b n D hm ho _ _ hx (key_of hs) ?_
  intro v ps hv
  rw [(hD s).2 u hf] at hv
  have hvu : v = u := DataW.held.inj (Prod.mk.inj (Option.some.inj hv)).1
  rw [hvu, (hD s).1, hf]; exact hK
theorem wpList_look_none (hg : o.guard = none) (m x : Operand) (t : TypeId) (hop : o.op = Op.lookup t m x true) (e : TypeId) (ht : Tryz.prog.underlying t = some (.map 9 e)) {z : Value} (hz : (zeroValue e).run Tryz.prog w = .ok z w) {b k : Nat} {f : Txt → Option Value} (h : MapOf w b f k)
    (hm : a.eval m = .map (some b)) (s : Txt) (hx : a.eval x = .string (bytesT s)) (hs : short s) (hf : f s = none)
    (hK : wpList Tryz.prog ops Q rest (a.put o.dst (.tuple #[z, .bool false])) w) : wpList Tryz.prog ops Q (o :: rest) a w := by
  obtain ⟨n, D, ho, _, hD⟩ := h
  have hno : Maps.has D (.string s) = false := by rw [(hD s).1, hf]; rfl
  refine wpList_lookup_own_ok w hg m x t hop 9 e law ht selfElem hz (.held z) [] rfl b n D hm ho _ _ hx (key_of hs) ?_
  intro v ps hv
  rw [atKey_of_not_has hno] at hv
  have hvu : v = z := DataW.held.inj (Prod.mk.inj (Option.some.inj hv)).1
  rw [hvu, hno]; exact hK
/-- 'm[k] = v'. -/
theorem wpList_keep (hg : o.guard = none) (m x v : Operand) (t : TypeId) (hop : o.op = Op.mapUpdate t m x v) (e : TypeId) (ht : Tryz.prog.underlying t = some (.map 9 e)) {b k : Nat} {f : Txt → Option Value} (h : MapOf w b f k) (hk : k < maxLen)
    (hm : a.eval m = .map (some b)) (s : Txt) (hx : a.eval x = .string (bytesT s)) (hs : short s) (u : Value) (hv : a.eval v = u)
    (hK : ∀ w', MapOf w' b (fun y => if y = s then some u else f y) (k + 1) → w.grownBy w' (some b) → wpList Tryz.prog ops Q rest (a.put o.dst undef) w') : wpList Tryz.prog ops Q (o :: rest) a w := by
  obtain ⟨n, D, ho, hn, hD⟩ := h
  refine wpList_mapUpdate_own w hg m x v t hop 9 e law ht selfElem b n D hm ho (Nat.lt_of_le_of_lt hn hk) _ u _ hx hv (key_of hs) (.held u) [] rfl ?_
  intro w' ho' hgr
  refine hK w' ⟨n + 1, _, ho', Nat.succ_le_succ hn, fun y => ?_⟩ hgr
  by_cases hy : y = s
  · subst hy
    dsimp only
    rw [if_pos rfl]
    exact ⟨has_put_same ho.isMap (show WideAt.IsKeyLit (.string y) from trivial) _, fun v' h' z => by rw [atKey_put_same ho.isMap (show WideAt.IsKeyLit (.string y) from trivial)]; rw [Option.some.inj h']⟩
  · dsimp only
    rw [if_neg hy]
    have hne : (Lit.string y : Lit) ≠ .string s := fun c => hy (by injection c)
    exact ⟨by rw [has_put_other hne]; exact (hD y).1, fun v' h' z => by rw [atKey_put_other hne]; exact (hD y).2 v' h' z⟩
end

/-- Labels in memory. -/
def LabAt (w : World) (b o : Nat) (x : Lab) : Prop := w.cell? ⟨b, o, none⟩ = some (.string (bytesT x.1)) ∧ w.cell? ⟨b, o + 1, none⟩ = some (.string (bytesT x.2)) ∧ short x.1 ∧ short x.2
theorem LabAt.below {w w' : World} {b o : Nat} {x : Lab} (h : LabAt w b o x) (hb : Below w.heap.size w w') : LabAt w' b o x := ⟨cell_kept hb h.1, cell_kept hb h.2.1, h.2.2⟩
def Labs (w : World) (v : Value) (l : List Lab) : Prop :=
  ∃ a c, v = .slice a l.length c ∧ (∀ j (h : j < l.length), ∃ b o, a = some ⟨b, o, none⟩ ∧ LabAt w b (o + j * 2) l[j]) ∧ l.length ≤ 4398046511104
theorem Labs.below {w w' : World} {v : Value} {l : List Lab} (h : Labs w v l) (hb : Below w.heap.size w w') : Labs w' v l := by
  obtain ⟨a, c, e, hc, hl⟩ := h
  exact ⟨a, c, e, fun j hj => by obtain ⟨b, o, e2, h2⟩ := hc j hj; exact ⟨b, o, e2, h2.below hb⟩, hl⟩
theorem Labs.val {w : World} {v : Value} {l : List Lab} (h : Labs w v l) : ∃ a c, v = .slice a l.length c := by obtain ⟨a, c, e, _⟩ := h; exact ⟨a, c, e⟩
theorem Labs.len {w : World} {v : Value} {l : List Lab} (h : Labs w v l) : l.length ≤ 4398046511104 := by obtain ⟨_, _, _, _, h⟩ := h; exact h
theorem Labs.at {w : World} {a : Option Addr} {n c : Nat} {l : List Lab} (h : Labs w (.slice a n c) l) {j : Nat} (hj : j < l.length) : ∃ b o, a = some ⟨b, o, none⟩ ∧ LabAt w b (o + j * 2) l[j] := by
  obtain ⟨a', c', e, hc, _⟩ := h
  injection e with e1 e2 e3
  subst e1
  exact hc j hj
def labV (k v : Txt) : Value := .agg #[.string (bytesT k), .string (bytesT v)]
def zeroLab : Value := .agg #[.string ⟨#[]⟩, .string ⟨#[]⟩]
theorem zeroL (w : World) : (zeroValue 38).run Tryz.prog w = .ok zeroLab w := by kernel_rfl
/-- What keyed lays down of labels. -/
def labF (l : List Lab) (x : Txt) : Option Value := (lookL x l).map (labV x)
theorem lookL_snoc (x : Txt) (y : Lab) : ∀ l : List Lab, lookL x (l ++ [y]) = match lookL x l with | some v => some v | none => if y.1 = x then some y.2 else none
  | [] => rfl
  | z :: l => by
    show (if z.1 = x then some z.2 else lookL x (l ++ [y])) = match (if z.1 = x then some z.2 else lookL x l) with | some v => some v | none => _
    by_cases h : z.1 = x
    · rw [if_pos h, if_pos h]
    · rw [if_neg h, if_neg h]; exact lookL_snoc x y l
theorem labF_snoc {l : List Lab} {y : Lab} (h : lookL y.1 l = none) (x : Txt) : (if x = y.1 then some (labV y.1 y.2) else labF l x) = labF (l ++ [y]) x := by
  unfold labF
  rw [lookL_snoc]
  by_cases e : x = y.1
  · subst e; rw [if_pos rfl, h]; simp
  · rw [if_neg e]
    cases hl : lookL x l with
    | none => simp; exact fun c => e c.symm
    | some v => rfl
theorem any_look (l : List Lab) (k : Txt) : l.any (fun y => y.1 == k) = (lookL k l).isSome := by
  cases hl : lookL k l with
  | none =>
    have := lookL_none.1 hl
    rw [List.any_eq_false.2 (fun y hy => by simpa using this y hy)]; rfl
  | some v =>
    cases ha : l.any (fun y => y.1 == k) with
    | true => rfl
    | false =>
      have : lookL k l = none := lookL_none.2 fun y hy => by have := List.any_eq_false.1 ha y hy; simpa using this
      rw [hl] at this; cases this
theorem labels_step {l : List Lab} {k : Nat} (h : k < l.length) : labelsF (l.take k) (l.drop k) = if (nameB l[k].1 && valueB l[k].2) = false then 20 else if (lookL l[k].1 (l.take k)).isSome = true then 6 else labelsF (l.take (k + 1)) (l.drop (k + 1)) := by
  rw [List.drop_eq_getElem_cons h]
  show (if (nameB l[k].1 && valueB l[k].2) = false then (20 : Int) else if (l.take k).any (fun y => y.1 == l[k].1) = true then 6 else labelsF (l.take k ++ [l[k]]) (l.drop (k + 1))) = _
  rw [any_look, ← take_nextG l k h]

def keyedPost (l : List Lab) (w : World) (e : Ending) (w' : World) : Prop :=
  (¬ labelsR l = 0 ∧ e = .returned (.tuple #[.map none, .int .i64 (labelsR l)]) ∧ Below w.heap.size w w') ∨
  (labelsR l = 0 ∧ ∃ b k, e = .returned (.tuple #[.map (some b), .int .i64 0]) ∧ MapOf w' b (labF l) k ∧ w.heap.size ≤ b ∧ Below w.heap.size w w')

set_option maxRecDepth 100000 in
set_option maxHeartbeats 8000000 in
theorem keyed_any (v : Value) (l : List Lab) (w : World) (hL : Laid w) (hv : Labs w v l) :
    Calls Tryz.prog 81 #[v] w fun e w' => keyedPost l w e w' := by
  have HL := hide hL
  have HV := hide hv
  have hlen := hv.len
  obtain ⟨a, c, rfl⟩ := hv.val
  clear hL hv
  obtain ⟨n, hn⟩ : ∃ n, n = l.length := ⟨_, rfl⟩
  rw [← hn] at HV hlen ⊢
  have HN := hide hn
  clear hn
  obtain ⟨R, hR⟩ : ∃ R, R = keyedPost l w := ⟨_, rfl⟩
  show Calls _ _ _ _ (fun e w' => keyedPost l w e w')
  rw [← hR]
  have HR := hide hR
  clear hR
  have hmm := @run_makeMap Tryz.prog
  go_enter Tryz.func81, Tryz.ntmps81
  go_wp2_with fail
  clear hmm
  go_loopw [12] (fun i W => ∃ k : Nat, k ≤ n ∧ i = .int .i64 k ∧ Hid (MapOf W w.heap.size (labF (l.take k)) k) ∧ Hid (labelsR l = labelsF (l.take k) (l.drop k)) ∧ Hid (Below w.heap.size w W)) (fun i _ => n - (intOf i).toNat)
  case atStart => exact ⟨0, Nat.zero_le _, rfl, map_new w, rfl, box_below _⟩
  case round =>
    obtain ⟨k, hk, rfl, hmap, hlab, hbel⟩ := hrel
    by_cases hlt : k < n
    · have hlk : k < l.length := by rw [← unhide HN]; exact hlt
      obtain ⟨b, o, rfl, h0, h1, hs0, hs1⟩ := ((unhide HV).below (unhide hbel)).at hlk
      have hst := hide (labels_step hlk)
      have htk := hide (take_nextG l k hlk)
      obtain ⟨y, hy⟩ : ∃ y, y = l[k] := ⟨_, rfl⟩
      rw [← hy] at h0 h1 hs0 hs1 hst htk
      have HS0 := hide hs0
      have HS1 := hide hs1
      clear hs0 hs1 hy hlk
      obtain ⟨W0, hW0⟩ : ∃ W, W = wr.alloc (.cells #[.string (bytesT y.1), .string (bytesT y.2)] 38) := ⟨_, rfl⟩
      have B0 : Hid (Below wr.heap.size wr W0) := by rw [hW0]; exact box_below _
      have F0 : Hid (W0.cell? ⟨wr.heap.size, 0, none⟩ = some (.string (bytesT y.1)) ∧ W0.cell? ⟨wr.heap.size, 1, none⟩ = some (.string (bytesT y.2))) := by rw [hW0]; exact ⟨by simp [go_sem], by simp [go_sem]⟩
      have GW0 := hide hW0
      clear hW0
      obtain ⟨q0, hq0⟩ : ∃ q, q = nameB y.1 := ⟨_, rfl⟩
      obtain ⟨q1, hq1⟩ : ∃ q, q = valueB y.2 := ⟨_, rfl⟩
      rw [← hq0, ← hq1] at hst
      have GQ0 := hide hq0
      have GQ1 := hide hq1
      clear hq0 hq1
      go_wp2_with fail
      rw [← unhide GW0]
      clear h0 h1
      obtain ⟨f0, f1⟩ := unhide F0
      refine (name_any (bytesT y.1) _ (short_max (unhide HS0))).mono ?_
      rintro e w1 ⟨he, hw1⟩
      rw [bytesT_list, ← unhide GQ0] at he
      subst he
      obtain rfl := hw1.symm
      clear hw1
      cases q0
      · have hfin : Hid (labelsR l = 20) := by show _ = _; rw [unhide hlab, unhide hst]; simp
        go_wp2_with fail
        show R (.returned (.tuple #[.map none, .int .i64 20])) _
        rw [unhide HR]
        exact Or.inl ⟨by rw [unhide hfin]; decide, by rw [unhide hfin], chain (unhide hbel) (unhide B0)⟩
      go_wp2_with fail
      refine (value_any (bytesT y.2) _ (short_size (unhide HS1)) ((unhide HL).below (chain (unhide hbel) (unhide B0)))).mono ?_
      rintro e w2 ⟨he, hw2⟩
      rw [bytesT_list, ← unhide GQ1] at he
      subst he
      have B2 := hide (chain (unhide B0) hw2)
      have f0' := cell_kept hw2 f0
      have f1' := cell_kept hw2 f1
      clear hw2 f0 f1
      cases q1
      · have hfin : Hid (labelsR l = 20) := by show _ = _; rw [unhide hlab, unhide hst]; simp
        go_wp2_with fail
        show R (.returned (.tuple #[.map none, .int .i64 20])) _
        rw [unhide HR]
        exact Or.inl ⟨by rw [unhide hfin]; decide, by rw [unhide hfin], chain (unhide hbel) (unhide B2)⟩
      have M2 := hide ((unhide hmap).below (unhide B2))
      have hz2 : Hid (wr.heap.size < w2.heap.size) := World.block_lt_of_cell? _ _ f0'
      cases hlv : lookL y.1 (l.take k) with
      | some u =>
        have hf : Hid (labF (l.take k) y.1 = some (labV y.1 u)) := by show _ = _; unfold labF; rw [hlv]; rfl
        have hfin : Hid (labelsR l = 6) := by show _ = _; rw [unhide hlab, unhide hst, hlv]; simp
        clear hlv
        go_wp2_with (at_lookup; refine wpList_look_some rfl _ _ _ rfl 38 Tryz.underlying124 (zeroL _) (unhide M2) rfl y.1 rfl (unhide HS0) (labV y.1 u) (unhide hf) ?_; unfold labV)
        show R (.returned (.tuple #[.map none, .int .i64 6])) _
        rw [unhide HR]
        exact Or.inl ⟨by rw [unhide hfin]; decide, by rw [unhide hfin], chain (chain (unhide hbel) (unhide B2)) (box_below _)⟩
      | none =>
        have hf : Hid (labF (l.take k) y.1 = none) := by show _ = _; unfold labF; rw [hlv]; rfl
        have hnx : Hid (labelsR l = labelsF (l.take (k + 1)) (l.drop (k + 1))) := by show _ = _; rw [unhide hlab, unhide hst, hlv]; simp
        have hfs : Hid (∀ x, (if x = y.1 then some (labV y.1 y.2) else labF (l.take k) x) = labF (l.take (k + 1)) x) := fun x => by rw [unhide htk]; exact labF_snoc hlv x
        clear hlv
        have f0'' := cell_kept (box_below (.cells #[.string ⟨#[]⟩, .string ⟨#[]⟩] 38)) f0'
        have f1'' := cell_kept (box_below (.cells #[.string ⟨#[]⟩, .string ⟨#[]⟩] 38)) f1'
        go_wp2_with (first
          | (at_lookup; refine wpList_look_none rfl _ _ _ rfl 38 Tryz.underlying124 (zeroL _) (unhide M2) rfl y.1 rfl (unhide HS0) (unhide hf) ?_; unfold zeroLab)
          | (at_mapUpdate; refine wpList_keep rfl _ _ _ _ rfl 38 Tryz.underlying124 ((unhide M2).below (box_below _)) (by unfold maxLen; omega) rfl y.1 rfl (unhide HS0) (labV y.1 y.2) rfl ?_; intro w3 hm3 hg3; have M3 := hide (hm3.congr (unhide hfs)); have B3 := hide (grown_below (chain (chain (unhide hbel) (unhide B2)) (box_below _)) hg3 (Nat.le_refl _)); clear hm3 hg3))
        go_roundw
        case rel => exact ⟨k + 1, by omega, by go_num, M3, hnx, B3⟩
        case measure => simp [intOf]; omega
    · obtain rfl : k = n := by omega
      have hfin : Hid (labelsR l = 0) := by
        show _ = _
        rw [unhide hlab, List.drop_eq_nil_of_le (by rw [← unhide HN]; exact Nat.le_refl _)]; rfl
      have hmf : Hid (MapOf wr w.heap.size (labF l) k) := by
        have := unhide hmap
        rw [List.take_of_length_le (by rw [← unhide HN]; exact Nat.le_refl _)] at this
        exact this
      go_wp2_with fail
      show R (.returned (.tuple #[.map (some w.heap.size), .int .i64 0])) _
      rw [unhide HR]
      exact Or.inr ⟨unhide hfin, _, k, rfl, unhide hmf, Nat.le_refl _, unhide hbel⟩
end Go.Proofs.YtepcnfnmphgccaaGreatDoor

/- Layer 4: contracts of Check, admits, Admits. -/
namespace Go.Proofs.YtepcnfnmphgccaaGreatDoor
open Go.RowKit Suf Val Go.Maps

/-- The seven cells of a keyed set. -/
def Seven (w : World) (B o : Nat) (x : VKS) : Prop :=
  w.cell? ⟨B, o, none⟩ = some (.string (bytesT x.2.1)) ∧ w.cell? ⟨B, o + 1, none⟩ = some (.bool x.2.2.miss) ∧ w.cell? ⟨B, o + 2, none⟩ = some (.bool x.2.2.no) ∧ w.cell? ⟨B, o + 3, none⟩ = some (.bool x.2.2.num) ∧ w.cell? ⟨B, o + 4, none⟩ = some x.1 ∧ w.cell? ⟨B, o + 5, none⟩ = some (.int .i64 x.2.2.lo) ∧ w.cell? ⟨B, o + 6, none⟩ = some (.int .i64 x.2.2.hi)
theorem Seven.below {w w' : World} {B o : Nat} {x : VKS} (h : Seven w B o x) (hb : Below w.heap.size w w') : Seven w' B o x :=
  ⟨cell_kept hb h.1, cell_kept hb h.2.1, cell_kept hb h.2.2.1, cell_kept hb h.2.2.2.1, cell_kept hb h.2.2.2.2.1, cell_kept hb h.2.2.2.2.2.1, cell_kept hb h.2.2.2.2.2.2⟩
theorem flatK_at : ∀ (xs : List VKS) (j : Nat) (h : j < xs.length) (i : Nat), i < 7 → (flatK xs)[j * 7 + i]? = (encK xs[j])[i]?
  | [], j, h, _, _ => by simp at h
  | x :: xs, 0, _, i, hi => by
    unfold flatK
    rw [List.flatMap_cons, List.getElem?_append_left (by show 0 * 7 + i < 7; omega)]; simp
  | x :: xs, j + 1, h, i, hi => by
    have e : flatK (x :: xs) = encK x ++ flatK xs := by unfold flatK; rw [List.flatMap_cons]
    rw [e, List.getElem?_append_right (by show 7 ≤ _; omega), show (j + 1) * 7 + i - (encK x).length = j * 7 + i by show (j + 1) * 7 + i - 7 = _; omega]
    exact flatK_at xs j (by simpa using h) i hi
theorem OwnK.at {T : TypeId} {w : World} {base n c : Nat} {a : Option Addr} {xs : List VKS} (h : OwnK T w base (.slice a n c) xs) {j : Nat} (hj : j < xs.length) : ∃ g, a = some ⟨g, 0, none⟩ ∧ Seven w g (j * 7) xs[j] := by
  have hown := h.1
  rcases hown.2 with ⟨e, hn⟩ | ⟨g, cap, cur, e, _⟩
  · omega
  · injection e with e1 e2 e3
    subst e1 e2 e3
    have hc : ∀ i, i < 7 → w.cell? ⟨g, j * 7 + i, none⟩ = (encK xs[j])[i]? := fun i hi => by rw [hown.cellAt (j * 7 + i) (by omega), flatK_at xs j hj i hi]
    exact ⟨g, rfl, hc 0 (by omega), hc 1 (by omega), hc 2 (by omega), hc 3 (by omega), hc 4 (by omega), hc 5 (by omega), hc 6 (by omega)⟩

set_option maxRecDepth 100000 in
set_option maxHeartbeats 4000000 in
theorem rcheckL_any (v : Value) (l : List VReq) (w : World) (hL : Laid w) (hv : Reqs w v l) :
    Calls Tryz.prog 25 #[v] w fun e w' => e = .returned (.int .i64 (moreR 8 l)) ∧ Below w.heap.size w w' := by
  have HL := hide hL
  have HV := hide hv
  obtain ⟨a, c, rfl⟩ := hv.val
  clear hL hv
  obtain ⟨n, hn⟩ : ∃ n, n = l.length := ⟨_, rfl⟩
  rw [← hn] at HV ⊢
  clear hn
  go_enter Tryz.func25, Tryz.ntmps25
  go_wp2_with fail
  refine (each_any _ l 8 _ (unhide HL) (unhide HV) (by decide)).mono ?_
  rintro e w1 (⟨h0, rfl, hw1⟩ | ⟨h0, v', xs, rfl, hxs, hown, hw1⟩)
  · have B1 := hide hw1
    clear hw1 h0
    go_wp2_with fail
    go_ret
    exact ⟨rfl, unhide B1⟩
  · have B1 := hide hw1
    have H0 := hide h0
    obtain ⟨xa, xc, hxe⟩ := hown.val
    clear hw1 h0 hown hxs
    subst hxe
    go_wp2_with fail
    go_ret
    exact ⟨ret_int (unhide H0).symm, unhide B1⟩

theorem short_look {l : List Lab} (h : ∀ y ∈ l, short y.2) {k v : Txt} (hv : lookL k l = some v) : short v := by
  induction l with
  | nil => cases hv
  | cons y l ih =>
    unfold lookL at hv
    split at hv
    · rw [← Option.some.inj hv]; exact h y (by simp)
    · exact ih (fun z hz => h z (List.mem_cons_of_mem _ hz)) hv

set_option maxRecDepth 100000 in
set_option maxHeartbeats 4000000 in
theorem admits_any (key : Txt) (miss no num : Bool) (u : Value) (vals : List Txt) (lo hi : Int) (ls : List Lab) (b k : Nat) (w : World) (hL : Laid w) (hu : Strs w u vals) (hk : short key) (hm : MapOf w b (labF ls) k) (hls : ∀ y ∈ ls, short y.2) :
    Calls Tryz.prog 82 #[.agg #[.string (bytesT key), .bool miss, .bool no, .bool num, u, .int .i64 lo, .int .i64 hi], .map (some b)] w fun e w' => e = .returned (.bool (admB ls (key, ⟨miss, no, num, vals, lo, hi⟩))) ∧ Below w.heap.size w w' := by
  have HL := hide hL
  have HU := hide hu
  have HK := hide hk
  have HM := hide hm
  obtain ⟨a, c, rfl⟩ := hu.val
  obtain ⟨n, hn⟩ : ∃ n, n = vals.length := ⟨_, rfl⟩
  rw [← hn] at HU ⊢
  clear hL hu hk hm hn
  obtain ⟨r, hr⟩ : ∃ r, r = admB ls (key, ⟨miss, no, num, vals, lo, hi⟩) := ⟨_, rfl⟩
  rw [← hr]
  obtain ⟨W0, hW0⟩ : ∃ W, W = w.alloc (.cells #[.string (bytesT key), .bool miss, .bool no, .bool num, .slice a n c, .int .i64 lo, .int .i64 hi] 112) := ⟨_, rfl⟩
  have B0 : Hid (Below w.heap.size w W0) := by rw [hW0]; exact box_below _
  have S0 : Hid (Seven W0 w.heap.size 0 (.slice a n c, (key, ⟨miss, no, num, vals, lo, hi⟩))) := by
    rw [hW0]; refine ⟨?_, ?_, ?_, ?_, ?_, ?_, ?_⟩ <;> simp [go_sem]
  have M0 := hide ((unhide HM).below (unhide B0))
  have GW := hide hW0
  obtain ⟨s0, s1, s2, s3, s4, s5, s6⟩ := unhide S0
  simp only [Nat.zero_add] at s0 s1 s2 s3 s4 s5 s6
  rw [hW0] at s0 s1 s2 s3 s4 s5 s6
  clear hW0
  cases hlv : lookL key ls with
  | none =>
    have hf : Hid (labF ls key = none) := by show _ = _; unfold labF; rw [hlv]; rfl
    have hr2 : Hid (r = miss) := by show _ = _; rw [hr]; unfold admB; simp only [hlv]
    clear hlv hr
    go_enter Tryz.func82, Tryz.ntmps82
    go_wp2_with (at_lookup; rw [← unhide GW] at s0 s1 s2 s3 s4 s5 s6 ⊢; refine wpList_look_none rfl _ _ _ rfl 38 Tryz.underlying124 (zeroL _) (unhide M0) rfl key rfl (unhide HK) (unhide hf) ?_; unfold zeroLab; have s1' := cell_kept (box_below (.cells #[.string ⟨#[]⟩, .string ⟨#[]⟩] 38)) s1)
    go_ret
    exact ⟨ret_bool (unhide hr2).symm, chain (unhide B0) (box_below _)⟩
  | some v =>
    have hf : Hid (labF ls key = some (labV key v)) := by show _ = _; unfold labF; rw [hlv]; rfl
    have hr2 : Hid (r = hasB ⟨miss, no, num, vals, lo, hi⟩ v) := by show _ = _; rw [hr]; unfold admB; simp only [hlv]
    have hsv := hide (short_look hls hlv)
    clear hlv hr
    go_enter Tryz.func82, Tryz.ntmps82
    go_wp2_with (at_lookup; rw [← unhide GW] at s0 s1 s2 s3 s4 s5 s6 ⊢; refine wpList_look_some rfl _ _ _ rfl 38 Tryz.underlying124 (zeroL _) (unhide M0) rfl key rfl (unhide HK) (labV key v) (unhide hf) ?_; unfold labV; have s1' := cell_kept (box_below (.cells #[.string (bytesT key), .string (bytesT v)] 38)) s1; have s2' := cell_kept (box_below (.cells #[.string (bytesT key), .string (bytesT v)] 38)) s2; have s3' := cell_kept (box_below (.cells #[.string (bytesT key), .string (bytesT v)] 38)) s3; have s4' := cell_kept (box_below (.cells #[.string (bytesT key), .string (bytesT v)] 38)) s4; have s5' := cell_kept (box_below (.cells #[.string (bytesT key), .string (bytesT v)] 38)) s5; have s6' := cell_kept (box_below (.cells #[.string (bytesT key), .string (bytesT v)] 38)) s6)
    have B1 := hide (chain (unhide B0) (box_below (.cells #[.string (bytesT key), .string (bytesT v)] 38)))
    refine (has_any miss no num _ vals lo hi v _ ((unhide HL).below (unhide B1)) ((unhide HU).below (unhide B1)) (unhide hsv)).mono ?_
    rintro e w2 ⟨he, hw2⟩
    rw [← unhide hr2] at he
    subst he
    have B2 := hide (chain (unhide B1) hw2)
    clear hw2
    go_wp2_with fail
    go_ret
    exact ⟨rfl, unhide B2⟩

theorem admits_bad {l : List VReq} {ls : List Lab} (h : ¬ moreR 16 l = 0) : admitsR l ls = (false, moreR 16 l) := by unfold admitsR; rw [if_neg h]
theorem admits_lab {l : List VReq} {ls : List Lab} (h : moreR 16 l = 0) (h2 : ¬ labelsR ls = 0) : admitsR l ls = (false, labelsR ls) := by unfold admitsR; rw [if_pos h, if_neg h2]
theorem admits_is {l : List VReq} {ls : List Lab} (h : moreR 16 l = 0) (h2 : labelsR ls = 0) : admitsR l ls = (l.all (fun r => admB ls (keyS r)), 0) := by unfold admitsR; rw [if_pos h, if_pos h2]
theorem all_nextG {α : Type} {p : α → Bool} (l : List α) (k : Nat) (h : k < l.length) : (l.take (k + 1)).all p = ((l.take k).all p && p l[k]) := by
  rw [take_nextG l k h, List.all_append]; simp
theorem all_noG {α : Type} {p : α → Bool} (l : List α) (k : Nat) (h : k < l.length) (hp : p l[k] = false) : l.all p = false := by
  cases hc : l.all p with
  | false => rfl
  | true =>
    have := List.all_eq_true.1 hc l[k] (List.getElem_mem h)
    rw [hp] at this; cases this
theorem Labs.short {w : World} {v : Value} {l : List Lab} (h : Labs w v l) : ∀ y ∈ l, short y.2 := by
  obtain ⟨a, c, e, hc, _⟩ := h
  intro y hy
  obtain ⟨j, hj, rfl⟩ := List.getElem_of_mem hy
  obtain ⟨b, o, _, h2⟩ := hc j hj
  exact h2.2.2.2
theorem ret_bi {x y : Bool} {a b : Int} (h : x = y) (h2 : a = b) : Ending.returned (.tuple #[.bool x, .int .i64 a]) = .returned (.tuple #[.bool y, .int .i64 b]) := by rw [h, h2]

set_option maxRecDepth 100000 in
set_option maxHeartbeats 8000000 in
theorem padmits_any (v : Value) (l : List VReq) (u : Value) (ls : List Lab) (w : World) (hL : Laid w) (hv : Reqs w v l) (hu : Labs w u ls) :
    Calls Tryz.prog 60 #[v, u] w fun e w' => e = .returned (.tuple #[.bool (admitsR l ls).1, .int .i64 (admitsR l ls).2]) ∧ Below w.heap.size w w' := by
  have HL := hide hL
  have HV := hide hv
  have HU := hide hu
  have HS := hide hu.short
  obtain ⟨a, c, rfl⟩ := hv.val
  obtain ⟨a2, c2, rfl⟩ := hu.val
  clear hL hv hu
  obtain ⟨n, hn⟩ : ∃ n, n = l.length := ⟨_, rfl⟩
  rw [← hn] at HV ⊢
  have HN := hide hn
  clear hn
  obtain ⟨n2, hn2⟩ : ∃ n, n = ls.length := ⟨_, rfl⟩
  rw [← hn2] at HU ⊢
  clear hn2
  obtain ⟨R, hR⟩ : ∃ R, R = admitsR l ls := ⟨_, rfl⟩
  rw [← hR]
  have HR := hide hR
  clear hR
  go_enter Tryz.func60, Tryz.ntmps60
  go_wp2_with fail
  refine (each_any _ l 16 _ (unhide HL) (unhide HV) (by decide)).mono ?_
  rintro e w1 (⟨h0, rfl, hw1⟩ | ⟨h0, v', xs, rfl, hxs, hown, hw1⟩)
  · have hr : Hid (R = (false, moreR 16 l)) := by show _ = _; rw [unhide HR]; exact admits_bad h0
    have B1 := hide hw1
    obtain ⟨z, hz⟩ : ∃ z, z = moreR 16 l := ⟨_, rfl⟩
    rw [← hz] at hr h0 ⊢
    have ht : (z != 0) = true := bne_iff_ne.2 h0
    clear hw1 h0 hz
    go_wp2_with fail
    go_ret2
    exact ⟨by rw [unhide hr]; rfl, unhide B1⟩
  have H0 := hide h0
  have HXS := hide hxs
  have O1 := hide hown
  have B1 := hide hw1
  obtain ⟨xa, xc, hxe⟩ := hown.val
  obtain ⟨xn, hxn⟩ : ∃ x, x = xs.length := ⟨_, rfl⟩
  rw [← hxn] at hxe
  have hxl : Hid (xn = n) := by show _ = _; rw [hxn, unhide HN]; have := congrArg List.length hxs; simpa using this
  have HXN := hide hxn
  clear h0 hxs hown hw1 hxn
  subst hxe
  go_wp2_with fail
  refine (keyed_any _ ls _ ((unhide HL).below (unhide B1)) ((unhide HU).below (unhide B1))).mono ?_
  rintro e w2 (⟨h2, rfl, hw2⟩ | ⟨h2, b, kk, rfl, hmap, hbb, hw2⟩)
  · have hr : Hid (R = (false, labelsR ls)) := by show _ = _; rw [unhide HR]; exact admits_lab (unhide H0) h2
    have B2 := hide (chain (unhide B1) hw2)
    obtain ⟨z, hz⟩ : ∃ z, z = labelsR ls := ⟨_, rfl⟩
    rw [← hz] at hr h2 ⊢
    have ht : (z != 0) = true := bne_iff_ne.2 h2
    clear hw2 h2 hz
    go_wp2_with fail
    go_ret2
    exact ⟨by rw [unhide hr]; rfl, unhide B2⟩
  have hr : Hid (R = (l.all (fun r => admB ls (keyS r)), 0)) := by show _ = _; rw [unhide HR]; exact admits_is (unhide H0) h2
  have B2 := hide (chain (unhide B1) hw2)
  have O2 := hide ((unhide O1).below hw2)
  have M2 := hide hmap
  have hsm : xn ≤ 16 := by rw [unhide hxl, unhide HN]; exact (more_ok.1 (unhide H0)).1
  clear hw2 h2 hmap hbb O1 B1
  go_wp2_with fail
  go_loopw [29] (fun i W => ∃ k : Nat, k ≤ xn ∧ i = .int .i64 k ∧ Hid ((l.take k).all (fun r => admB ls (keyS r)) = true) ∧ Hid (Below w2.heap.size w2 W)) (fun i _ => xn - (intOf i).toNat)
  case atStart => exact ⟨0, Nat.zero_le _, rfl, rfl, Below.refl _ _⟩
  case round =>
    obtain ⟨k, hk, rfl, hall, hbel⟩ := hrel
    by_cases hlt : k < xn
    · have hxk : k < xs.length := by rw [← unhide HXN]; exact hlt
      have hlk : k < l.length := by rw [← unhide HN, ← unhide hxl]; exact hlt
      obtain ⟨g, rfl, hsev⟩ := ((unhide O2).below (unhide hbel)).at hxk
      have hel := (((unhide O2).below (unhide hbel)).2.1 _ (List.getElem_mem hxk))
      have hx2 : xs[k].2 = keyS l[k] := by
        have := List.getElem_of_eq (unhide HXS) (i := k) (by simpa using hxk)
        simpa using this
      have hnx := hide (all_nextG (p := fun r => admB ls (keyS r)) l k hlk)
      have hno := hide (all_noG (p := fun r => admB ls (keyS r)) l k hlk)
      obtain ⟨y, hy⟩ : ∃ y, y = xs[k] := ⟨_, rfl⟩
      rw [← hy] at hsev hel hx2
      rw [← hx2] at hnx hno
      obtain ⟨u, key, ⟨miss, no, num, vals, lo, hi⟩⟩ := y
      obtain ⟨ho, hsh⟩ := hel
      have HST := hide ho.strs
      have HSH := hide hsh
      obtain ⟨ua, uc, hue⟩ := ho.strs.val
      simp only at hsev ho hsh hue hnx hno HST HSH
      obtain ⟨un, hun⟩ : ∃ x, x = vals.length := ⟨_, rfl⟩
      rw [← hun] at hue
      clear hun ho hsh hy hx2 hxk hlk
      subst hue
      obtain ⟨q, hq⟩ : ∃ q, q = admB ls (key, ⟨miss, no, num, vals, lo, hi⟩) := ⟨_, rfl⟩
      rw [← hq] at hnx hno
      have GQ := hide hq
      clear hq
      obtain ⟨s0, s1, s2, s3, s4, s5, s6⟩ := hsev
      simp only at s0 s1 s2 s3 s4 s5 s6
      obtain ⟨W3, hW3⟩ : ∃ W, W = wr.alloc (.cells #[.string (bytesT key), .bool miss, .bool no, .bool num, .slice ua un uc, .int .i64 lo, .int .i64 hi] 112) := ⟨_, rfl⟩
      have B3 : Hid (Below wr.heap.size wr W3) := by rw [hW3]; exact box_below _
      have GW3 := hide hW3
      clear hW3
      go_wp2_with fail
      rw [← unhide GW3]
      clear s0 s1 s2 s3 s4 s5 s6
      refine (admits_any key miss no num _ vals lo hi ls b kk _ ((unhide HL).below (chain (chain (unhide B2) (unhide hbel)) (unhide B3))) ((unhide HST).below (unhide B3)) (unhide HSH) ((unhide M2).below (chain (unhide hbel) (unhide B3))) (unhide HS)).mono ?_
      rintro e w4 ⟨he, hw4⟩
      rw [← unhide GQ] at he
      subst he
      have B4 := hide (chain (chain (unhide hbel) (unhide B3)) hw4)
      clear hw4
      cases q
      · have hfin : Hid (R = (false, 0)) := by show _ = _; rw [unhide hr, unhide hno rfl]
        go_wp2_with fail
        go_ret2
        exact ⟨by rw [unhide hfin]; rfl, chain (unhide B2) (unhide B4)⟩
      · have hn2 : Hid ((l.take (k + 1)).all (fun r => admB ls (keyS r)) = true) := by show _ = _; rw [unhide hnx, unhide hall]; rfl
        go_wp2_with fail
        exact ⟨⟨k + 1, by omega, by go_num, hn2, B4⟩, by simp [intOf]; omega⟩
    · obtain rfl : k = xn := by omega
      have hfin : Hid (R = (true, 0)) := by
        show _ = _
        have := unhide hall
        rw [List.take_of_length_le (by rw [← unhide HN, unhide hxl]; exact Nat.le_refl _)] at this
        rw [unhide hr, this]
      go_wp2_with fail
      go_ret2
      exact ⟨by rw [unhide hfin]; rfl, chain (unhide B2) (unhide hbel)⟩
end Go.Proofs.YtepcnfnmphgccaaGreatDoor
