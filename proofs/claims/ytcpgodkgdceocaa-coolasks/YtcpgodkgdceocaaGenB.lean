/- Kinds made of kinds; appends to rows of the call's own, said once. No function of the program is named. -/
import Derived.Test.YtcpgodkgdceocaaGenA
import Derived.Test.YtcpgodkgdceocaaTxtA
namespace Go.Proofs.Ytcpgodkgdceocaa
open Go.RowKit Val

def strK : Rep Txt where
  size := 1
  R := fun _ cs t => cs = [.string (bytesT t)] ∧ short t
  len := fun h => by rw [h.1]; rfl
  one := fun h u hu => by rw [h.1] at hu; simp at hu; subst hu; rfl
  below := fun h _ => h
def intK : Rep Int where
  size := 1
  R := fun _ cs z => cs = [.int .i64 z]
  len := fun h => by rw [h]; rfl
  one := fun h u hu => by rw [h] at hu; simp at hu; subst hu; rfl
  below := fun h _ => h
def boolK : Rep Bool where
  size := 1
  R := fun _ cs z => cs = [.bool z]
  len := fun h => by rw [h]; rfl
  one := fun h u hu => by rw [h] at hu; simp at hu; subst hu; rfl
  below := fun h _ => h
section
variable {α β : Type}
def listK (K : Rep α) : Rep (List α) where
  size := 1
  R := fun w cs l => ∃ v, cs = [v] ∧ Lst K w v l
  len := fun h => by obtain ⟨v, rfl, _⟩ := h; rfl
  one := fun h u hu => by
    obtain ⟨v, rfl, hl⟩ := h
    obtain ⟨a, c, rfl⟩ := hl.val
    simp at hu; subst hu; rfl
  below := fun h hb => by
    obtain ⟨v, e, hl⟩ := h
    exact ⟨v, e, hl.below hb⟩
def pairK (K : Rep α) (L : Rep β) : Rep (α × β) where
  size := K.size + L.size
  R := fun w cs x => ∃ c1 c2, cs = c1 ++ c2 ∧ K.R w c1 x.1 ∧ L.R w c2 x.2
  len := fun h => by obtain ⟨c1, c2, rfl, h1, h2⟩ := h; rw [List.length_append, K.len h1, L.len h2]
  one := fun h u hu => by
    obtain ⟨c1, c2, rfl, h1, h2⟩ := h
    rcases List.mem_append.1 hu with hu | hu
    · exact K.one h1 u hu
    · exact L.one h2 u hu
  below := fun h hb => by
    obtain ⟨c1, c2, e, h1, h2⟩ := h
    exact ⟨c1, c2, e, K.below h1 hb, L.below h2 hb⟩
/-- The same cells, another name. -/
def isoK (K : Rep α) (f : β → α) : Rep β where
  size := K.size
  R := fun w cs x => K.R w cs (f x)
  len := fun h => K.len h
  one := fun h => K.one h
  below := fun h hb => K.below h hb
theorem at_str {w : World} {b o : Nat} {t : Txt} : At strK w b o t ↔ w.cell? ⟨b, o, none⟩ = some (.string (bytesT t)) ∧ short t := by
  constructor
  · rintro ⟨cs, ⟨rfl, h⟩, hc⟩
    exact ⟨hc 0 _ rfl, h⟩
  · rintro ⟨h1, h2⟩
    refine ⟨_, ⟨rfl, h2⟩, fun i u hu => ?_⟩
    match i, hu with
    | 0, hu => injection hu with hu; subst hu; exact h1
    | i + 1, hu => cases hu
theorem at_int {w : World} {b o : Nat} {z : Int} : At intK w b o z ↔ w.cell? ⟨b, o, none⟩ = some (.int .i64 z) := by
  constructor
  · rintro ⟨cs, rfl, hc⟩
    exact hc 0 _ rfl
  · intro h1
    refine ⟨_, rfl, fun i u hu => ?_⟩
    match i, hu with
    | 0, hu => injection hu with hu; subst hu; exact h1
    | i + 1, hu => cases hu
theorem at_bool {w : World} {b o : Nat} {z : Bool} : At boolK w b o z ↔ w.cell? ⟨b, o, none⟩ = some (.bool z) := by
  constructor
  · rintro ⟨cs, rfl, hc⟩
    exact hc 0 _ rfl
  · intro h1
    refine ⟨_, rfl, fun i u hu => ?_⟩
    match i, hu with
    | 0, hu => injection hu with hu; subst hu; exact h1
    | i + 1, hu => cases hu
theorem at_lst {K : Rep α} {w : World} {b o : Nat} {l : List α} : At (listK K) w b o l ↔ ∃ v, w.cell? ⟨b, o, none⟩ = some v ∧ Lst K w v l := by
  constructor
  · rintro ⟨cs, ⟨v, rfl, h⟩, hc⟩
    exact ⟨v, hc 0 _ rfl, h⟩
  · rintro ⟨v, h1, h2⟩
    refine ⟨_, ⟨v, rfl, h2⟩, fun i u hu => ?_⟩
    match i, hu with
    | 0, hu => injection hu with hu; subst hu; exact h1
    | i + 1, hu => cases hu
theorem at_pair {K : Rep α} {L : Rep β} {w : World} {b o : Nat} {x : α} {y : β} : At (pairK K L) w b o (x, y) ↔ At K w b o x ∧ At L w b (o + K.size) y := by
  constructor
  · rintro ⟨cs, ⟨c1, c2, rfl, h1, h2⟩, hc⟩
    refine ⟨⟨c1, h1, fun i u hu => hc i u ?_⟩, ⟨c2, h2, fun i u hu => ?_⟩⟩
    · rw [List.getElem?_append_left (List.getElem?_eq_some_iff.1 hu).1]; exact hu
    · have := hc (K.size + i) u (by rw [List.getElem?_append_right (by rw [K.len h1]; omega), K.len h1, Nat.add_sub_cancel_left]; exact hu)
      rw [Nat.add_assoc]; exact this
  · rintro ⟨⟨c1, h1, k1⟩, ⟨c2, h2, k2⟩⟩
    refine ⟨c1 ++ c2, ⟨c1, c2, rfl, h1, h2⟩, fun i u hu => ?_⟩
    by_cases hi : i < c1.length
    · rw [List.getElem?_append_left hi] at hu; exact k1 i u hu
    · rw [List.getElem?_append_right (by omega), K.len h1] at hu
      have := k2 _ u hu
      rw [K.len h1] at hi
      rw [show o + i = o + K.size + (i - K.size) by omega]; exact this
theorem at_iso {K : Rep α} {f : β → α} {w : World} {b o : Nat} {x : β} : At (isoK K f) w b o x ↔ At K w b o (f x) := Iff.rfl

/-! Appends. -/
theorem ginfo {P : Program} {e : TypeId} {z : Value} {s b : Nat} (h : (P.info? e).map (fun i => (i.zero, i.size, i.bytes)) = some (some z, s, b)) : ∃ i, P.info? e = some i ∧ i.zero = some z ∧ i.size = s ∧ i.bytes = b := by
  obtain ⟨i, hi, he⟩ := Option.map_eq_some_iff.1 h
  simp only [Prod.mk.injEq] at he
  exact ⟨i, hi, he.1, he.2.1, he.2.2⟩
theorem grun_append_nil {P : Program} {w : World} (base : Nat) (t ty e : TypeId) (i : TypeInfo) (size c : Nat) (ht : P.underlying t = some (.slice e)) (hi : P.info? e = some i)
    (v : Value) (n : Nat) (xs : List Value) (hown : w.ownsRow base e size v n xs) :
    (Builtin.append_ #[t, t] ty #[v, .slice none 0 c]).run P w = .ok v w := by
  rcases hown.2 with ⟨rfl, rfl⟩ | ⟨g, cap, cur, rfl, _, _, hnc, _⟩
  · simp [Builtin.append_, run_underlying ht, sizeOf, typeInfo, hi, Builtin.lenOf, Builtin.firstCells]
  · simp [Builtin.append_, run_underlying ht, sizeOf, typeInfo, hi, Builtin.lenOf, Builtin.firstCells, hnc, storeCells]
theorem gappend_nil {P : Program} {w : World} {ops : Array Oper} {rest : List Oper} {o : Oper} {a : Act} {Q : Exit → Act → World → Prop} (hgd : o.guard = none) (s x : Operand) (t : TypeId)
    (ho : o.op = .call { callee := .builtin .append, args := #[s, x], argTypes := #[t, t] })
    (base : Nat) (e : TypeId) (i : TypeInfo) (size c : Nat) (ht : P.underlying t = some (.slice e)) (hi : P.info? e = some i)
    (v : Value) (n : Nat) (xs : List Value) (hs : a.eval s = v) (hown : w.ownsRow base e size v n xs) (hx : a.eval x = .slice none 0 c)
    (h : wpList P ops Q rest (a.put o.dst v) w) : wpList P ops Q (o :: rest) a w := by
  refine wpList_plain hgd fun K hK => ?_
  have hrun := grun_append_nil (P := P) (w := w) base t o.type e i size c ht hi v n xs hown
  unfold Oper.wp
  simp [execOp, ho, resolve, invoke, builtin, hs, hx, hrun, Result.andThen]
  exact hK _ _ h
theorem ggrown_refl (w : World) (r : Option Nat) : w.grownBy w r := ⟨rfl, rfl, rfl, Nat.le_refl _, fun _ _ _ => rfl⟩
theorem gbelow {w w' : World} (h : Below w.heap.size w w') : w.grownBy w' none := ⟨h.os, h.tape, h.output, h.size, fun i hi _ => h.block i hi⟩
theorem grow_block {w : World} {base : Nat} {T : TypeId} {sz : Nat} {v : Value} {n : Nat} {xs : List Value} (h : w.ownsRow base T sz v n xs) : ∀ k, v.ownBlock = some k → base ≤ k ∧ k < w.heap.size := h.lt
theorem grow_on {w W W1 : World} {T : TypeId} {sz : Nat} {v : Value} {n : Nat} {xs : List Value} (hb : Below w.heap.size w W) (ho : W.ownsRow w.heap.size T sz v n xs) (hg : W.grownBy W1 v.ownBlock) : Below w.heap.size w W1 := hb.grown hg hb.size (fun k hk => (ho.lt k hk).1)
theorem grow_below {w w' : World} {base : Nat} {T : TypeId} {sz : Nat} {v : Value} {n : Nat} {xs : List Value} (h : w.ownsRow base T sz v n xs) (hb : Below w.heap.size w w') : w'.ownsRow base T sz v n xs :=
  h.kept (gbelow hb) (by
    cases hv : v.ownBlock with
    | none => exact Or.inl rfl
    | some b => exact Or.inr (by simp))
theorem grow_other {w w' : World} {r : Option Nat} {base : Nat} {T : TypeId} {sz : Nat} {v : Value} {n : Nat} {xs : List Value} (h : w.ownsRow base T sz v n xs) (hg : w.grownBy w' r) (hne : ∀ k, r = some k → v.ownBlock ≠ some k) : w'.ownsRow base T sz v n xs :=
  h.kept hg (by
    cases hv : v.ownBlock with
    | none => exact Or.inl rfl
    | some b => exact Or.inr (fun e => hne b e.symm hv))
theorem grow_empty {w : World} {base : Nat} {T : TypeId} {sz : Nat} (hb : base ≤ w.heap.size) : (w.alloc (.cells #[] T)).ownsRow base T sz (.slice (some ⟨w.heap.size, 0, none⟩) 0 0) 0 [] := ⟨by simp, Or.inr ⟨w.heap.size, 0, #[], rfl, hb, heap_alloc_new w _, Nat.le_refl _, Nat.zero_le _, by simp, by simp⟩⟩
/-- What a type's elements take. -/
def Tells (K : Rep α) (T t : TypeId) (bytes : Nat) : Prop := (∃ z : Value, (Try.prog.info? T).map (fun i => (i.zero, i.size, i.bytes)) = some (some z, K.size, bytes) ∧ z.cells.size = K.size) ∧ Try.prog.underlying t = some (.slice T) ∧ 0 < K.size
/-- A list appended to a row of the call's own. -/
theorem append_lst {K : Rep α} {T t : TypeId} {bytes : Nat} (hT : Tells K T t bytes) {w : World} {ops : Array Oper} {rest : List Oper} {o : Oper} {a : Act} {Q : Exit → Act → World → Prop} (hgd : o.guard = none) (s x : Operand)
    (ho : o.op = .call { callee := .builtin .append, args := #[s, x], argTypes := #[t, t] })
    (base : Nat) (v : Value) (n : Nat) (xs : List Value) (hs : a.eval s = v) (hown : w.ownsRow base T K.size v n xs) (u : Value) (l : List α) (hx : a.eval x = u) (w0 : World) (hw0 : Below w0.heap.size w0 w) (hsrc : Lst K w0 u l)
    (h63 : n + l.length ≤ maxLen) (hlen : (n + l.length) * bytes ≤ 140737488355328) (hbase : base ≤ w.heap.size)
    (h : ∀ v' w' news, RowsOf K w0 news l → w'.ownsRow base T K.size v' (n + l.length) (xs ++ news) → w.grownBy w' v.ownBlock → wpList Try.prog ops Q rest (a.put o.dst v') w') : wpList Try.prog ops Q (o :: rest) a w := by
  obtain ⟨⟨z, hinfo, hzs⟩, ht, hsz⟩ := hT
  obtain ⟨i, hi, hz, hz1, hz2⟩ := ginfo hinfo
  obtain ⟨ad, c, rfl⟩ := hsrc.val
  obtain ⟨news, hr, hc⟩ := lst_rows hsrc
  cases ad with
  | none =>
    have hm : l = [] := by
      cases l with
      | nil => rfl
      | cons t m => obtain ⟨b, o, e, _⟩ := hsrc.at (j := 0) (by simp); cases e
    subst hm
    obtain rfl : news = [] := List.eq_nil_of_length_eq_zero (by rw [hr.len]; simp)
    refine gappend_nil hgd s x t ho base T i K.size c ht hi v n _ hs hown hx (h v w [] hr ?_ (ggrown_refl _ _))
    rw [List.append_nil]; exact hown
  | some ad =>
    refine wpList_append_own w hgd s x t ho base T i z K.size bytes ht hi hz hz1 hz2 hzs hsz v n _ hs hown ad l.length c news hx hr.len (fun j u hj => cell_kept hw0 (hc ad rfl j u hj)) hr.one h63 hlen hbase ?_
    intro v' w' h2 h3 _
    exact h v' w' news hr h2 h3
/-- Some appended, and where the row lies then. -/
theorem append_lies {K : Rep α} {T t : TypeId} {bytes : Nat} (hT : Tells K T t bytes) {w : World} {ops : Array Oper} {rest : List Oper} {o : Oper} {a : Act} {Q : Exit → Act → World → Prop} (hgd : o.guard = none) (s x : Operand)
    (ho : o.op = .call { callee := .builtin .append, args := #[s, x], argTypes := #[t, t] })
    (base : Nat) (v : Value) (n : Nat) (xs : List Value) (hs : a.eval s = v) (hown : w.ownsRow base T K.size v n xs) (ad : Addr) (m c : Nat) (l : List α) (hx : a.eval x = .slice (some ad) m c) (w0 : World) (hw0 : Below w0.heap.size w0 w) (hsrc : Lst K w0 (.slice (some ad) m c) l) (hm : 0 < m)
    (h63 : n + m ≤ maxLen) (hlen : (n + m) * bytes ≤ 140737488355328) (hbase : base ≤ w.heap.size) (H : Nat) (hH : w.heap.size = H)
    (h : ∀ g cap w' news, RowsOf K w0 news l → w'.ownsRow base T K.size (.slice (some ⟨g, 0, none⟩) (n + m) cap) (n + m) (xs ++ news) → w.grownBy w' v.ownBlock → (v.ownBlock = some g ∨ g = H) → g < w'.heap.size → wpList Try.prog ops Q rest (a.put o.dst (.slice (some ⟨g, 0, none⟩) (n + m) cap)) w') : wpList Try.prog ops Q (o :: rest) a w := by
  obtain ⟨⟨z, hinfo, hzs⟩, ht, hsz⟩ := hT
  obtain ⟨i, hi, hz, hz1, hz2⟩ := ginfo hinfo
  obtain ⟨news, hr, hc⟩ := lst_rows hsrc
  have hn : m = l.length := hsrc.cap.1
  exact wpList_append_lies w hgd s x t ho base T i z K.size bytes ht hi hz hz1 hz2 hzs hsz v n _ hs hown ad m c news hx (by rw [hr.len, hn]) (fun j u hj => cell_kept hw0 (hc ad rfl j u hj)) hr.one hm h63 hlen hbase H hH (fun g cap w' h2 h3 h4 h5 => h g cap w' news hr h2 h3 h4 h5)
end
end Go.Proofs.Ytcpgodkgdceocaa
