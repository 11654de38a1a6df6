/- An append of any list to a row of the call's own, where a region draws its order. No function of the program is named. -/
import Derived.Test.YthaldbjnnbllbaaGreatDoorGenAG
namespace Go.Proofs.YthaldbjnnbllbaaGreatDoor
open Go.RowKit

/-- What an append of a list comes to. -/
theorem run_append_lst {α : Type} {K : Rep α} {T t : TypeId} {bytes : Nat} (hT : Tells K T t bytes) (w : World) (ty : TypeId) (base : Nat) (v : Value) (n : Nat) (xs : List Value) (hown : w.ownsRow base T K.size v n xs) (u : Value) (l : List α) (w0 : World) (hw0 : Below w0.heap.size w0 w) (hsrc : Lst K w0 u l)
    (h63 : n + l.length ≤ maxLen) (hlen : (n + l.length) * bytes ≤ 140737488355328) (hbase : base ≤ w.heap.size) :
    ∃ v' w' news, (Builtin.append_ #[t, t] ty #[v, u]).run Tryz.prog w = .ok v' w' ∧ RowsOf K w0 news l ∧ w'.ownsRow base T K.size v' (n + l.length) (xs ++ news) ∧ w.grownBy w' v.ownBlock := by
  obtain ⟨⟨z, hinfo, hzs⟩, ht, hsz⟩ := hT
  obtain ⟨i, hi, hz, hz1, hz2⟩ := ginfo hinfo
  obtain ⟨ad, c, rfl⟩ := hsrc.val
  obtain ⟨news, hr, hc⟩ := lst_rows hsrc
  cases ad with
  | none =>
    have hm : l = [] := by
      cases l with
      | nil => rfl
      | cons t m => obtain ⟨b, o, e, _⟩ := hsrc.at (j := 0) (by simp); cases e
    subst hm
    obtain rfl : news = [] := List.eq_nil_of_length_eq_zero (by rw [hr.len]; simp)
    refine ⟨v, w, [], ?_, hr, by rw [List.append_nil]; exact hown, ggrown_refl _ _⟩
    have hrun := grun_append_nil (P := Tryz.prog) (w := w) base t ty T i K.size c ht hi v n xs hown
    exact hrun
  | some ad =>
    obtain ⟨v', w', h1, h2, h3, _⟩ := run_append_own (P := Tryz.prog) w base t ty T i z K.size bytes ht hi hz hz1 hz2 hzs hsz v n xs hown ad l.length c news hr.len (fun j u hj => cell_kept hw0 (hc ad rfl j u hj)) hr.one h63 hlen hbase
    exact ⟨v', w', news, h1, hr, h2, h3⟩
theorem step_append_lst {α : Type} {K : Rep α} {T t : TypeId} {bytes : Nat} (hT : Tells K T t bytes) {w : World} {ops : Array Oper} {o : Oper} {a : Act} {KK : Act → World → Prop} {Q : Exit → Act → World → Prop} {E : Prop} (hgd : o.guard = none) (s x : Operand)
    (ho : o.op = .call { callee := .builtin .append, args := #[s, x], argTypes := #[t, t] })
    (base : Nat) (v : Value) (n : Nat) (xs : List Value) (hs : a.eval s = v) (hown : w.ownsRow base T K.size v n xs) (u : Value) (l : List α) (hx : a.eval x = u) (w0 : World) (hw0 : Below w0.heap.size w0 w) (hsrc : Lst K w0 u l)
    (h63 : n + l.length ≤ maxLen) (hlen : (n + l.length) * bytes ≤ 140737488355328) (hbase : base ≤ w.heap.size)
    (h : ∀ v' w' news, RowsOf K w0 news l → w'.ownsRow base T K.size v' (n + l.length) (xs ++ news) → w.grownBy w' v.ownBlock → KK (a.put o.dst v') w') :
    if Region.wanted o (yielded ops a.tmps) = true then Oper.wp Tryz.prog o a w KK Q else E := by
  have hw : Region.wanted o (yielded ops a.tmps) = true := by simp [Region.wanted, hgd]
  rw [if_pos hw]
  obtain ⟨v', w', news, hr, h1, h2, h3⟩ := run_append_lst hT w o.type base v n xs hown u l w0 hw0 hsrc h63 hlen hbase
  unfold Oper.wp execOp
  simp only [ho, resolve, invoke, builtin, Sem.run_bind, Sem.run_pure, Result.andThen_ok, List.map_toArray, List.map_cons, List.map_nil, hs, hx, hr]
  exact h v' w' news h1 h2 h3
/-- The same, with all that a later step of the region asks: what was below stays; cells of other blocks too. -/
theorem step_append_keep {α : Type} {K : Rep α} {T t : TypeId} {bytes : Nat} (hT : Tells K T t bytes) {w : World} {ops : Array Oper} {o : Oper} {a : Act} {KK : Act → World → Prop} {Q : Exit → Act → World → Prop} {E : Prop} (hgd : o.guard = none) (s x : Operand)
    (ho : o.op = .call { callee := .builtin .append, args := #[s, x], argTypes := #[t, t] })
    (W0 : World) (hb : Below W0.heap.size W0 w) (v : Value) (n : Nat) (xs : List Value) (hs : a.eval s = v) (hown : w.ownsRow W0.heap.size T K.size v n xs) (u : Value) (l : List α) (hx : a.eval x = u) (w0 : World) (hw0 : Below w0.heap.size w0 w) (hsrc : Lst K w0 u l)
    (h63 : n + l.length ≤ maxLen) (hlen : (n + l.length) * bytes ≤ 140737488355328)
    (h : ∀ v' w' news, RowsOf K w0 news l → w'.ownsRow W0.heap.size T K.size v' (n + l.length) (xs ++ news) → Below W0.heap.size W0 w' → (∀ p q, some p.block ≠ v.ownBlock → w.cell? p = some q → w'.cell? p = some q) → KK (a.put o.dst v') w') :
    if Region.wanted o (yielded ops a.tmps) = true then Oper.wp Tryz.prog o a w KK Q else E :=
  step_append_lst hT hgd s x ho W0.heap.size v n xs hs hown u l hx w0 hw0 hsrc h63 hlen hb.size fun v' w' news h1 h2 h3 => h v' w' news h1 h2 (grow_on hb hown h3) fun p q hp hq => by
    rw [World.grownBy.cell_far h3 p (World.block_lt_of_cell? w p hq) hp]; exact hq
end Go.Proofs.YthaldbjnnbllbaaGreatDoor
