/- Maps keyed by whatever type whose keys are told by plain data: what a map holds, lookups, stores, entries struck. -/
import Derived.Test.YtepcnfnmphgccaaGreatDoorMpO
import Derived.Test.YtepcnfnmphgccaaGreatDoorGenAG
import Derived.Maps.Ext
import Derived.Maps.OwnSet
import Derived.Lib.SlMapFilter
namespace Go.Proofs.YtepcnfnmphgccaaGreatDoor
open Go.RowKit Go.Maps

/-- Keys of a type: how they lie in values, what they read as, which are within bounds. -/
structure KeyT (κ : Type) where
  k : TypeId
  enc : κ → Value
  lit : κ → Lit
  ok : κ → Prop
  law : Keyed Tryz.prog k
  key : ∀ {x : κ}, ok x → keyOf Tryz.prog k (enc x) = some (lit x)
  inj : ∀ {x y : κ}, enc x = enc y → x = y
section
variable {κ : Type}
theorem KeyT.litInj (T : KeyT κ) {x y : κ} (hx : T.ok x) (hy : T.ok y) (h : T.lit x = T.lit y) : x = y := T.inj (T.law.inj (T.key hx) (by rw [h]; exact T.key hy))
theorem KeyT.isLit (T : KeyT κ) {x : κ} (hx : T.ok x) : WideAt.IsKeyLit (T.lit x) := T.law.key (T.key hx)
/-- What a map holds, with n stores at the most: at the keys within bounds; other keys it has none. -/
def MapK (T : KeyT κ) (w : World) (b : Nat) (f : κ → Option Value) (n : Nat) : Prop :=
  ∃ k D, w.ownsMap Tryz.prog T.k selfElem b k D ∧ k ≤ n ∧ (∀ x, T.ok x → Maps.has D (T.lit x) = (f x).isSome ∧ ∀ v, f x = some v → ∀ z, D.atKey (T.lit x) z = .held v) ∧ ∀ l, Maps.has D l = true → ∃ x, T.ok x ∧ l = T.lit x
variable {T : KeyT κ}
theorem MapK.lt {w : World} {b n : Nat} {f : κ → Option Value} (h : MapK T w b f n) : b < w.heap.size := by obtain ⟨k, D, ho, _⟩ := h; exact ho.lt
theorem MapK.kept {w w' : World} {b n : Nat} {row : Option Nat} {f : κ → Option Value} (h : MapK T w b f n) (hg : w.grownBy w' row) (hne : some b ≠ row) : MapK T w' b f n := by
  obtain ⟨k, D, ho, h2⟩ := h; exact ⟨k, D, ho.kept hg hne, h2⟩
theorem MapK.below {w w' : World} {b n : Nat} {f : κ → Option Value} (h : MapK T w b f n) (hb : Below w.heap.size w w') : MapK T w' b f n := h.kept (gbelow hb) (by simp)
theorem MapK.congr {w : World} {b n : Nat} {f g : κ → Option Value} (h : MapK T w b f n) (he : ∀ x, T.ok x → f x = g x) : MapK T w b g n := by
  obtain ⟨k, D, ho, hk, h1, h2⟩ := h
  exact ⟨k, D, ho, hk, fun x hx => by rw [← he x hx]; exact h1 x hx, h2⟩
theorem MapK.mono {w : World} {b n m : Nat} {f : κ → Option Value} (h : MapK T w b f n) (hm : n ≤ m) : MapK T w b f m := by
  obtain ⟨k, D, ho, hk, h1⟩ := h
  exact ⟨k, D, ho, Nat.le_trans hk hm, h1⟩
theorem mapK_new (T : KeyT κ) (w : World) : MapK T (w.alloc (.map #[] 0)) w.heap.size (fun _ => none) 0 :=
  ⟨0, _, World.ownsMap_made _ _ _ _, Nat.le_refl _, fun x _ => ⟨by simp [has_eq], fun v h => by cases h⟩, fun l h => by simp [has_eq] at h⟩
variable {w : World} {ops : Array Oper} {rest : List Oper} {o : Oper} {a : Act} {Q : Exit → Act → World → Prop}
/-- 'm[k]' and 'v, ok := m[k]': the world stays. -/
theorem MapK.val {f : κ → Option Value} {D : DataW Value} {s : κ} (hD : ∀ x, T.ok x → Maps.has D (T.lit x) = (f x).isSome ∧ ∀ v, f x = some v → ∀ z, D.atKey (T.lit x) z = .held v) (hs : T.ok s) {v z : Value} {ps : List MemPlace} (hv : selfElem v = some (D.atKey (T.lit s) (.held z), ps)) : v = (f s).getD z := by
  cases hf : f s with
  | some u =>
    rw [(hD s hs).2 u hf] at hv
    exact DataW.held.inj (Prod.mk.inj (Option.some.inj hv)).1
  | none =>
    have hno : Maps.has D (T.lit s) = false := by rw [(hD s hs).1, hf]; rfl
    rw [atKey_of_not_has hno] at hv
    exact DataW.held.inj (Prod.mk.inj (Option.some.inj hv)).1
theorem MapK.run_at {t e : TypeId} (ht : Tryz.prog.underlying t = some (.map T.k e)) {z : Value} (hz : (zeroValue e).run Tryz.prog w = .ok z w) {b k : Nat} {f : κ → Option Value} (h : MapK T w b f k) (s : κ) (hs : T.ok s) :
    (Instr.lookup t (.map (some b)) (T.enc s) false).run Tryz.prog w = .ok ((f s).getD z) w := by
  obtain ⟨n, D, ho, _, hD, _⟩ := h
  obtain ⟨v, ps, hrun, hv⟩ := ho.lookup T.law ht hz (zd := .held z) (zp := []) rfl (T.key hs)
  rw [hrun, MapK.val hD hs hv]
theorem MapK.run_ok {t e : TypeId} (ht : Tryz.prog.underlying t = some (.map T.k e)) {z : Value} (hz : (zeroValue e).run Tryz.prog w = .ok z w) {b k : Nat} {f : κ → Option Value} (h : MapK T w b f k) (s : κ) (hs : T.ok s) :
    (Instr.lookup t (.map (some b)) (T.enc s) true).run Tryz.prog w = .ok (.tuple #[(f s).getD z, .bool (f s).isSome]) w := by
  obtain ⟨n, D, ho, _, hD, _⟩ := h
  obtain ⟨v, ps, hrun, hv⟩ := ho.look_ok T.law ht hz (zd := .held z) (zp := []) rfl (T.key hs)
  rw [hrun, MapK.val hD hs hv, (hD s hs).1]
/-- 'm[k] = v'. -/
theorem wpList_keepK (hg : o.guard = none) (m x v : Operand) (t : TypeId) (hop : o.op = Op.mapUpdate t m x v) (e : TypeId) (ht : Tryz.prog.underlying t = some (.map T.k e)) {b k : Nat} {f : κ → Option Value} (h : MapK T w b f k) (hk : k < maxLen)
    (hm : a.eval m = .map (some b)) (s : κ) (hx : a.eval x = T.enc s) (hs : T.ok s) (u : Value) (hv : a.eval v = u) (g : κ → Option Value) (hgs : g s = some u) (hgo : ∀ y, y ≠ s → g y = f y)
    (hK : ∀ w', MapK T w' b g (k + 1) → w.grownBy w' (some b) → wpList Tryz.prog ops Q rest (a.put o.dst undef) w') : wpList Tryz.prog ops Q (o :: rest) a w := by
  obtain ⟨n, D, ho, hn, hD, hall⟩ := h
  refine wpList_mapUpdate_own w hg m x v t hop T.k e T.law ht selfElem b n D hm ho (Nat.lt_of_le_of_lt hn hk) _ u _ hx hv (T.key hs) (.held u) [] rfl ?_
  intro w' ho' hgr
  refine hK w' ⟨n + 1, _, ho', Nat.succ_le_succ hn, fun y hy => ?_, fun l hl => ?_⟩ hgr
  · by_cases e : T.lit y = T.lit s
    · obtain rfl := T.litInj hy hs e
      rw [hgs]
      exact ⟨has_put_same ho.isMap (T.isLit hs) _, fun v' h' z => by rw [atKey_put_same ho.isMap (T.isLit hs)]; rw [Option.some.inj h']⟩
    · rw [hgo y (fun c => e (by rw [c]))]
      exact ⟨by rw [has_put_other e]; exact (hD y hy).1, fun v' h' z => by rw [atKey_put_other e]; exact (hD y hy).2 v' h' z⟩
  · by_cases e : l = T.lit s
    · exact ⟨s, hs, e⟩
    · rw [has_put_other e] at hl; exact hall l hl
/-- The entries that stay where some are struck. -/
theorem MapK.struck {w' : World} {b n k : Nat} {f : κ → Option Value} {pd : Lit → DataW Value → Bool} {keep : Value → Bool} (hp : ∀ l v, pd l (.held v) = !keep v) {D : DataW Value} (ho : w.ownsMap Tryz.prog T.k selfElem b k D) (hk : k ≤ n)
    (hD : ∀ x, T.ok x → Maps.has D (T.lit x) = (f x).isSome ∧ ∀ v, f x = some v → ∀ z, D.atKey (T.lit x) z = .held v) (hall : ∀ l, Maps.has D l = true → ∃ x, T.ok x ∧ l = T.lit x)
    (ho' : w'.ownsMap Tryz.prog T.k selfElem b k (Lib.deleteFuncD pd D)) : MapK T w' b (fun x => (f x).filter keep) n := by
  obtain ⟨es, rfl, hap, hkeys⟩ := ho.entries T.law
  have hin : ∀ {x}, T.ok x → ∀ {v}, f x = some v → (T.lit x, DataW.held v) ∈ es := fun {x} hx {v} hf => by
    have h1 : Maps.has (.map es) (T.lit x) = true := by rw [(hD x hx).1, hf]; rfl
    obtain ⟨p, hpm, hs⟩ := List.any_eq_true.1 h1
    have e1 := WideAt.sameKey_eq hs
    have e2 := WideAt.atKey_mem (z := .nil) (T.isLit hx) hap (show (T.lit x, p.2) ∈ es by rw [← e1]; exact hpm)
    rw [(hD x hx).2 v hf] at e2
    rw [e2, ← e1]; exact hpm
  refine ⟨k, _, ho', hk, fun x hx => ?_, fun l hl => ?_⟩
  · show Maps.has _ _ = ((f x).filter keep).isSome ∧ ∀ v, (f x).filter keep = some v → ∀ z, DataW.atKey _ _ z = .held v
    cases hf : f x with
    | none =>
      have h1 : Maps.has (.map es) (T.lit x) = false := by rw [(hD x hx).1, hf]; rfl
      refine ⟨?_, fun v h => by cases h⟩
      show (es.filter fun p => !pd p.1 p.2).any (fun p => p.1.sameKey (T.lit x)) = false
      refine List.any_eq_false.2 fun p hpm => ?_
      have := List.any_eq_false.1 h1 p (List.mem_filter.1 hpm).1
      exact this
    | some v =>
      have hm := hin hx hf
      cases hv : keep v with
      | true =>
        have hm' : (T.lit x, DataW.held v) ∈ es.filter fun p => !pd p.1 p.2 := List.mem_filter.2 ⟨hm, by rw [hp, hv]; rfl⟩
        rw [Option.filter_some, if_pos hv]
        refine ⟨List.any_eq_true.2 ⟨_, hm', WideAt.sameKey_self (T.isLit hx)⟩, fun u hu z => ?_⟩
        rw [← Option.some.inj hu]
        exact WideAt.atKey_mem z (T.isLit hx) (hap.filter _) hm'
      | false =>
        rw [Option.filter_some, if_neg (by rw [hv]; decide)]
        refine ⟨?_, fun u hu => by cases hu⟩
        show (es.filter fun p => !pd p.1 p.2).any (fun p => p.1.sameKey (T.lit x)) = false
        refine List.any_eq_false.2 fun p hpm hs => ?_
        obtain ⟨h1, h2⟩ := List.mem_filter.1 hpm
        have e1 := WideAt.sameKey_eq hs
        have e2 := WideAt.atKey_mem (z := .nil) (T.isLit hx) hap (show (T.lit x, p.2) ∈ es by rw [← e1]; exact h1)
        rw [(hD x hx).2 v hf] at e2
        rw [← e2, hp, hv] at h2
        cases h2
  · refine hall l ?_
    obtain ⟨p, hpm, hs⟩ := List.any_eq_true.1 hl
    exact List.any_eq_true.2 ⟨p, (List.mem_filter.1 hpm).1, hs⟩
end
end Go.Proofs.YtepcnfnmphgccaaGreatDoor
