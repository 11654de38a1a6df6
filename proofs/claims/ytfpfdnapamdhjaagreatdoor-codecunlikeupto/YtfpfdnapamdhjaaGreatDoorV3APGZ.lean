/- Layer 3: texts appended to texts of the call's own. -/
import Derived.Test.YtfpfdnapamdhjaaGreatDoorV3GGZ
import Derived.Laws.OwnMore
import Derived.Laws.AppendOwn
namespace Go.Proofs.YtfpfdnapamdhjaaGreatDoor
open Go.RowKit Suf Val Go.Maps

theorem Tryz.infoStr : (Tryz.prog.info? 9).map (fun i => (i.zero,i.size,i.bytes)) = some (some (.string ⟨#[]⟩),1,16) := by kernel_rfl
theorem info_partsS {P : Program} {e : TypeId} {z : Value} {s b : Nat} (h : (P.info? e).map (fun i => (i.zero,i.size,i.bytes)) = some (some z,s,b)) : ∃ i,P.info? e = some i /\ i.zero = some z /\ i.size = s /\ i.bytes = b := by
  cases hi : P.info? e with
  | none => rw [hi] at h; cases h
  | some i =>
    rw [hi] at h
    simp at h
    exact ⟨i,rfl,h.1,h.2.1,h.2.2⟩
theorem run_append_nil {P : Program} {w : World} (base : Nat) (t ty e : TypeId) (i : TypeInfo) (size c : Nat) (ht : P.underlying t = some (.slice e)) (hi : P.info? e = some i)
    (v : Value) (n : Nat) (xs : List Value) (hown : w.ownsRow base e size v n xs) :
    (Builtin.append_ #[t,t] ty #[v,.slice none 0 c]).run P w = .ok v w := by
  rcases hown.2 with ⟨rfl,rfl⟩ | ⟨g,cap,cur,rfl,_,_,hnc,_⟩
  · simp [Builtin.append_,run_underlying ht,sizeOf,typeInfo,hi,Builtin.lenOf,Builtin.firstCells]
  · simp [Builtin.append_,run_underlying ht,sizeOf,typeInfo,hi,Builtin.lenOf,Builtin.firstCells,hnc,storeCells]
theorem wpList_append_nil {P : Program} {w : World} {ops : Array Oper} {rest : List Oper} {o : Oper} {a : Act} {Q : Exit -> Act -> World -> Prop} (hgd : o.guard = none) (s x : Operand) (t : TypeId)
    (ho : o.op = .call { callee := .builtin .append,args := #[s,x],argTypes := #[t,t] })
    (base : Nat) (e : TypeId) (i : TypeInfo) (size c : Nat) (ht : P.underlying t = some (.slice e)) (hi : P.info? e = some i)
    (v : Value) (n : Nat) (xs : List Value) (hs : a.eval s = v) (hown : w.ownsRow base e size v n xs) (hx : a.eval x = .slice none 0 c)
    (h : wpList P ops Q rest (a.put o.dst v) w) : wpList P ops Q (o :: rest) a w := by
  refine wpList_plain hgd fun K hK => ?_
  have hrun := run_append_nil (P := P) (w := w) base t o.type e i size c ht hi v n xs hown
  unfold Oper.wp
  simp [execOp,ho,resolve,invoke,builtin,hs,hx,hrun,Result.andThen]
  exact hK _ _ h
theorem grown_refl (w : World) (r : Option Nat) : w.grownBy w r := ⟨rfl,rfl,rfl,Nat.le_refl _,fun _ _ _ => rfl⟩
theorem one_strs (m : List Txt) : ∀ u ∈ m.map encStr,u.oneCell' = true := by
  intro u hu
  obtain ⟨t,_,rfl⟩ := List.mem_map.1 hu
  rfl
set_option maxRecDepth 100000 in
/-- Texts appended to texts of the call's own: what was there,and then those; the block alone is written. -/
theorem wpList_append_strs {w : World} {ops : Array Oper} {rest : List Oper} {o : Oper} {a : Act} {Q : Exit -> Act -> World -> Prop} (hgd : o.guard = none) (s x : Operand)
    (ho : o.op = .call { callee := .builtin .append,args := #[s,x],argTypes := #[38,38] })
    (base : Nat) (v : Value) (l : List Txt) (hs : a.eval s = v) (hown : Own w base v l) (u : Value) (m : List Txt) (hx : a.eval x = u) (hsrc : Strs w u m)
    (hlen : l.length + m.length <= 8796093022208) (hbase : base <= w.heap.size)
    (h : ∀ v' w',Own w' base v' (l ++ m) -> w.grownBy w' v.ownBlock -> wpList Tryz.prog ops Q rest (a.put o.dst v') w') : wpList Tryz.prog ops Q (o :: rest) a w := by
  obtain ⟨i,hi,hz,hz1,hz2⟩ := info_partsS Tryz.infoStr
  obtain ⟨hrow,hsh,hll⟩ := hown
  have hsm : ∀ t ∈ l ++ m,short t := fun t ht => by
    rcases List.mem_append.1 ht with h | h
    · exact hsh t h
    · exact hsrc.short t h
  have hlm : (l ++ m).length <= 17592186044416 := by rw [List.length_append]; omega
  obtain ⟨ad,c,rfl,hcell,_,_⟩ := hsrc
  cases ad with
  | none =>
    have hm : m = [] := by
      cases m with
      | nil => rfl
      | cons t m => obtain ⟨b,o,e,_⟩ := hcell 0 (by simp); cases e
    subst hm
    refine wpList_append_nil hgd s x _ ho base 9 i 1 c Tryz.underlying38 hi v l.length _ hs hrow hx (h v w ?_ (grown_refl _ _))
    rw [List.append_nil]; exact ⟨hrow,hsh,hll⟩
  | some ad =>
    refine wpList_append_own w hgd s x _ ho base 9 i (.string ⟨#[]⟩) 1 16 Tryz.underlying38 hi hz hz1 hz2 rfl (by decide) v l.length _ hs hrow ad m.length c (m.map encStr) hx (by simp) ?_ (one_strs m) (by unfold maxLen; omega) (by omega) hbase ?_
    · intro j u hu
      rw [List.getElem?_map] at hu
      cases hj : m[j]? with
      | none => rw [hj] at hu; cases hu
      | some t =>
        rw [hj] at hu
        injection hu with hu
        obtain ⟨hlt,ht⟩ := List.getElem?_eq_some_iff.1 hj
        obtain ⟨b,o,e,hc⟩ := hcell j hlt
        injection e with e
        subst e
        show w.cell? ((⟨b,o,none⟩ : Addr).add j) = some u
        rw [show (⟨b,o,none⟩ : Addr).add j = ⟨b,o + j,none⟩ by unfold Addr.add; split <;> simp_all]
        rw [hc,<- hu,ht]; rfl
    · intro v' w' h2 h3 _
      refine h v' w' ⟨?_,hsm,hlm⟩ h3
      rw [List.map_append,List.length_append]; exact h2
/-- Behind an append: what lies elsewhere. -/
theorem own_block {w : World} {base : Nat} {v : Value} {l : List Txt} (h : Own w base v l) : ∀ k,v.ownBlock = some k -> base <= k /\ k < w.heap.size := by
  intro k hk
  rcases h.1.2 with ⟨rfl,_⟩ | ⟨g,cap,cur,rfl,hb,hg,_⟩
  · cases hk
  · have : g = k := by injection hk
    subst this
    refine ⟨hb,?_⟩
    rcases Nat.lt_or_ge g w.heap.size with h | h
    · exact h
    · rw [Array.getElem?_eq_none h] at hg; cases hg
theorem cell_other {w w' : World} {r : Option Nat} (hg : w.grownBy w' r) {p : Addr} {v : Value} (hc : w.cell? p = some v) (hne : ∀ k,r = some k -> p.block ≠ k) : w'.cell? p = some v := by
  have := hg.block p.block (World.block_lt_of_cell? w p hc) (fun e => hne p.block e.symm rfl)
  unfold World.cell? at hc ⊢
  rw [this]; exact hc
theorem Strs.other {w w' : World} {r : Option Nat} {v : Value} {l : List Txt} (h : Strs w v l) (hg : w.grownBy w' r) (hne : ∀ k b o n c,r = some k -> v = .slice (some ⟨b,o,none⟩) n c -> b ≠ k) : Strs w' v l := by
  obtain ⟨a,c,rfl,hc,hl,hs⟩ := h
  refine ⟨a,c,rfl,fun j hj => ?_,hl,hs⟩
  obtain ⟨b,o,rfl,h2⟩ := hc j hj
  exact ⟨b,o,rfl,cell_other hg h2 (fun k hk => hne k b o _ _ hk rfl)⟩
theorem Six.other {w w' : World} {r : Option Nat} {B : Nat} {a b c d e f : Value} (h : Six w B a b c d e f) (hg : w.grownBy w' r) (hne : ∀ k,r = some k -> B ≠ k) : Six w' B a b c d e f :=
  ⟨cell_other hg h.1 hne,cell_other hg h.2.1 hne,cell_other hg h.2.2.1 hne,cell_other hg h.2.2.2.1 hne,cell_other hg h.2.2.2.2.1 hne,cell_other hg h.2.2.2.2.2 hne⟩

/-- A slice with room for what it has. -/
def Capd (v : Value) : Prop := ∀ a n c,v = .slice a n c -> n <= c
theorem Own.capd {w : World} {base : Nat} {v : Value} {l : List Txt} (h : Own w base v l) : Capd v := by
  intro a n c e
  rcases h.1.2 with ⟨rfl,_⟩ | ⟨g,cap,cur,rfl,_,_,hc,_⟩
  · injection e with e1 e2 e3; omega
  · injection e with e1 e2 e3; omega
theorem strs_zero (w : World) (a : Option Addr) (c : Nat) : Strs w (.slice a 0 c) [] := ⟨a,c,rfl,fun j hj => absurd hj (Nat.not_lt_zero _),by simp,by simp⟩
theorem strs_take {w : World} {a : Option Addr} {n c k : Nat} {l : List Txt} (h : Strs w (.slice a n c) l) (hk : k <= n) : Strs w (.slice a k c) (l.take k) := by
  obtain ⟨a',c',e,hc,hl,hs⟩ := h
  injection e with e1 e2 e3
  subst e1 e2 e3
  refine ⟨a,c,by rw [List.length_take,Nat.min_eq_left hk],fun j hj => ?_,by rw [List.length_take]; omega,fun t ht => hs t (List.mem_of_mem_take ht)⟩
  rw [List.length_take] at hj
  obtain ⟨b,o,e,h2⟩ := hc j (by omega)
  exact ⟨b,o,e,by rw [h2,List.getElem_take]⟩
theorem strs_drop {w : World} {b o n c k : Nat} (c' : Nat) {l : List Txt} (h : Strs w (.slice (some ⟨b,o,none⟩) n c) l) : Strs w (.slice (some ⟨b,o + k,none⟩) (n - k) c') (l.drop k) := by
  obtain ⟨a',c'',e,hc,hl,hs⟩ := h
  injection e with e1 e2 e3
  subst e1 e2 e3
  refine ⟨some ⟨b,o + k,none⟩,c',by rw [List.length_drop],fun j hj => ?_,by rw [List.length_drop]; omega,fun t ht => hs t (List.mem_of_mem_drop ht)⟩
  rw [List.length_drop] at hj
  obtain ⟨b',o',e,h2⟩ := hc (k + j) (by omega)
  injection e with e
  injection e with e4 e5
  subst e4 e5
  exact ⟨b,o + k,rfl,by rw [Nat.add_assoc,h2,List.getElem_drop]⟩
theorem strs_one {w : World} {t : Txt} (T : TypeId) (ht : short t) : Strs (w.alloc (.cells #[.string (bytesT t)] T)) (.slice (some ⟨w.heap.size,0,none⟩) 1 1) [t] :=
  ⟨some ⟨w.heap.size,0,none⟩,1,rfl,fun j hj => by
    match j,hj with
    | 0,_ => exact ⟨w.heap.size,0,rfl,by simp [go_sem]⟩,by simp,fun u hu => by
    simp at hu; rw [hu]; exact ht⟩

theorem none_below {w w' : World} (h : w.grownBy w' none) : Below w.heap.size w w' := (Below.refl _ _).grown h (Nat.le_refl _) (fun k hk => by cases hk)
theorem own_grow {w W W1 : World} {v : Value} {l : List Txt} (hb : Below w.heap.size w W) (ho : Own W w.heap.size v l) (hg : W.grownBy W1 v.ownBlock) : Below w.heap.size w W1 := hb.grown hg hb.size (fun k hk => (own_block ho k hk).1)

end Go.Proofs.YtfpfdnapamdhjaaGreatDoor

/- Layer 3: texts of the call's own,written over. -/
namespace Go.Proofs.YtfpfdnapamdhjaaGreatDoor
open Go.RowKit Suf Val Go.Maps

theorem Own.val {w : World} {base : Nat} {v : Value} {l : List Txt} (h : Own w base v l) : (v = .slice none 0 0 /\ l = []) ∨ ∃ g c,v = .slice (some ⟨g,0,none⟩) l.length c /\ base <= g /\ g < w.heap.size := by
  have hb := own_block h
  rcases h.1.2 with ⟨rfl,hn⟩ | ⟨g,cap,cur,rfl,hg,_⟩
  · exact Or.inl ⟨rfl,List.eq_nil_of_length_eq_zero hn⟩
  · exact Or.inr ⟨g,cap,rfl,hg,(hb g rfl).2⟩
theorem Own.cellAt {w : World} {base g c : Nat} {l : List Txt} (h : Own w base (.slice (some ⟨g,0,none⟩) l.length c) l) {j : Nat} (hj : j < l.length) : w.cell? ⟨g,j,none⟩ = some (.string (bytesT l[j])) := by
  rw [h.1.cellAt j (by omega),List.getElem?_map,List.getElem?_eq_getElem hj]; rfl
end Go.Proofs.YtfpfdnapamdhjaaGreatDoor
