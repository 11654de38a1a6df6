/- Layer 3: sets of texts as maps; contracts of gathered,has of a map,rising,take. -/
import Derived.Test.YtfpfdnapamdhjaaGreatDoorV3EGZ
import Derived.Maps.OwnSet
import Derived.Maps.RangeWalk
import Derived.Sort.OwnSorted
import Derived.Sort.KeysCollected
namespace Go.Proofs.YtfpfdnapamdhjaaGreatDoor
open Go.RowKit Suf Val Go.Maps

theorem law : Keyed Tryz.prog 9 := string_keyed Tryz.underlying9
theorem zeroU (w : World) : (zeroValue 231).run Tryz.prog w = .ok (.agg #[]) w := by kernel_rfl
/-- A map whose keys are just the texts of a list. -/
def Keys (w : World) (b : Nat) (l : List Txt) : Prop :=
  ∃ (n : Nat) (D : DataW Unit),w.ownsMap Tryz.prog 9 (unitElem (H := Unit)) b n D /\ (∀ x,Maps.has D (.string x) = true ↔ x ∈ l) /\ l.length <= 70368744177664 /\ ∀ t ∈ l,short t
theorem own_size {w : World} {b n : Nat} {D : DataW Unit} (h : w.ownsMap Tryz.prog 9 (unitElem (H := Unit)) b n D) : w.ownsMap Tryz.prog 9 (unitElem (H := Unit)) b (Maps.size D) D := by
  obtain ⟨es,clock,hb,hf,hn,hD⟩ := h
  refine ⟨es,clock,hb,hf,?_,hD⟩
  rw [hD,size_eq,length_read]; exact Nat.le_refl _
theorem keys_perm {w : World} {b n : Nat} {D : DataW Unit} {l : List Txt} (h : w.ownsMap Tryz.prog 9 (unitElem (H := Unit)) b n D) (hm : ∀ x,Maps.has D (.string x) = true ↔ x ∈ l) : (rising l).Perm (strKeys D) := by
  obtain ⟨es,hD,hpw,_⟩ := h.entries law
  obtain ⟨es',hD',hko⟩ := h.keysOf
  obtain rfl : es = es' := by rw [hD] at hD'; simpa using hD'
  subst hD
  exact perm_strKeys hpw (fun p hp => by obtain ⟨v,hv⟩ := hko p hp; obtain ⟨x,_,hx,_⟩ := Maps.keyOf_str Tryz.underlying9 hv; exact ⟨x,hx⟩) (up_nodup (up_rising l)) (fun x => by rw [mem_rising]; exact (hm x).symm)
theorem keys_size {w : World} {b n : Nat} {D : DataW Unit} {l : List Txt} (h : w.ownsMap Tryz.prog 9 (unitElem (H := Unit)) b n D) (hm : ∀ x,Maps.has D (.string x) = true ↔ x ∈ l) : Maps.size D = (rising l).length := by
  rw [(keys_perm h hm).length_eq]
  obtain ⟨es,hD,_⟩ := h.entries law
  subst hD
  rw [size_eq]; unfold strKeys; rw [List.length_map]
theorem rising_le (l : List Txt) : (rising l).length <= l.length := nodup_len (up_nodup (up_rising l)) fun x hx => (mem_rising l x).1 hx
theorem key_of {x : Txt} (h : short x) : keyOf Tryz.prog 9 (.string (bytesT x)) = some (.string x) := Go.WideMaps.keyOf_string_mk Tryz.underlying9 (short_max h)
theorem Keys.congr {w : World} {b : Nat} {l m : List Txt} (h : Keys w b l) (he : ∀ x,x ∈ l ↔ x ∈ m) (hm : m.length <= 70368744177664) : Keys w b m := by
  obtain ⟨n,D,ho,hD,hl,hs⟩ := h
  exact ⟨n,D,ho,fun x => (hD x).trans (he x),hm,fun t ht => hs t ((he t).2 ht)⟩
theorem Keys.lt {w : World} {b : Nat} {l : List Txt} (h : Keys w b l) : b < w.heap.size := by obtain ⟨n,D,ho,_⟩ := h; exact ho.lt
theorem Keys.kept {w w' : World} {b : Nat} {row : Option Nat} {l : List Txt} (h : Keys w b l) (hg : w.grownBy w' row) (hne : some b ≠ row) : Keys w' b l := by
  obtain ⟨n,D,ho,h2⟩ := h; exact ⟨n,D,ho.kept hg hne,h2⟩
theorem below_grownBy {w w' : World} (h : Below w.heap.size w w') : w.grownBy w' none := ⟨h.os,h.tape,h.output,h.size,fun i hi _ => h.block i hi⟩
theorem Keys.below {w w' : World} {b : Nat} {l : List Txt} (h : Keys w b l) (hb : Below w.heap.size w w') : Keys w' b l := h.kept (below_grownBy hb) (by simp)
theorem Keys.short {w : World} {b : Nat} {l : List Txt} (h : Keys w b l) : ∀ t ∈ l,short t := by obtain ⟨n,D,ho,_,_,hs⟩ := h; exact hs
theorem keys_new (w : World) : Keys (w.alloc (.map #[] 0)) w.heap.size [] := ⟨0,_,World.ownsMap_made _ _ _ _,fun x => by simp [has_eq],by simp,by simp⟩
theorem put_has {D : DataW Unit} {l : List Txt} (hD : IsMap D) (h : ∀ x,Maps.has D (.string x) = true ↔ x ∈ l) (t : Txt) (d : DataW Unit) (x : Txt) : Maps.has (D.put (.string t) d) (.string x) = true ↔ x ∈ l ++ [t] := by
  by_cases e : x = t
  · subst e; rw [has_put_same hD (show WideAt.IsKeyLit (.string x) from trivial)]; simp
  · rw [has_put_other (fun c => e (by injection c)),h x]; simp [e]
theorem del_has {D : DataW Unit} {l : List Txt} (h : ∀ x,Maps.has D (.string x) = true ↔ x ∈ l) (t : Txt) (x : Txt) : Maps.has (D.del (.string t)) (.string x) = true ↔ x ∈ l.filter (fun y => !(y == t)) := by
  by_cases e : x = t
  · subst e; rw [has_del_same]; simp
  · rw [has_del_other (fun c => e (by injection c)),h x]; simp [e]

set_option maxHeartbeats 1000000 in
theorem mapHas_any (b : Nat) (l : List Txt) (x : Txt) (w : World) (hk : Keys w b l) (hx : short x) :
    Calls Tryz.prog 197 #[.map (some b),.string (bytesT x)] w fun e w' => e = .returned (.bool (l.contains x)) /\ Below w.heap.size w w' := by
  obtain ⟨n,D,ho,hD,_⟩ := hk
  have hq : Hid (Maps.has D (.string x) = l.contains x) := by
    show _ = _; rw [Bool.eq_iff_iff,hD x]; simp
  obtain ⟨q,hqq⟩ : ∃ q,q = l.contains x := ⟨_,rfl⟩
  rw [<- hqq] at hq ⊢
  have hkey := hide (key_of hx)
  have HO := hide ho
  obtain ⟨X,hX⟩ : ∃ X,X = bytesT x := ⟨_,rfl⟩
  rw [<- hX] at hkey ⊢
  clear hqq hx hX hD ho
  have hzu := zeroU
  go_enter Tryz.func197,Tryz.ntmps197
  go_wp2_with (at_lookup; refine wpList_lookup_own_unit _ rfl _ _ 219 rfl 9 231 law Tryz.underlying219 (zeroU _) b n D rfl (unhide HO) _ _ rfl (unhide hkey) ?_; rw [unhide hq])
  go_ret
  exact ⟨rfl,box_below _⟩

end Go.Proofs.YtfpfdnapamdhjaaGreatDoor

/- Layer 3: contracts of gathered,rising,take. -/
namespace Go.Proofs.YtfpfdnapamdhjaaGreatDoor
open Go.RowKit Suf Val Go.Maps

/-- Lists of texts,one behind the other in memory: each a slice and what it holds. -/
def Lists (w : World) (B : Nat) (ls : List (Value × List Txt)) : Prop := ∀ i (h : i < ls.length),w.cell? ⟨B,i,none⟩ = some ls[i].1 /\ Strs w ls[i].1 ls[i].2
theorem Lists.below {w w' : World} {B : Nat} {ls : List (Value × List Txt)} (h : Lists w B ls) (hb : Below w.heap.size w w') : Lists w' B ls := fun i hi => ⟨cell_kept hb (h i hi).1,(h i hi).2.below hb⟩
def joined (ls : List (Value × List Txt)) : List Txt := ls.flatMap (·.2)
theorem joined_next (ls : List (Value × List Txt)) (i : Nat) (h : i < ls.length) : joined (ls.take (i + 1)) = joined (ls.take i) ++ ls[i].2 := by
  unfold joined; rw [List.take_add_one,List.getElem?_eq_getElem h,List.flatMap_append]; simp
theorem joined_len (ls : List (Value × List Txt)) (i : Nat) : (joined (ls.take i)).length <= (joined ls).length := by
  have : joined ls = joined (ls.take i) ++ joined (ls.drop i) := by unfold joined; rw [<- List.flatMap_append,List.take_append_drop]
  rw [this,List.length_append]; omega
theorem take_next (l : List Txt) (k : Nat) (h : k < l.length) : l.take (k + 1) = l.take k ++ [l[k]] := by
  rw [List.take_add_one,List.getElem?_eq_getElem h]; rfl
theorem grown_below {w W W1 : World} {b : Nat} (h : Below w.heap.size w W) (hg : W.grownBy W1 (some b)) (hb : w.heap.size <= b) : Below w.heap.size w W1 := h.grown hg h.size (fun k hk => by cases hk; exact hb)
theorem Keys.put {W W1 : World} {b n : Nat} {D : DataW Unit} {l : List Txt} {t : Txt} (ho : W.ownsMap Tryz.prog 9 (unitElem (H := Unit)) b n D) (hD : ∀ x,Maps.has D (.string x) = true ↔ x ∈ l) (hl : l.length < 70368744177664) (hs : ∀ t ∈ l,Go.Proofs.YtfpfdnapamdhjaaGreatDoor.short t) (ht : Go.Proofs.YtfpfdnapamdhjaaGreatDoor.short t)
    (h1 : W1.ownsMap Tryz.prog 9 (unitElem (H := Unit)) b (Maps.size D + 1) (D.put (.string t) (.agg []))) : Keys W1 b (l ++ [t]) :=
  ⟨_,_,h1,put_has ho.isMap hD t _,by rw [List.length_append]; simp; omega,fun u hu => by
    rcases List.mem_append.1 hu with h | h
    · exact hs u h
    · simp at h; subst h; exact ht⟩

set_option maxRecDepth 100000 in
set_option maxHeartbeats 4000000 in
theorem gathered_any (B : Nat) (ls : List (Value × List Txt)) (w : World) (hls : Lists w B ls) (hj : (joined ls).length <= 70368744177664) (hn : ls.length <= 1000) :
    Calls Tryz.prog 174 #[.slice (some ⟨B,0,none⟩) ls.length ls.length] w fun e w' => ∃ b,e = .returned (.map (some b)) /\ Keys w' b (joined ls) /\ w.heap.size <= b /\ Below w.heap.size w w' := by
  have HLS := hide hls
  have HJ := hide1 hj
  clear hls hj
  obtain ⟨m,hm⟩ : ∃ m,m = ls.length := ⟨_,rfl⟩
  rw [<- hm] at hn ⊢
  have HM := hide hm
  clear hm
  have hmm := @run_makeMap Tryz.prog
  go_enter Tryz.func174,Tryz.ntmps174
  go_wp2_with fail
  go_loopw [11] (fun i W => ∃ k : Nat,k <= m /\ i = .int .i64 k /\ Hid (Below w.heap.size w W) /\ Hid (Keys W w.heap.size (joined (ls.take k)))) (fun i _ => m - (intOf i).toNat)
  case atStart => exact ⟨0,Nat.zero_le _,rfl,box_below _,keys_new w⟩
  case round =>
    obtain ⟨k,hk,rfl,hbel,hkeys⟩ := hrel
    by_cases hlt : k < m
    · have hlk : k < ls.length := by rw [<- unhide HM]; exact hlt
      obtain ⟨hc0,hst⟩ := unhide HLS k hlk
      have hc := cell_kept (unhide hbel) hc0
      clear hc0
      obtain ⟨v,hv⟩ : ∃ v,v = ls[k].1 := ⟨_,rfl⟩
      obtain ⟨l,hl⟩ : ∃ l,l = ls[k].2 := ⟨_,rfl⟩
      rw [<- hv] at hc hst
      rw [<- hl] at hst
      have hjn : Hid (joined (ls.take (k + 1)) = joined (ls.take k) ++ l) := by
        show _ = _; rw [hl]; exact joined_next ls k hlk
      have hjl : Hid (Unit -> (joined (ls.take (k + 1))).length <= 70368744177664) := hide1 (Nat.le_trans (joined_len ls (k + 1)) (unhide1 HJ))
      obtain ⟨pre,hpre⟩ : ∃ pre,pre = joined (ls.take k) := ⟨_,rfl⟩
      rw [<- hpre] at hjn hkeys
      clear hpre hv hl hlk
      have hlen := hst.len
      have HS := hide hst.short
      rcases hst.open with ⟨a,c,rfl,rfl⟩ | ⟨b,o,c,hpos,rfl,hcell⟩
      · clear hst
        go_wp2_with fail
        go_loop [17] (fun i => i = .int .i64 0) (fun _ => 0)
        case atStart => rfl
        case round =>
          subst hrel
          go_wp2_with fail
          go_roundw
          case rel => exact ⟨k + 1,by omega,by go_num,hbel,by show Keys _ _ _; rw [unhide hjn,List.append_nil]; exact unhide hkeys⟩
          case measure => simp [intOf]; omega
      · have HC := hide hcell
        clear hst hcell
        obtain ⟨n,hnn⟩ : ∃ n,n = l.length := ⟨_,rfl⟩
        rw [<- hnn] at hlen hpos hc
        have HN := hide hnn
        clear hnn
        go_wp2_with fail
        go_loopw [17] (fun i W => ∃ j : Nat,j <= n /\ i = .int .i64 j /\ Hid (Below w.heap.size w W) /\ Hid (Keys W w.heap.size (pre ++ l.take j))) (fun i _ => n - (intOf i).toNat)
        case atStart => exact ⟨0,Nat.zero_le _,rfl,hbel,by show Keys _ _ _; rw [List.take_zero,List.append_nil]; exact unhide hkeys⟩
        case round =>
          clear hbel hkeys hc
          obtain ⟨j,hj,rfl,hbel,hkeys⟩ := hrel
          by_cases hlt2 : j < n
          · have hlj : j < l.length := by rw [<- unhide HN]; exact hlt2
            have hc := cell_kept (unhide hbel) (unhide HC j hlj)
            have hst : Hid (short l[j]) := unhide HS _ (List.getElem_mem hlj)
            have htk := hide (take_next l j hlj)
            have hpl : Hid (Unit -> (pre ++ l.take j).length < 70368744177664) := hide1 (by
              have h1 := unhide1 hjl
              rw [unhide hjn,List.length_append] at h1
              rw [List.length_append,List.length_take]
              omega)
            obtain ⟨t,ht⟩ : ∃ t,t = l[j] := ⟨_,rfl⟩
            rw [<- ht] at hc hst htk
            clear ht hlj
            obtain ⟨X,hX⟩ : ∃ X,X = bytesT t := ⟨_,rfl⟩
            have hkey := hide (key_of (unhide hst))
            rw [<- hX] at hkey hc
            clear hX
            obtain ⟨n0,D,ho0,hD,hll,hss⟩ := unhide hkeys
            have ho := hide (own_size ho0)
            have hD1 := hide hD
            have hss1 := hide hss
            have hsz : Hid (Maps.size D < maxLen) := by
              show _ < _
              have := unhide1 hpl
              rw [keys_size ho0 hD]
              exact Nat.lt_of_le_of_lt (rising_le _) (Nat.lt_trans this (by decide))
            clear ho0 hD hll hss hkeys
            go_wp2_with (at_mapUpdate; refine wpList_mapUpdate_own _ rfl _ _ _ 219 rfl 9 231 law Tryz.underlying219 (unitElem (H := Unit)) w.heap.size (Maps.size D) D rfl (unhide ho) (unhide hsz) _ _ _ rfl rfl (unhide hkey) _ [] unitElem_mk ?_; intro w1 hown1 hgrow1)
            have hk1 : Hid (Keys w1 w.heap.size (pre ++ l.take (j + 1))) := by
              show Keys _ _ _
              rw [unhide htk,<- List.append_assoc]
              exact Keys.put (unhide ho) (unhide hD1) (unhide1 hpl) (unhide hss1) (unhide hst) hown1
            have hb1 := hide (grown_below (unhide hbel) hgrow1 (Nat.le_refl _))
            clear hown1 hgrow1 hc
            go_roundw
            case rel => exact ⟨j + 1,by omega,by go_num,hb1,hk1⟩
            case measure => simp [intOf]; omega
          · obtain rfl : j = n := by omega
            have hk1 : Hid (Keys wr w.heap.size (joined (ls.take (k + 1)))) := by
              show Keys _ _ _
              have := unhide hkeys
              rw [List.take_of_length_le (by rw [<- unhide HN]; exact Nat.le_refl _)] at this
              rw [unhide hjn]; exact this
            clear hkeys
            go_wp2_with fail
            go_roundw
            case rel => exact ⟨k + 1,by omega,by go_num,hbel,hk1⟩
            case measure => simp [intOf]; omega
    · obtain rfl : k = m := by omega
      go_wp2_with fail
      go_ret
      refine ⟨w.heap.size,rfl,?_,Nat.le_refl _,unhide hbel⟩
      have := unhide hkeys
      rw [List.take_of_length_le (by rw [<- unhide HM]; exact Nat.le_refl _)] at this
      exact this

end Go.Proofs.YtfpfdnapamdhjaaGreatDoor

/- Layer 3: contracts of rising,take,list,allBut. -/
namespace Go.Proofs.YtfpfdnapamdhjaaGreatDoor
open Go.RowKit Suf Val Go.Maps

theorem lt_le {a b : Txt} (h : lt a b = true) : decide (a <= b) = true := by
  unfold lt at h
  rw [Go.Proofs.bytesLess_eq,decide_eq_true_eq] at h
  exact decide_eq_true (List.le_of_lt h)
theorem sorted_rising {ss l : List Txt} (h : (rising l).Perm ss) : ss.mergeSort (fun x y => decide (x <= y)) = rising l := by
  have e : ss.mergeSort leB = (rising l).mergeSort leB := mergeSort_of_perm h.symm
  have e2 : (rising l).mergeSort leB = rising l := List.mergeSort_of_pairwise ((up_rising l).imp fun h => lt_le h)
  exact e.trans e2
/-- A list of texts in memory of the call's own. -/
def Own (w : World) (base : Nat) (v : Value) (l : List Txt) : Prop := w.ownsRow base 9 1 v l.length (l.map encStr) /\ (∀ t ∈ l,short t) /\ l.length <= 17592186044416
theorem enc_bytes (t : Txt) : encStr t = .string (bytesT t) := rfl
theorem Own.strs {w : World} {base : Nat} {v : Value} {l : List Txt} (h : Own w base v l) : Strs w v l := by
  obtain ⟨⟨_,h1⟩,hs,hl⟩ := h
  rcases h1 with ⟨rfl,hn⟩ | ⟨g,cap,cur,rfl,hb,hg,hc,_,hz,ht⟩
  · obtain rfl : l = [] := by cases l with | nil => rfl | cons a l => simp at hn
    exact ⟨none,0,rfl,fun j hj => absurd hj (Nat.not_lt_zero _),by simp,by simp⟩
  · refine ⟨some ⟨g,0,none⟩,cap,rfl,fun j hj => ⟨g,0,rfl,?_⟩,hl,hs⟩
    rw [Nat.mul_one] at ht hz
    have hcur : j < cur.size := by omega
    have e : (cur.toList.take l.length)[j]? = some (encStr l[j]) := by rw [ht,List.getElem?_map,List.getElem?_eq_getElem hj]; rfl
    rw [List.getElem?_take_of_lt hj] at e
    rw [Nat.zero_add]
    unfold World.cell?
    simp only [hg]
    rw [<- enc_bytes,<- e]
    simp
theorem Own.mono {w : World} {base base' : Nat} {v : Value} {l : List Txt} (h : Own w base v l) (hb : base' <= base) : Own w base' v l := by
  obtain ⟨⟨h0,h1⟩,hs,hl⟩ := h
  refine ⟨⟨h0,?_⟩,hs,hl⟩
  rcases h1 with h1 | ⟨g,cap,cur,e,hg,h2⟩
  · exact Or.inl h1
  · exact Or.inr ⟨g,cap,cur,e,Nat.le_trans hb hg,h2⟩
theorem Own.below {w w' : World} {base : Nat} {v : Value} {l : List Txt} (h : Own w base v l) (hb : Below w.heap.size w w') : Own w' base v l := ⟨h.1.kept (below_grownBy hb) (by
    cases hv : v.ownBlock with
    | none => exact Or.inl rfl
    | some b => exact Or.inr (by simp)),h.2⟩

set_option maxHeartbeats 1000000 in
theorem rising_any (b : Nat) (l : List Txt) (w : World) (hk : Keys w b l) (hn : (rising l).length <= 1000) :
    Calls Tryz.prog 185 #[.map (some b)] w fun e w' => ∃ v,e = .returned v /\ Own w' w.heap.size v (rising l) /\ Below w.heap.size w w' := by
  obtain ⟨n,D,ho,hD,hl,hs⟩ := hk
  have hp := keys_perm ho hD
  have hz := keys_size ho hD
  have cK := Tryz.maps_Keys_196 (some b) w
  have cS := Tryz.slices_Sorted_keys_195_196 b n D (unitElem (H := Unit)) w ho (by rw [hz]; exact Nat.le_trans hn (by decide)) (by rw [hz]; omega)
  have hfK : Fence.wide.fn 196 := trivial
  have hfS : Fence.wide.fn 195 := trivial
  have HS := hide hs
  have HP := hide hp
  have HN := hide hn
  clear ho hD hl hs hz hp hn
  refine (callsIn_wide (n := 6)).1 ?_
  refine callsIn_of_wp Tryz.func185 rfl trivial ?_ rfl
  simp only [Tryz.ntmps185,List.size_toArray,List.length_cons,List.length_nil,Nat.reduceAdd,Nat.reduceSub,Array.replicate_succ,Array.replicate_zero,List.push_toArray,List.append_toArray,List.nil_append,List.cons_append]
  gi_wp2_with (first
    | (gi_at_call 196; refine cK.mono ?_; rintro e w' ⟨rfl,rfl⟩)
    | (gi_at_call 195; refine cS.mono ?_; rintro e w' ⟨v,ss,rfl,hS,hrow,hnil,hb⟩))
  go_ret
  have e := sorted_rising ((unhide HP).trans hS.symm)
  have e2 : ss.length = (rising l).length := (hS.trans (unhide HP).symm).length_eq
  rw [e,e2] at hrow
  refine ⟨v,rfl,Own.mono (base := (w.alloc (.cells #[.map (some b)] 219)).heap.size) ⟨hrow,fun t ht => unhide HS t ((mem_rising l t).1 ht),by have := unhide HN; omega⟩ (by simp),chain (box_below _) hb⟩

/-- What is no map stays while a map turns. -/
theorem Keys.isMap {w : World} {b : Nat} {l : List Txt} (h : Keys w b l) : ∃ es c,w.heap[b]? = some (.map es c) := by
  obtain ⟨n,D,⟨es,c,hb,_⟩,_⟩ := h; exact ⟨es,c,hb⟩
theorem cell_turn {w w' : World} {b : Nat} {l : List Txt} (hk : Keys w b l) (hg : w.grownBy w' (some b)) {p : Addr} {v : Value} (hc : w.cell? p = some v) : w'.cell? p = some v := by
  obtain ⟨es,c,hb⟩ := hk.isMap
  have hne : p.block ≠ b := fun e => by subst e; unfold World.cell? at hc; simp [hb] at hc
  have := hg.block p.block (World.block_lt_of_cell? w p hc) (fun e => hne (by injection e))
  unfold World.cell? at hc ⊢
  rw [this]; exact hc
theorem Laid.turn {w w' : World} {b : Nat} {l : List Txt} (h : Laid w) (hk : Keys w b l) (hg : w.grownBy w' (some b)) : Laid w' := by
  have ha := h.at
  obtain ⟨⟨v,h1,g1⟩,⟨u,h2,g2⟩,h3⟩ := h
  refine ⟨⟨v,cell_turn hk hg h1,g1⟩,⟨u,cell_turn hk hg h2,g2⟩,?_⟩
  obtain ⟨es,c,hb⟩ := hk.isMap
  unfold Lib.TabIs World.var? at h3 ⊢
  simp only [gPow,Option.bind_some] at h3 ⊢
  have hne : 3 ≠ b := fun e => by subst e; rw [hb] at h3; simp at h3
  rw [hg.block _ ha (fun e => hne (by injection e))]; exact h3
theorem Strs.turn {w w' : World} {b : Nat} {l m : List Txt} {v : Value} (h : Strs w v m) (hk : Keys w b l) (hg : w.grownBy w' (some b)) : Strs w' v m := by
  obtain ⟨a,c,e,hc,hl,hs⟩ := h
  exact ⟨a,c,e,fun j hj => by obtain ⟨b,o,e2,h2⟩ := hc j hj; exact ⟨b,o,e2,cell_turn hk hg h2⟩,hl,hs⟩
theorem short_dec (z : Int) (h0 : -4294967296 <= z) (h1 : z <= 4294967296) : short (decZ z) := by
  have := decFuel_len 20 z.natAbs 10 (Nat.lt_of_le_of_lt (show z.natAbs <= 4294967296 by omega) (by decide)) (by omega)
  unfold short decZ dec
  split
  · rw [List.length_cons]; omega
  · omega

set_option maxHeartbeats 1000000 in
theorem take_any (b : Nat) (l : List Txt) (z : Int) (w : World) (hk : Keys w b l) (hL : Laid w) (h0 : -4294967296 <= z) (h1 : z <= 4294967296) :
    Calls Tryz.prog 189 #[.map (some b),.int .i64 z] w fun e w' => e = .returned (.bool (l.contains (decZ z))) /\ Keys w' b (l.filter fun y => !(y == decZ z)) /\ w.grownBy w' (some b) := by
  have HK := hide hk
  have HL := hide hL
  have H0 := hide1 (show -9223372036854775808 <= z by omega)
  have H1 := hide1 (show z <= 9223372036854775807 by omega)
  have HS := hide (short_dec z h0 h1)
  clear hk hL h0 h1
  obtain ⟨q,hq⟩ : ∃ q,q = l.contains (decZ z) := ⟨_,rfl⟩
  rw [<- hq]
  have hQ := hide hq
  clear hq
  obtain ⟨X,hX⟩ : ∃ X,X = bytesT (decZ z) := ⟨_,rfl⟩
  have GX := hide hX
  have hkey := hide (key_of (unhide HS))
  rw [<- hX] at hkey
  clear hX
  go_enter Tryz.func189,Tryz.ntmps189
  go_wp2_with fail
  refine (text_any z _ (unhide1 H0) (unhide1 H1) (unhide HL)).mono ?_
  rintro e w1 ⟨he,hw1⟩
  rw [show (ByteArray.mk (decZ z).toArray) = X from (unhide GX).symm] at he
  subst he
  have HB1 := hide hw1
  clear hw1
  go_wp2_with fail
  rw [unhide GX]
  refine (mapHas_any b l (decZ z) _ ((unhide HK).below (unhide HB1)) (unhide HS)).mono ?_
  rintro e w2 ⟨he,hw2⟩
  rw [<- unhide hQ] at he
  subst he
  rw [<- unhide GX]
  have HB2 := hide (chain (unhide HB1) hw2)
  clear hw2 HB1
  obtain ⟨n,D,ho,hD,hl,hs⟩ := (unhide HK).below (unhide HB2)
  have HO := hide ho
  have HD := hide hD
  have HLL := hide1 hl
  have HSS := hide hs
  clear ho hD hl hs
  go_wp2_with (at_delete; refine wpList_delete_own _ rfl _ _ 219 9 rfl 231 law Tryz.underlying219 (unitElem (H := Unit)) b n D rfl (unhide HO) _ _ rfl (unhide hkey) ?_; intro w3 hown3 hturn3)
  have HK3 : Hid (Keys w3 b (l.filter fun y => !(y == decZ z))) := ⟨_,_,hown3,del_has (unhide HD) (decZ z),Nat.le_trans (List.length_filter_le _ _) (unhide1 HLL),fun t ht => unhide HSS t (List.mem_filter.1 ht).1⟩
  have HG := hide (((below_grownBy (unhide HB2)).but (some b)).trans hturn3.grown)
  clear hown3 hturn3
  go_wp2_with fail
  go_ret
  exact ⟨rfl,unhide HK3,unhide HG⟩
end Go.Proofs.YtfpfdnapamdhjaaGreatDoor

/- Layer 3: contracts of list,allBut. -/
namespace Go.Proofs.YtfpfdnapamdhjaaGreatDoor
open Go.RowKit Suf Val Go.Maps

theorem set_grown (W : World) (b o : Nat) (v : Value) : W.grownBy (W.setCell ⟨b,o,none⟩ v) (some b) :=
  ⟨rfl,rfl,rfl,by simp,fun k _ hk => Below.heap_setCell _ _ _ k (fun e => hk (by rw [e]))⟩
def put6 (w : World) (B : Nat) (a b c d e f : Value) : World := (((((w.setCell ⟨B,0,none⟩ a).setCell ⟨B,1,none⟩ b).setCell ⟨B,2,none⟩ c).setCell ⟨B,3,none⟩ d).setCell ⟨B,4,none⟩ e).setCell ⟨B,5,none⟩ f
theorem put6_grown (w : World) (B : Nat) (a b c d e f : Value) : w.grownBy (put6 w B a b c d e f) (some B) :=
  (((((set_grown w B 0 a).trans (set_grown _ B 1 b)).trans (set_grown _ B 2 c)).trans (set_grown _ B 3 d)).trans (set_grown _ B 4 e)).trans (set_grown _ B 5 f)
/-- Where a set that is told will lie: all zero,free to be written. -/
def Slot (w : World) (B : Nat) : Prop := Six w B (.bool false) (.bool false) (.bool false) (.slice none 0 0) (.int .i64 0) (.int .i64 0) /\ (∀ o,w.frozen? ⟨B,o,none⟩ = false) /\ B < w.heap.size
theorem Slot.below {w w' : World} {B : Nat} (h : Slot w B) (hb : Below w.heap.size w w') : Slot w' B := ⟨h.1.below hb,fun o => by rw [hb.frozen (p := ⟨B,o,none⟩) h.2.2]; exact h.2.1 o,Nat.lt_of_lt_of_le h.2.2 hb.size⟩
theorem slot_new (w : World) (t : TypeId) : Slot (w.alloc (.cells #[.bool false,.bool false,.bool false,.slice none 0 0,.int .i64 0,.int .i64 0] t)) w.heap.size :=
  ⟨six_new _ _ _ _ _ _ _ _,fun o => by simp [go_sem],by simp⟩
theorem Own.grown {w w' : World} {base B : Nat} {v : Value} {l : List Txt} (h : Own w base v l) (hg : w.grownBy w' (some B)) (hB : B < base) : Own w' base v l := ⟨h.1.kept hg (by
    rcases h.1.2 with ⟨rfl,_⟩ | ⟨g,cap,cur,rfl,hb,_⟩
    · exact Or.inl rfl
    · exact Or.inr (fun e => by
        have e2 : g = B := by injection e
        omega)),h.2⟩
theorem put6_below {w w1 : World} {B : Nat} (a b c d e f : Value) (h : Below w.heap.size w w1) (hB : w.heap.size <= B) : Below w.heap.size w (put6 w1 B a b c d e f) := grown_below h (put6_grown _ _ _ _ _ _ _ _) hB
/-- A set that is told: its fields,and the list of its own. -/
def told (s : VSet) (v : Value) : Value := .agg #[.bool s.miss,.bool s.no,.bool s.num,v,.int .i64 s.lo,.int .i64 s.hi]

set_option maxHeartbeats 1000000 in
theorem list_any (miss : Bool) (b : Nat) (l : List Txt) (w : World) (hk : Keys w b l) (hn : (rising l).length <= 1000) :
    Calls Tryz.prog 173 #[.bool miss,.map (some b)] w fun e w' => ∃ v,e = .returned (.agg #[.bool miss,.bool false,.bool false,v,.int .i64 0,.int .i64 0]) /\ Own w' w.heap.size v (rising l) /\ Below w.heap.size w w' := by
  have HK := hide hk
  have HN := hide hn
  clear hk hn
  go_enter Tryz.func173,Tryz.ntmps173
  go_wp2_with fail
  refine (rising_any b l _ ((unhide HK).below (box_below _)) (unhide HN)).mono ?_
  rintro e w1 ⟨v,rfl,hown,hw1⟩
  obtain ⟨a,c,rfl⟩ := hown.strs.val
  obtain ⟨hsix,hf,_⟩ := (slot_new w 199).below hw1
  obtain ⟨k0,k1,k2,k3,k4,k5⟩ := hsix
  have HB := hide (chain (box_below _) hw1)
  have HO := hide hown
  obtain ⟨n,hn⟩ : ∃ n,n = (rising l).length := ⟨_,rfl⟩
  rw [<- hn] at HO ⊢
  clear hw1 hown hn
  go_wp2_with fail
  exact bodyPost_ret (v := .agg #[.bool miss,.bool false,.bool false,.slice a n c,.int .i64 0,.int .i64 0]) (by simp [results,Tryz.results173,go_sem,k0,k1,k2,k3,k4,k5]) rfl
    ⟨_,rfl,((unhide HO).grown (put6_grown w1 w.heap.size _ _ _ _ _ _) (by simp)).mono (by simp),put6_below _ _ _ _ _ _ (unhide HB) (Nat.le_refl _)⟩

set_option maxHeartbeats 1000000 in
theorem allBut_any (miss : Bool) (b : Nat) (l : List Txt) (w : World) (hk : Keys w b l) (hn : (rising l).length <= 1000) :
    Calls Tryz.prog 175 #[.bool miss,.map (some b)] w fun e w' =>
      (64 < (rising l).length /\ e = .returned (.tuple #[.agg #[.bool false,.bool false,.bool false,.slice none 0 0,.int .i64 0,.int .i64 0],.int .i64 3]) /\ Below w.heap.size w w')
      ∨ ((rising l).length <= 64 /\ ∃ v,e = .returned (.tuple #[.agg #[.bool miss,.bool true,.bool false,v,.int .i64 0,.int .i64 0],.int .i64 0]) /\ Own w' w.heap.size v (rising l) /\ Below w.heap.size w w') := by
  have HK := hide hk
  have HN := hide hn
  obtain ⟨n0,D,ho,hD,_⟩ := hk.below (box_below (.cells #[.bool false,.bool false,.bool false,.slice none 0 0,.int .i64 0,.int .i64 0] 199))
  have HO := hide ho
  have hz := keys_size ho hD
  obtain ⟨m,hm⟩ : ∃ m,m = (rising l).length := ⟨_,rfl⟩
  rw [<- hm] at hz hn ⊢
  have HZ := hide hz
  have HM := hide hm
  clear hk ho hD hz hm
  by_cases h64 : 64 < m
  · have hi : 64 < (m : Int) := by omega
    go_enter Tryz.func175,Tryz.ntmps175
    go_wp2_with (at_len; refine wpList_len_own _ rfl _ 219 rfl 9 231 Tryz.underlying219 (unitElem (H := Unit)) b n0 D rfl (unhide HO) ?_; rw [unhide HZ])
    exact bodyPost_ret (v := .tuple #[.agg #[.bool false,.bool false,.bool false,.slice none 0 0,.int .i64 0,.int .i64 0],.int .i64 3]) (by simp [results,Tryz.results175,go_sem]) rfl
      (Or.inl ⟨h64,rfl,box_below _⟩)
  · have hi : ¬ 64 < (m : Int) := by omega
    go_enter Tryz.func175,Tryz.ntmps175
    go_wp2_with (at_len; refine wpList_len_own _ rfl _ 219 rfl 9 231 Tryz.underlying219 (unitElem (H := Unit)) b n0 D rfl (unhide HO) ?_; rw [unhide HZ])
    refine (rising_any b l _ ((unhide HK).below (box_below _)) (unhide HN)).mono ?_
    rintro e w1 ⟨v,rfl,hown,hw1⟩
    obtain ⟨a,c,rfl⟩ := hown.strs.val
    obtain ⟨hsix,hf,_⟩ := (slot_new w 199).below hw1
    obtain ⟨k0,k1,k2,k3,k4,k5⟩ := hsix
    have HB := hide (chain (box_below _) hw1)
    have HO2 := hide hown
    obtain ⟨n,hn2⟩ : ∃ n,n = (rising l).length := ⟨_,rfl⟩
    rw [<- hn2] at HO2 ⊢
    clear hw1 hown hn2
    go_wp2_with fail
    exact bodyPost_ret (v := .tuple #[.agg #[.bool miss,.bool true,.bool false,.slice a n c,.int .i64 0,.int .i64 0],.int .i64 0]) (by simp [results,Tryz.results175,go_sem,k0,k1,k2,k3,k4,k5]) rfl
      (Or.inr ⟨by omega,_,rfl,((unhide HO2).grown (put6_grown w1 w.heap.size _ _ _ _ _ _) (by simp)).mono (by simp),put6_below _ _ _ _ _ _ (unhide HB) (Nat.le_refl _)⟩)

end Go.Proofs.YtfpfdnapamdhjaaGreatDoor

/- Layer 3: contracts of keep,spelled,and of the judges that keep is handed. -/
namespace Go.Proofs.YtfpfdnapamdhjaaGreatDoor
open Go.RowKit Suf Val Go.Maps

theorem unit_inv (v : Value) (y : DataW Unit × List MemPlace) (h : unitElem v = some y) : ∃ c : Unit,v = (fun _ : Unit => Value.agg #[]) c := ⟨(),(unitElem_inv h).1⟩
theorem str_inv (key : Value) (kl : Lit) (h : keyOf Tryz.prog 9 key = some kl) : ∃ x,key = encStr x := by
  obtain ⟨x,hx,_⟩ := Maps.keyOf_str Tryz.underlying9 h; exact ⟨x,hx⟩
/-- What the map holds while it is gone through: what is wanted,or still to come. -/
def Mid (D : DataW Unit) (left : Lit -> Bool) (l : List Txt) (p : Txt -> Bool) : Prop := ∀ x,Maps.has D (.string x) = true ↔ x ∈ l /\ (left (.string x) = true ∨ p x = true)
theorem mid_stays {D : DataW Unit} {left : Lit -> Bool} {l : List Txt} {p : Txt -> Bool} (h : Mid D left l p) {x : Txt} (hp : p x = true) : Mid D (fun z => left z && !z.sameKey (.string x)) l p := fun y => by
  rw [h y]
  by_cases e : y = x
  · subst e; simp [hp]
  · simp [Lit.sameKey,e]
theorem mid_struck {D : DataW Unit} {left : Lit -> Bool} {l : List Txt} {p : Txt -> Bool} (h : Mid D left l p) {x : Txt} (hp : p x = false) : Mid (D.del (.string x)) (fun z => left z && !z.sameKey (.string x)) l p := fun y => by
  by_cases e : y = x
  · subst e; rw [has_del_same]; simp [Lit.sameKey,hp]
  · rw [has_del_other (fun c => e (by injection c)),h y]; simp [Lit.sameKey,e]

set_option maxRecDepth 100000 in
set_option maxHeartbeats 4000000 in
theorem keep_any (g : Nat) (lb : Array Value) (p : Txt -> Bool) (eg : ∀ args w,(callFunc g args).run Tryz.prog w = .ok (.enter g args) w) (b : Nat) (l : List Txt) (w : World) (hk : Keys w b l) (hp : Pred g lb p (fun W => w.grownBy W (some b))) :
    Calls Tryz.prog 186 #[.map (some b),.func (.func g) #[] lb] w fun e w' => e = .returned (.tuple #[]) /\ Keys w' b (l.filter p) /\ w.grownBy w' (some b) := by
  have hlt0 := hide hk.lt
  obtain ⟨n,D0,ho,hD,hl,hs⟩ := hk
  have HL := hide1 hl
  have HS := hide hs
  have HP := hide hp
  have HD := hide hD
  have HO := hide ho
  clear hl hs hp hD ho
  go_enter Tryz.func186,Tryz.ntmps186
  go_wp2_with (at_range; refine wpList_range_own _ rfl _ 219 rfl 9 231 law Tryz.underlying219 (unitElem (H := Unit)) b n D0 rfl (unhide HO) ?_; intro w0 hrg0 hg0 hs0)
  go_frame
  have HR0 := hide hrg0
  have HG0 := hide hg0
  clear hrg0 hg0 hs0
  go_loopw [4] (fun _ wr => ∃ (left : Lit -> Bool) (cnt : Nat) (D : DataW Unit),Hid (wr.ranges Tryz.prog 9 (unitElem (H := Unit)) b w.heap.size n D left cnt) /\ Hid (Mid D left l p) /\ Hid (w.grownBy wr (some b)))
    (fun _ wr => wr.rangeLeft b w.heap.size)
  case atStart => exact ⟨_,_,_,HR0,fun x => ⟨fun h => ⟨(unhide HD x).1 h,Or.inl h⟩,fun h => (unhide HD x).2 h.1⟩,(unhide HG0).but _⟩
  case round =>
    obtain ⟨left,cnt,D,hrg,hmid,hgw⟩ := hrel
    go_wp2_with (at_next; refine wpList_next_ranges _ rfl _ rfl 9 law (unitElem (H := Unit)) encStr (fun _ : Unit => Value.agg #[]) str_inv unit_inv b w.heap.size n D left cnt rfl (unhide hrg) ?_ ?_)
    · intro _ hl0
      have hfin : Hid (Keys wr b (l.filter p)) := ⟨n,D,(unhide hrg).owns,fun x => by rw [unhide hmid x,hl0,List.mem_filter]; simp,Nat.le_trans (List.length_filter_le _ _) (unhide1 HL),fun t ht => unhide HS t (List.mem_filter.1 ht).1⟩
      clear hl0
      go_wp2_with fail
      go_end0
      exact ⟨rfl,unhide hfin,unhide hgw⟩
    · intro x kl yd yp w1 cnt1 hkey hlk hv hat hrg1 hlt hg1 hs1 hen
      obtain ⟨x',ex,rfl,_⟩ := Maps.keyOf_str Tryz.underlying9 hkey
      obtain rfl : x = x' := encStr_inj ex
      have hmem : x ∈ l := ((unhide hmid x).1 (has_true_of_atKey hat)).1
      have hsx := hide (unhide HS x hmem)
      have hgw1 := hide ((unhide hgw).andThen hg1 (fun j hj => by cases hj; exact Or.inl (Nat.le_refl _)))
      have HK := hide hkey
      have HG1 := hide hrg1
      have HLT := hide hlt
      clear hkey hlk hv hat hrg1 hlt hg1 hs1 ex hmem
      obtain ⟨q,hq⟩ : ∃ q,q = p x := ⟨_,rfl⟩
      have hQ := hide hq
      have cp : Calls Tryz.prog g (#[encStr x] ++ lb) w1 fun e w' => e = .returned (.bool q) /\ Below w1.heap.size w1 w' := by
        rw [hq]; exact unhide HP w1 x (unhide hsx) (unhide hgw1)
      clear hq
      obtain ⟨V,hV⟩ : ∃ V,V = encStr x := ⟨_,rfl⟩
      rw [<- hV] at hen cp ⊢
      have GV := hide hV
      have HK2 : Hid (keyOf Tryz.prog 9 V = some (.string x)) := by rw [hV]; exact unhide HK
      clear hV
      cases q
      · go_wp2_with (first
          | (go_at_fn g; refine cp.mono ?_; rintro e w2 ⟨rfl,hw2⟩; have HB2 := hide (below_grownBy hw2); clear hw2)
          | (at_delete; refine wpList_delete_ranges _ rfl _ _ 219 9 rfl 231 law Tryz.underlying219 (unitElem (H := Unit)) b w.heap.size n D _ cnt1 rfl ((unhide HG1).kept (unhide HB2) (by simp) (by simp)) _ _ rfl (unhide HK2) ?_; intro w3 cnt3 hrg3 hle hturn; go_frame))
        rw [strike_twice] at hrg3
        go_roundw
        case rel => exact ⟨_,cnt3,_,hrg3,mid_struck (unhide hmid) (unhide hQ).symm,((unhide hgw1).andThen (unhide HB2) (fun j hj => by cases hj)).andThen hturn.grown (fun j hj => by cases hj; exact Or.inr rfl)⟩
        case measure => rw [hrg3.left_eq,(unhide hrg).left_eq]; have := unhide HLT; omega
      · go_wp2_with (first
          | (go_at_fn g; refine cp.mono ?_; rintro e w2 ⟨rfl,hw2⟩; have HB2 := hide (below_grownBy hw2); clear hw2))
        have hrg2 := (unhide HG1).kept (unhide HB2) (by simp) (by simp)
        go_roundw
        case rel => exact ⟨_,cnt1,_,hrg2,mid_stays (unhide hmid) (unhide hQ).symm,(unhide hgw1).andThen (unhide HB2) (fun j hj => by cases hj)⟩
        case measure => rw [hrg2.left_eq,(unhide hrg).left_eq]; exact unhide HLT

theorem judge_between (B1 B2 : Nat) (lo hi : Int) (I : World -> Prop) (hI : ∀ W,I W -> Laid W /\ W.cell? ⟨B1,0,none⟩ = some (.int .i64 lo) /\ W.cell? ⟨B2,0,none⟩ = some (.int .i64 hi)) :
    Pred 187 #[.pointer (some ⟨B1,0,none⟩),.pointer (some ⟨B2,0,none⟩)] (betw lo hi) I := by
  intro W t ht hW
  obtain ⟨hL,hc1,hc2⟩ := hI W hW
  have HL := hide hL
  have HT := hide ht
  obtain ⟨r,hr⟩ : ∃ r,r = betw lo hi t := ⟨_,rfl⟩
  rw [<- hr]
  have HR := hide hr
  clear hL ht hr hI hW
  show Calls Tryz.prog 187 #[.string (bytesT t),.pointer (some ⟨B1,0,none⟩),.pointer (some ⟨B2,0,none⟩)] W _
  go_enter Tryz.func187,Tryz.ntmps187
  go_wp2_with fail
  refine (between_any (bytesT t) _ _ _ (short_size (unhide HT)) (unhide HL)).mono ?_
  rintro e w1 ⟨he,hw1⟩
  rw [bytesT_list,<- unhide HR] at he
  subst he
  have HB := hide hw1
  clear hw1
  go_wp2_with fail
  go_ret
  exact ⟨rfl,unhide HB⟩
theorem enters_between : ∀ args w,(callFunc 187 args).run Tryz.prog w = .ok (.enter 187 args) w := enters_of Tryz.func187 (by kernel_rfl) rfl
/-- The numbers from one on,so many of them,but some: their texts. -/
def spell (lo : Int) (k : Nat) (l : List Txt) : List Txt := ((ints lo k).map decZ).filter fun t => !l.contains t
theorem spell_next (lo : Int) (k : Nat) (l : List Txt) : spell lo (k + 1) l = spell lo k l ++ (if l.contains (decZ (lo + k)) = true then [] else [decZ (lo + k)]) := by
  unfold spell ints
  rw [List.range_succ,List.map_append,List.map_append,List.filter_append]
  congr 1
  rw [List.map_singleton,List.map_singleton,List.filter_cons,List.filter_nil]
  cases l.contains (decZ (lo + k)) <;> rfl
theorem spell_len (lo : Int) (k : Nat) (l : List Txt) : (spell lo k l).length <= k := by
  unfold spell
  refine Nat.le_trans (List.length_filter_le _ _) ?_
  unfold ints; simp

set_option maxRecDepth 100000 in
set_option maxHeartbeats 4000000 in
theorem spelled_any (lo hi : Int) (b : Nat) (l : List Txt) (w : World) (hk : Keys w b l) (hL : Laid w) (h0 : -4294967296 <= lo) (h1 : hi <= 4294967295) (h2 : lo <= 4294967296) (h3 : hi - lo <= 1000) :
    Calls Tryz.prog 191 #[.int .i64 lo,.int .i64 hi,.map (some b)] w fun e w' => ∃ b',e = .returned (.map (some b')) /\ Keys w' b' (spell lo (hi - lo + 1).toNat l) /\ w.heap.size <= b' /\ Below w.heap.size w w' := by
  have HK := hide hk
  have HL := hide hL
  have H0 := hide1 h0
  have H1 := hide1 h1
  have H2 := hide1 h2
  have H3 := hide1 h3
  clear hk hL h0 h1 h2 h3
  have hmm := @run_makeMap Tryz.prog
  obtain ⟨m,hm⟩ : ∃ m,m = (hi - lo + 1).toNat := ⟨_,rfl⟩
  rw [<- hm]
  have HM := hide1 hm
  have hm1 : m <= 1001 := by have := unhide1 H3; omega
  clear hm
  go_enter Tryz.func191,Tryz.ntmps191
  go_wp2_with fail
  go_loopw [8] (fun i W => ∃ (k : Nat) (z : Int),k <= m /\ z = lo + k /\ i = .int .i64 z /\ Hid (Below w.heap.size w W) /\ Hid (Keys W w.heap.size (spell lo k l))) (fun i _ => (lo + m - intOf i).toNat)
  case atStart => exact ⟨0,lo,Nat.zero_le _,by omega,rfl,box_below _,keys_new w⟩
  case round =>
    obtain ⟨k,z,hk,hz,rfl,hbel,hkeys⟩ := hrel
    have HZ := hide1 hz
    clear hz
    by_cases hlt : k < m
    · have hle : z <= hi := by have := unhide1 HZ; have := unhide1 HM; omega
      have zb : Hid (Unit -> (-4294967296 <= z /\ z <= 4294967296)) := hide1 (by have := unhide1 HZ; have := unhide1 H0; have := unhide1 H1; omega)
      have hwz := wrap_small (z + 1) (by have := unhide1 zb; omega) (by have := unhide1 zb; omega)
      obtain ⟨q,hq⟩ : ∃ q,q = l.contains (decZ z) := ⟨_,rfl⟩
      have hQ := hide hq
      clear hq
      have hsh := hide (short_dec z (unhide1 zb).1 (unhide1 zb).2)
      obtain ⟨X,hX⟩ : ∃ X,X = bytesT (decZ z) := ⟨_,rfl⟩
      have GX := hide hX
      have hkey := hide (key_of (unhide hsh))
      rw [<- hX] at hkey
      clear hX
      go_wp2_with fail
      refine (text_any z _ (by have := unhide1 zb; omega) (by have := unhide1 zb; omega) ((unhide HL).below (unhide hbel))).mono ?_
      rintro e w1 ⟨he,hw1⟩
      rw [show (ByteArray.mk (decZ z).toArray) = X from (unhide GX).symm] at he
      subst he
      have HB1 := hide (chain (unhide hbel) hw1)
      have HK1 := hide ((unhide hkeys).below hw1)
      clear hw1 hbel hkeys
      go_wp2_with fail
      rw [unhide GX]
      refine (mapHas_any b l (decZ z) _ ((unhide HK).below (unhide HB1)) (unhide hsh)).mono ?_
      rintro e w2 ⟨he,hw2⟩
      rw [<- unhide hQ] at he
      subst he
      rw [<- unhide GX]
      have HB2 := hide (chain (unhide HB1) hw2)
      have HK2 := hide ((unhide HK1).below hw2)
      clear hw2 HB1 HK1
      cases q
      · obtain ⟨n0,D,ho0,hD,hll,hss⟩ := unhide HK2
        have ho := hide (own_size ho0)
        have hD1 := hide hD
        have hss1 := hide hss
        have hpl : Hid (Unit -> (spell lo k l).length < 70368744177664) := hide1 (Nat.lt_of_le_of_lt (spell_len lo k l) (by omega))
        have hsz : Hid (Maps.size D < maxLen) := by
          show _ < _
          rw [keys_size ho0 hD]
          exact Nat.lt_of_le_of_lt (rising_le _) (Nat.lt_trans (unhide1 hpl) (by decide))
        clear ho0 hD hll hss HK2
        go_wp2_with (at_mapUpdate; refine wpList_mapUpdate_own _ rfl _ _ _ 219 rfl 9 231 law Tryz.underlying219 (unitElem (H := Unit)) w.heap.size (Maps.size D) D rfl (unhide ho) (unhide hsz) _ _ _ rfl rfl (unhide hkey) _ [] unitElem_mk ?_; intro w3 hown3 hgrow3)
        have hk3 : Hid (Keys w3 w.heap.size (spell lo (k + 1) l)) := by
          show Keys _ _ _
          rw [spell_next,if_neg (by rw [<- unhide1 HZ,<- unhide hQ]; decide),<- unhide1 HZ]
          exact Keys.put (unhide ho) (unhide hD1) (unhide1 hpl) (unhide hss1) (unhide hsh) hown3
        have hb3 := hide (grown_below (unhide HB2) hgrow3 (Nat.le_refl _))
        clear hown3 hgrow3
        go_roundw
        case rel => exact ⟨k + 1,z + 1,by omega,by have := unhide1 HZ; omega,by first | rfl | rw [hwz] | go_num,hb3,hk3⟩
        case measure => simp only [intOf]; first | (rw [hwz]; have := unhide1 HZ; omega) | (have := unhide1 HZ; omega)
      · have hk3 : Hid (Keys w2 w.heap.size (spell lo (k + 1) l)) := by
          show Keys _ _ _
          rw [spell_next,if_pos (by rw [<- unhide1 HZ,<- unhide hQ]),List.append_nil]
          exact unhide HK2
        clear HK2
        go_wp2_with fail
        go_roundw
        case rel => exact ⟨k + 1,z + 1,by omega,by have := unhide1 HZ; omega,by first | rfl | rw [hwz] | go_num,HB2,hk3⟩
        case measure => simp only [intOf]; first | (rw [hwz]; have := unhide1 HZ; omega) | (have := unhide1 HZ; omega)
    · have hle : ¬ z <= hi := by have := unhide1 HZ; have := unhide1 HM; omega
      obtain rfl : k = m := by omega
      go_wp2_with fail
      go_ret
      exact ⟨w.heap.size,rfl,unhide hkeys,Nat.le_refl _,unhide hbel⟩

end Go.Proofs.YtfpfdnapamdhjaaGreatDoor

/- Layer 3: what numbers keeps to while it trims; plain mathematics of it. -/
namespace Go.Proofs.YtfpfdnapamdhjaaGreatDoor
open Go.RowKit Suf Val Go.Maps

theorem betw_iff (lo hi : Int) (t : Txt) : betw lo hi t = true ↔ ∃ n,numO t = some n /\ lo <= n /\ n <= hi := by
  unfold betw
  cases h : numO t with
  | none => simp
  | some n => simp
theorem mem_betw (l : List Txt) (lo hi : Int) (x : Txt) : x ∈ l.filter (betw lo hi) ↔ x ∈ l /\ ∃ n,numO x = some n /\ lo <= n /\ n <= hi := by rw [List.mem_filter,betw_iff]
theorem has_betw (l : List Txt) (lo hi z : Int) (h0 : -2147483648 <= z) (h1 : z <= 2147483648) (h2 : lo <= z) (h3 : z <= hi) : (l.filter (betw lo hi)).contains (decZ z) = l.contains (decZ z) := by
  rw [Bool.eq_iff_iff,List.contains_iff_mem,List.contains_iff_mem,mem_betw]
  exact ⟨fun h => h.1,fun h => ⟨h,z,numO_dec z h0 h1,h2,h3⟩⟩
theorem strike_lo (l : List Txt) (lo hi : Int) (h0 : -2147483648 <= lo) (h1 : lo <= 2147483648) (x : Txt) : x ∈ (l.filter (betw lo hi)).filter (fun y => !(y == decZ lo)) ↔ x ∈ l.filter (betw (lo + 1) hi) := by
  rw [List.mem_filter,mem_betw,mem_betw]
  constructor
  · rintro ⟨⟨hx,n,e,a,b⟩,hne⟩
    refine ⟨hx,n,e,?_,b⟩
    obtain ⟨rfl,_,_⟩ := (numO_iff x n).1 e
    have : n ≠ lo := fun c => by subst c; simp at hne
    omega
  · rintro ⟨hx,n,e,a,b⟩
    refine ⟨⟨hx,n,e,by omega,b⟩,?_⟩
    have hne : ¬ x = decZ lo := fun c => by
      rw [c,numO_dec lo h0 h1] at e
      injection e with e; omega
    simpa using hne
theorem strike_hi (l : List Txt) (lo hi : Int) (h0 : -2147483648 <= hi) (h1 : hi <= 2147483648) (x : Txt) : x ∈ (l.filter (betw lo hi)).filter (fun y => !(y == decZ hi)) ↔ x ∈ l.filter (betw lo (hi - 1)) := by
  rw [List.mem_filter,mem_betw,mem_betw]
  constructor
  · rintro ⟨⟨hx,n,e,a,b⟩,hne⟩
    refine ⟨hx,n,e,a,?_⟩
    obtain ⟨rfl,_,_⟩ := (numO_iff x n).1 e
    have : n ≠ hi := fun c => by subst c; simp at hne
    omega
  · rintro ⟨hx,n,e,a,b⟩
    refine ⟨⟨hx,n,e,a,by omega⟩,?_⟩
    have hne : ¬ x = decZ hi := fun c => by
      rw [c,numO_dec hi h0 h1] at e
      injection e with e; omega
    simpa using hne
theorem strike_none (m : List Txt) (t : Txt) (h : m.contains t = false) (x : Txt) : x ∈ m.filter (fun y => !(y == t)) ↔ x ∈ m := by
  rw [List.mem_filter]
  constructor
  · exact fun h => h.1
  · intro hx
    refine ⟨hx,?_⟩
    have : ¬ x = t := fun e => by subst e; rw [List.contains_iff_mem.2 hx] at h; cases h
    simpa using this
/-- How far the trimming has come. -/
def atLo (lo hi : Int) (l : List Txt) (z : Int) : Prop := loOf lo hi l = trimLo l (hi - z + 1).toNat z /\ lo <= z /\ (lo <= hi -> z <= hi + 1) /\ (hi < lo -> z = lo)
theorem atLo_start (lo hi : Int) (l : List Txt) : atLo lo hi l lo := ⟨rfl,Int.le_refl _,fun h => by omega,fun _ => rfl⟩
theorem atLo_next {lo hi : Int} {l : List Txt} {z : Int} (h : atLo lo hi l z) (hz : z <= hi) (hc : l.contains (decZ z) = true) : atLo lo hi l (z + 1) := by
  obtain ⟨h1,h2,h3,h4⟩ := h
  refine ⟨?_,by omega,fun _ => by omega,fun c => by have := h4 c; omega⟩
  rw [h1]
  obtain ⟨f,hf⟩ : ∃ f,(hi - z + 1).toNat = f + 1 := ⟨(hi - z).toNat,by omega⟩
  rw [hf,show (hi - (z + 1) + 1).toNat = f by omega]
  show (if l.contains (decZ z) = true then trimLo l f (z + 1) else z) = _
  rw [if_pos hc]
theorem atLo_end {lo hi : Int} {l : List Txt} {z : Int} (h : atLo lo hi l z) (hz : hi < z ∨ l.contains (decZ z) = false) : loOf lo hi l = z := by
  rw [h.1]
  cases hf : (hi - z + 1).toNat with
  | zero => rfl
  | succ f =>
    rcases hz with hz | hz
    · omega
    · show (if l.contains (decZ z) = true then _ else z) = z
      rw [if_neg (by rw [hz]; decide)]
def atHi (lo hi : Int) (l : List Txt) (z : Int) : Prop := hiOf lo hi l = trimHi l (z - loOf lo hi l + 1).toNat z /\ z <= hi /\ (loOf lo hi l <= hi -> loOf lo hi l - 1 <= z) /\ (hi < loOf lo hi l -> z = hi)
theorem atHi_start (lo hi : Int) (l : List Txt) : atHi lo hi l hi := ⟨rfl,Int.le_refl _,fun h => by omega,fun _ => rfl⟩
theorem atHi_next {lo hi : Int} {l : List Txt} {z : Int} (h : atHi lo hi l z) (hz : loOf lo hi l <= z) (hc : l.contains (decZ z) = true) : atHi lo hi l (z - 1) := by
  obtain ⟨h1,h2,h3,h4⟩ := h
  refine ⟨?_,by omega,fun _ => by omega,fun c => by have := h4 c; omega⟩
  rw [h1]
  obtain ⟨f,hf⟩ : ∃ f,(z - loOf lo hi l + 1).toNat = f + 1 := ⟨(z - loOf lo hi l).toNat,by omega⟩
  rw [hf,show (z - 1 - loOf lo hi l + 1).toNat = f by omega]
  show (if l.contains (decZ z) = true then trimHi l f (z - 1) else z) = _
  rw [if_pos hc]
theorem atHi_end {lo hi : Int} {l : List Txt} {z : Int} (h : atHi lo hi l z) (hz : z < loOf lo hi l ∨ l.contains (decZ z) = false) : hiOf lo hi l = z := by
  rw [h.1]
  cases hf : (z - loOf lo hi l + 1).toNat with
  | zero => rfl
  | succ f =>
    rcases hz with hz | hz
    · omega
    · show (if l.contains (decZ z) = true then _ else z) = z
      rw [if_neg (by rw [hz]; decide)]
/-- What is left of the texts once both ends are trimmed. -/
theorem vals_left (lo hi : Int) (l : List Txt) : rising (l.filter (betw (loOf lo hi l) (hiOf lo hi l))) = valsOf (loOf lo hi l) (hiOf lo hi l) l := by
  unfold valsOf
  refine rising_congr fun x => ?_
  rw [mem_betw,List.mem_filter,Val.within_iff]
  refine and_congr_right fun hx => ⟨?_,?_⟩
  · rintro ⟨n,e,a,b⟩
    obtain ⟨rfl,_,_⟩ := (numO_iff x n).1 e
    by_cases hlh : lo <= hi + 1
    · obtain ⟨l1,l2,l3,l4⟩ := lo_spec lo hi l hlh
      obtain ⟨g1,g2,g3,g4⟩ := hi_spec lo hi l hlh
      refine ⟨n,e,?_,?_⟩
      · rcases Int.lt_or_eq_of_le a with h | h
        · exact h
        · rw [<- h] at hx; exact absurd hx (l4 (by omega))
      · rcases Int.lt_or_eq_of_le b with h | h
        · exact h
        · rw [h] at hx; exact absurd hx (g4 (by omega))
    · obtain ⟨e1,e2⟩ := empty_lo lo hi l (by omega)
      omega
  · rintro ⟨n,e,a,b⟩; exact ⟨n,e,by omega,by omega⟩
theorem list_left (lo hi : Int) (l m : List Txt) (h : ∀ x,x ∈ m ↔ x ∈ valsOf lo hi l) : rising (spell lo (hi - lo + 1).toNat m) = listOf lo hi (valsOf lo hi l) := by
  unfold spell listOf
  refine rising_congr fun x => ?_
  rw [List.mem_filter,List.mem_filter,contains_congr h]
theorem vals_le (lo hi : Int) (l : List Txt) : (valsOf lo hi l).length <= l.length := by
  unfold valsOf
  exact Nat.le_trans (rising_le _) (List.length_filter_le _ _)

/-- The boxes of numbers: from,to,and where the set will lie. -/
def NumSt (W : World) (B : Nat) (lo hi : Int) : Prop :=
  W.cell? ⟨B,0,none⟩ = some (.int .i64 lo) /\ W.cell? ⟨B + 1,0,none⟩ = some (.int .i64 hi) /\ W.frozen? ⟨B,0,none⟩ = false /\ W.frozen? ⟨B + 1,0,none⟩ = false /\ Slot W (B + 2)
theorem NumSt.below {W W' : World} {B : Nat} {lo hi : Int} (h : NumSt W B lo hi) (hb : Below W.heap.size W W') : NumSt W' B lo hi :=
  ⟨cell_kept hb h.1,cell_kept hb h.2.1,by rw [hb.frozen (p := ⟨B,0,none⟩) (World.block_lt_of_cell? W _ h.1)]; exact h.2.2.1,by rw [hb.frozen (p := ⟨B + 1,0,none⟩) (World.block_lt_of_cell? W _ h.2.1)]; exact h.2.2.2.1,h.2.2.2.2.below hb⟩
theorem frozen_turn {w w' : World} {b : Nat} {l : List Txt} (hk : Keys w b l) (hg : w.grownBy w' (some b)) {p : Addr} {v : Value} (hc : w.cell? p = some v) : w'.frozen? p = w.frozen? p := by
  obtain ⟨es,c,hb⟩ := hk.isMap
  have hne : p.block ≠ b := fun e => by subst e; unfold World.cell? at hc; simp [hb] at hc
  exact World.frozen?_of_block (hg.block p.block (World.block_lt_of_cell? w p hc) (fun e => hne (by injection e)))
theorem Six.turn {w w' : World} {B b : Nat} {l : List Txt} {x0 x1 x2 x3 x4 x5 : Value} (h : Six w B x0 x1 x2 x3 x4 x5) (hk : Keys w b l) (hg : w.grownBy w' (some b)) : Six w' B x0 x1 x2 x3 x4 x5 :=
  ⟨cell_turn hk hg h.1,cell_turn hk hg h.2.1,cell_turn hk hg h.2.2.1,cell_turn hk hg h.2.2.2.1,cell_turn hk hg h.2.2.2.2.1,cell_turn hk hg h.2.2.2.2.2⟩
theorem Slot.turn {w w' : World} {B b : Nat} {l : List Txt} (h : Slot w B) (hk : Keys w b l) (hg : w.grownBy w' (some b)) : Slot w' B := by
  obtain ⟨h1,h2,h3⟩ := h
  refine ⟨h1.turn hk hg,fun o => ?_,Nat.lt_of_lt_of_le h3 hg.size⟩
  obtain ⟨es,c,hb⟩ := hk.isMap
  have hne : B ≠ b := fun e => by
    have := h1.1
    subst e; unfold World.cell? at this; simp [hb] at this
  rw [World.frozen?_of_block (a := ⟨B,o,none⟩) (hg.block B h3 (fun e => hne (by injection e)))]; exact h2 o
theorem NumSt.turn {W W' : World} {B b : Nat} {l : List Txt} {lo hi : Int} (h : NumSt W B lo hi) (hk : Keys W b l) (hg : W.grownBy W' (some b)) : NumSt W' B lo hi :=
  ⟨cell_turn hk hg h.1,cell_turn hk hg h.2.1,by rw [frozen_turn hk hg h.1]; exact h.2.2.1,by rw [frozen_turn hk hg h.2.1]; exact h.2.2.2.1,h.2.2.2.2.turn hk hg⟩
theorem set_cell_other (W : World) (B o : Nat) (v : Value) {p : Addr} (h : p.block ≠ B) : (W.setCell ⟨B,o,none⟩ v).cell? p = W.cell? p :=
  World.cell?_of_block (Below.heap_setCell _ _ _ p.block h)
theorem set_frozen (W : World) (B o : Nat) (v : Value) (p : Addr) : (W.setCell ⟨B,o,none⟩ v).frozen? p = W.frozen? p := World.frozen?_setCell _ _ _ _
theorem Slot.set {W : World} {B : Nat} (h : Slot W B) (C o : Nat) (v : Value) (hne : B ≠ C) : Slot (W.setCell ⟨C,o,none⟩ v) B := by
  obtain ⟨⟨h0,h1,h2,h3,h4,h5⟩,hf,hl⟩ := h
  refine ⟨⟨?_,?_,?_,?_,?_,?_⟩,fun p => by rw [set_frozen]; exact hf p,by simpa using hl⟩
  all_goals rw [set_cell_other _ _ _ _ (by exact hne)]; assumption
theorem NumSt.setLo {W : World} {B : Nat} {lo hi : Int} (h : NumSt W B lo hi) (z : Int) : NumSt (W.setCell ⟨B,0,none⟩ (.int .i64 z)) B z hi := by
  obtain ⟨h0,h1,f0,f1,hs⟩ := h
  refine ⟨by simp [go_sem,h0],?_,by rw [set_frozen]; exact f0,by rw [set_frozen]; exact f1,hs.set _ _ _ (by omega)⟩
  rw [set_cell_other _ _ _ _ (by show B + 1 ≠ B; omega)]; exact h1
theorem NumSt.setHi {W : World} {B : Nat} {lo hi : Int} (h : NumSt W B lo hi) (z : Int) : NumSt (W.setCell ⟨B + 1,0,none⟩ (.int .i64 z)) B lo z := by
  obtain ⟨h0,h1,f0,f1,hs⟩ := h
  refine ⟨?_,by simp [go_sem,h1],by rw [set_frozen]; exact f0,by rw [set_frozen]; exact f1,hs.set _ _ _ (by omega)⟩
  rw [set_cell_other _ _ _ _ (by show B ≠ B + 1; omega)]; exact h0
theorem Keys.set {W : World} {B b o : Nat} {l : List Txt} (h : Keys W b l) (v : Value) (hne : b ≠ B) : Keys (W.setCell ⟨B,o,none⟩ v) b l := h.kept (set_grown _ _ _ _) (fun e => hne (by injection e))
theorem grown_set {w W : World} {b B o : Nat} (h : w.grownBy W (some b)) (v : Value) (hB : w.heap.size <= B) : w.grownBy (W.setCell ⟨B,o,none⟩ v) (some b) := h.andThen (set_grown _ _ _ _) (fun j hj => by cases hj; exact Or.inl hB)

end Go.Proofs.YtfpfdnapamdhjaaGreatDoor
