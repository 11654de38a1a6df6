/- Layer 4: requirements and keyed sets in memory; contract of each. -/
import Derived.Test.YtfpfdnapamdhjaaGreatDoorV3NGZ
import Derived.Test.YtfpfdnapamdhjaaGreatDoorV3APGZ
import Derived.Test.YtfpfdnapamdhjaaGreatDoorRqAGZ
import Derived.Deep.AppendLies
namespace Go.Proofs.YtfpfdnapamdhjaaGreatDoor
open Go.RowKit Suf Val Go.Maps

/-- A requirement in memory; a list of them. -/
def ReqAt (w : World) (b o : Nat) (r : VReq) (u : Value) : Prop :=
  w.cell? ⟨b,o,none⟩ = some (.string (bytesT r.key)) /\ w.cell? ⟨b,o + 1,none⟩ = some (.int .i64 r.op) /\ w.cell? ⟨b,o + 2,none⟩ = some u /\ w.cell? ⟨b,o + 3,none⟩ = some (.int .i64 r.n) /\ Strs w u r.vals /\ short r.key /\ Capd u
theorem ReqAt.below {w w' : World} {b o : Nat} {r : VReq} {u : Value} (h : ReqAt w b o r u) (hb : Below w.heap.size w w') : ReqAt w' b o r u :=
  ⟨cell_kept hb h.1,cell_kept hb h.2.1,cell_kept hb h.2.2.1,cell_kept hb h.2.2.2.1,h.2.2.2.2.1.below hb,h.2.2.2.2.2⟩
def Reqs (w : World) (v : Value) (l : List VReq) : Prop :=
  ∃ a c,v = .slice a l.length c /\ (∀ j (h : j < l.length),∃ b o u,a = some ⟨b,o,none⟩ /\ ReqAt w b (o + j * 4) l[j] u) /\ l.length <= 4398046511104
theorem Reqs.below {w w' : World} {v : Value} {l : List VReq} (h : Reqs w v l) (hb : Below w.heap.size w w') : Reqs w' v l := by
  obtain ⟨a,c,e,hc,hl⟩ := h
  exact ⟨a,c,e,fun j hj => by obtain ⟨b,o,u,e2,h2⟩ := hc j hj; exact ⟨b,o,u,e2,h2.below hb⟩,hl⟩
theorem Reqs.val {w : World} {v : Value} {l : List VReq} (h : Reqs w v l) : ∃ a c,v = .slice a l.length c := by obtain ⟨a,c,e,_⟩ := h; exact ⟨a,c,e⟩
theorem Reqs.len {w : World} {v : Value} {l : List VReq} (h : Reqs w v l) : l.length <= 4398046511104 := by obtain ⟨_,_,_,_,h⟩ := h; exact h
theorem Reqs.at {w : World} {a : Option Addr} {n c : Nat} {l : List VReq} (h : Reqs w (.slice a n c) l) {j : Nat} (hj : j < l.length) : ∃ b o u,a = some ⟨b,o,none⟩ /\ ReqAt w b (o + j * 4) l[j] u := by
  obtain ⟨a',c',e,hc,_⟩ := h
  injection e with e1 e2 e3
  subst e1
  exact hc j hj

/-- A keyed set's cells: its list of values as the program holds it,the key,the set. -/
abbrev VKS := Value × KS
def encK (x : VKS) : List Value := [.string (bytesT x.2.1),.bool x.2.2.miss,.bool x.2.2.no,.bool x.2.2.num,x.1,.int .i64 x.2.2.lo,.int .i64 x.2.2.hi]
def flatK (xs : List VKS) : List Value := xs.flatMap encK
theorem flatK_snoc (xs : List VKS) (x : VKS) : flatK (xs ++ [x]) = flatK xs ++ encK x := by unfold flatK; rw [List.flatMap_append]; simp
/-- Values of their own blocks. -/
def Parted (v : Value) (xs : List VKS) : Prop := (∀ x ∈ xs,∀ k,v.ownBlock = some k -> x.1.ownBlock ≠ some k) /\ xs.Pairwise fun x y => ∀ k,x.1.ownBlock = some k -> y.1.ownBlock ≠ some k
/-- Keyed sets of the call's own. -/
def OwnK (T : TypeId) (w : World) (base : Nat) (v : Value) (xs : List VKS) : Prop :=
  w.ownsRow base T 7 v xs.length (flatK xs) /\ (∀ x ∈ xs,Own w base x.1 x.2.2.vals /\ short x.2.1) /\ Parted v xs
theorem OwnK.below {T : TypeId} {w w' : World} {base : Nat} {v : Value} {xs : List VKS} (h : OwnK T w base v xs) (hb : Below w.heap.size w w') : OwnK T w' base v xs :=
  ⟨h.1.kept (below_grownBy hb) (by
    cases hv : v.ownBlock with
    | none => exact Or.inl rfl
    | some b => exact Or.inr (by simp)),fun x hx => ⟨(h.2.1 x hx).1.below hb,(h.2.1 x hx).2⟩,h.2.2⟩
theorem ownK_nil (T : TypeId) (w : World) (base : Nat) : OwnK T w base (.slice none 0 0) [] := ⟨World.ownsRow_nil _ _ _ _,fun x hx => (by cases hx),fun x hx => (by cases hx),List.Pairwise.nil⟩
theorem OwnK.mono {T : TypeId} {w : World} {base base' : Nat} {v : Value} {xs : List VKS} (h : OwnK T w base v xs) (hb : base' <= base) : OwnK T w base' v xs := by
  refine ⟨⟨h.1.1,?_⟩,fun x hx => ⟨(h.2.1 x hx).1.mono hb,(h.2.1 x hx).2⟩,h.2.2⟩
  rcases h.1.2 with h1 | ⟨g,cap,cur,e,hg,h2⟩
  · exact Or.inl h1
  · exact Or.inr ⟨g,cap,cur,e,Nat.le_trans hb hg,h2⟩
theorem Own.other {w w' : World} {r : Option Nat} {base : Nat} {v : Value} {l : List Txt} (h : Own w base v l) (hg : w.grownBy w' r) (hne : ∀ k j,r = some k -> v.ownBlock = some j -> j ≠ k) : Own w' base v l :=
  ⟨h.1.kept hg (by
    cases hv : v.ownBlock with
    | none => exact Or.inl rfl
    | some b => exact Or.inr (fun e => hne b b e.symm hv rfl)),h.2⟩
theorem OwnK.val {T : TypeId} {w : World} {base : Nat} {v : Value} {xs : List VKS} (h : OwnK T w base v xs) : ∃ a c,v = .slice a xs.length c := by
  rcases h.1.2 with ⟨rfl,hn⟩ | ⟨g,cap,cur,rfl,_⟩
  · exact ⟨none,0,by rw [hn]⟩
  · exact ⟨_,_,rfl⟩
theorem OwnK.block {T : TypeId} {w : World} {base : Nat} {v : Value} {xs : List VKS} (h : OwnK T w base v xs) : ∀ k,v.ownBlock = some k -> base <= k /\ k < w.heap.size := h.1.lt
theorem encK_one {x : VKS} {a : Option Addr} {n c : Nat} (h : x.1 = .slice a n c) : ∀ u ∈ encK x,u.oneCell' = true := by
  intro u hu
  unfold encK at hu
  rw [h] at hu
  simp at hu
  rcases hu with rfl | rfl | rfl | rfl | rfl | rfl | rfl <;> rfl
/-- One more,behind an append. -/
theorem OwnK.push {T : TypeId} {w w' : World} {base g cap n : Nat} {v : Value} {xs : List VKS} {x : VKS} (h : OwnK T w base v xs) (hx : Own w base x.1 x.2.2.vals) (hk : short x.2.1) (hn : xs.length = n)
    (hf : ∀ j,x.1.ownBlock = some j -> (∀ k,v.ownBlock = some k -> k ≠ j) /\ ∀ y ∈ xs,∀ k,y.1.ownBlock = some k -> k ≠ j)
    (ho : w'.ownsRow base T 7 (.slice (some ⟨g,0,none⟩) (n + 1) cap) (n + 1) (flatK xs ++ encK x)) (hg : w.grownBy w' v.ownBlock) (hat : v.ownBlock = some g ∨ g = w.heap.size) :
    OwnK T w' base (.slice (some ⟨g,0,none⟩) (n + 1) cap) (xs ++ [x]) := by
  subst hn
  have hg2 : ∀ y : VKS,∀ j,(∀ k,v.ownBlock = some k -> k ≠ j) -> y.1.ownBlock = some j -> j < w.heap.size -> j ≠ g := by
    intro y j h1 _ h3
    rcases hat with h4 | rfl
    · exact fun e => h1 g h4 e.symm
    · omega
  refine ⟨by rw [flatK_snoc,List.length_append]; exact ho,fun y hy => ?_,fun y hy k hk2 => ?_,?_⟩
  · rcases List.mem_append.1 hy with hy | hy
    · exact ⟨Own.other (h.2.1 y hy).1 hg (fun k j hk hj e => h.2.2.1 y hy k hk (by rw [hj,e])),(h.2.1 y hy).2⟩
    · rw [List.mem_singleton] at hy
      subst hy
      exact ⟨Own.other hx hg (fun k j hk hj e => (hf j hj).1 k hk e.symm),hk⟩
  · have hkg : k = g := by injection hk2 with e; exact e.symm
    subst hkg
    rcases List.mem_append.1 hy with hy | hy
    · intro e
      exact hg2 y k (fun k' h1 e2 => h.2.2.1 y hy k' h1 (by rw [e,e2])) e (own_block (h.2.1 y hy).1 k e).2 rfl
    · rw [List.mem_singleton] at hy
      subst hy
      intro e
      exact hg2 y k (hf k e).1 e (own_block hx k e).2 rfl
  · refine List.pairwise_append.2 ⟨h.2.2.2,List.pairwise_singleton _ _,fun y hy z hz k hyk => ?_⟩
    rw [List.mem_singleton] at hz
    subst hz
    intro e
    exact (hf k e).2 y hy k hyk rfl

theorem take_nextG {α : Type} (l : List α) (k : Nat) (h : k < l.length) : l.take (k + 1) = l.take k ++ [l[k]] := by rw [List.take_add_one,List.getElem?_eq_getElem h]; rfl
theorem Tryz.infoKeyed : (Tryz.prog.info? 207).map (fun i => (i.zero,i.size,i.bytes)) = some (some (.agg #[.string ⟨#[]⟩,.bool false,.bool false,.bool false,.slice none 0 0,.int .i64 0,.int .i64 0]),7,64) := by kernel_rfl

def eachPost (n : Nat) (l : List VReq) (w : World) (e : Ending) (w' : World) : Prop :=
  (¬ moreR n l = 0 /\ e = .returned (.tuple #[.slice none 0 0,.int .i64 (moreR n l)]) /\ Below w.heap.size w w') ∨
  (moreR n l = 0 /\ ∃ v' xs,e = .returned (.tuple #[v',.int .i64 0]) /\ xs.map (·.2) = l.map keyS /\ OwnK 207 w' w.heap.size v' xs /\ Below w.heap.size w w')

set_option maxRecDepth 100000 in
set_option maxHeartbeats 8000000 in
theorem each_any (v : Value) (l : List VReq) (most : Nat) (w : World) (hL : Laid w) (hv : Reqs w v l) (hm : most <= 16) :
    Calls Tryz.prog 145 #[v,.int .i64 most] w fun e w' => eachPost most l w e w' := by
  have HL := hide hL
  have HV := hide hv
  have hlen := hv.len
  obtain ⟨a,c,rfl⟩ := hv.val
  clear hL hv
  obtain ⟨n,hn⟩ : ∃ n,n = l.length := ⟨_,rfl⟩
  rw [<- hn] at HV hlen ⊢
  have HN := hide hn
  clear hn
  obtain ⟨R,hR⟩ : ∃ R,R = eachPost most l w := ⟨_,rfl⟩
  show Calls _ _ _ _ (fun e w' => eachPost most l w e w')
  rw [<- hR]
  have HR := hide hR
  clear hR
  by_cases hbig : most < n
  · have hmr : Hid (moreR most l = 3) := by show _ = _; unfold moreR; rw [<- unhide HN,if_pos hbig]
    go_enter Tryz.func145,Tryz.ntmps145
    go_wp2_with fail
    show R (.returned (.tuple #[.slice none 0 0,.int .i64 3])) w
    rw [unhide HR]
    exact Or.inl ⟨by rw [unhide hmr]; decide,by rw [unhide hmr],Below.refl _ _⟩
  have hmr : Hid (moreR most l = firstR l) := by show _ = _; unfold moreR; rw [<- unhide HN,if_neg hbig]
  have hsm : n <= 16 := by omega
  go_enter Tryz.func145,Tryz.ntmps145
  go_wp2_with fail
  go_loopw [6,17] (fun ks i W => ∃ (k : Nat) (xa : Option Addr) (xc : Nat) (xs : List VKS),k <= n /\ i = .int .i64 k /\ ks = .slice xa k xc /\ Hid (OwnK 207 W w.heap.size (.slice xa k xc) xs) /\ Hid (xs.length = k) /\ Hid (xs.map (·.2) = (l.take k).map keyS) /\ Hid (∀ r ∈ l.take k,wrongR r = 0) /\ Hid (Below w.heap.size w W)) (fun _ i _ => n - (intOf i).toNat)
  case atStart => exact ⟨0,none,0,[],Nat.zero_le _,rfl,rfl,ownK_nil _ _ _,rfl,rfl,fun r hr => (by cases hr),Below.refl _ _⟩
  case round =>
    obtain ⟨k,xa,xc,xs,hk,rfl,rfl,hown,hxl,hxs,hok,hbel⟩ := hrel
    by_cases hlt : k < n
    · have hlk : k < l.length := by rw [<- unhide HN]; exact hlt
      obtain ⟨b,o,u,rfl,hreq⟩ := ((unhide HV).below (unhide hbel)).at hlk
      obtain ⟨r,hr⟩ : ∃ r,r = l[k] := ⟨_,rfl⟩
      rw [<- hr] at hreq
      have GR := hide hr
      obtain ⟨h0,h1,h2,h3,hstr,hsh,_⟩ := hreq
      have hST := hide hstr
      have hSH := hide hsh
      obtain ⟨ua,uc,hue⟩ := hstr.val
      subst hue
      clear hstr hsh hr
      obtain ⟨un,hun⟩ : ∃ x,x = r.vals.length := ⟨_,rfl⟩
      rw [<- hun] at h2 hST
      clear hun
      obtain ⟨W0,hW0⟩ : ∃ W,W = wr.alloc (.cells #[.string (bytesT r.key),.int .i64 r.op,.slice ua un uc,.int .i64 r.n] 138) := ⟨_,rfl⟩
      have B0 : Hid (Below wr.heap.size wr W0) := by rw [hW0]; exact box_below _
      have F0 : Hid (Four W0 wr.heap.size (.string (bytesT r.key)) (.int .i64 r.op) (.slice ua un uc) (.int .i64 r.n)) := by rw [hW0]; exact four_new _ _ _ _ _ _
      have GW0 := hide hW0
      clear hW0
      go_wp2_with fail
      rw [<- unhide GW0]
      clear h0 h1 h2 h3
      refine (of_any (bytesT r.key) r.op _ r.vals r.n _ ((unhide HL).below (chain (unhide hbel) (unhide B0))) ((unhide hST).below (unhide B0)) (short_max (unhide hSH))).mono ?_
      rintro e w1 ⟨x1,y1,he,ho1,hw1⟩
      have hof : ofR ⟨(bytesT r.key).data.toList,r.op,r.vals,r.n⟩ = ofR r := rfl
      rw [hof] at he ho1
      clear hof
      unfold tells at he
      by_cases hw : wrongR r = 0
      · have hof : Hid (ofR r = (ofSet r,0)) := ofR_good hw
        have HW := hide hw
        clear hw
        rw [unhide hof] at he ho1
        simp only at he ho1
        obtain ⟨s,hs⟩ : ∃ s,s = ofSet r := ⟨_,rfl⟩
        rw [<- hs] at he ho1
        have GS := hide hs
        clear hs
        obtain ⟨sn,hsn⟩ : ∃ x,x = s.vals.length := ⟨_,rfl⟩
        rw [<- hsn] at he ho1
        clear hsn
        subst he
        obtain ⟨W1,hW1⟩ : ∃ W,W = w1.alloc (.cells #[.bool s.miss,.bool s.no,.bool s.num,.slice x1 sn y1,.int .i64 s.lo,.int .i64 s.hi] 199) := ⟨_,rfl⟩
        have bV1 : Hid (Below W0.heap.size W0 W1) := by rw [hW1]; exact chain hw1 (box_below _)
        have O1 : Hid (Own W1 W0.heap.size (.slice x1 sn y1) s.vals) := by rw [hW1]; exact ho1.below (box_below _)
        have X1 : Hid (Six W1 w1.heap.size (.bool s.miss) (.bool s.no) (.bool s.num) (.slice x1 sn y1) (.int .i64 s.lo) (.int .i64 s.hi)) := by rw [hW1]; exact six_new _ _ _ _ _ _ _ _
        have ZW1 : Hid (W1.heap.size = w1.heap.size + 1) := by rw [hW1]; show _ = _; simp
        have GW1 := hide hW1
        clear hW1 hw1 ho1
        have bV := hide (chain (unhide B0) (unhide bV1))
        have F1 := hide ((unhide F0).below (unhide bV1))
        have K1 := hide ((unhide hown).below (unhide bV))
        have Z1 : Hid (wr.heap.size <= W0.heap.size) := (unhide B0).size
        obtain ⟨f0,f1,f2,f3⟩ := unhide F1
        obtain ⟨g0,g1,g2,g3,g4,g5⟩ := unhide X1
        rw [unhide GW1] at f0 f1 f2 f3 g0 g1 g2 g3 g4 g5
        obtain ⟨i,hi,hz0,hz1,hz2⟩ := info_partsS Tryz.infoKeyed
        have HI := hide hi
        have HZ0 := hide hz0
        have HZ1 := hide hz1
        have HZ2 := hide hz2
        clear hi hz0 hz1 hz2
        have hnews : Hid (∀ j u,(encK (.slice x1 sn y1,(r.key,s)))[j]? = some u -> (W1.alloc (.cells #[.string (bytesT r.key),.bool s.miss,.bool s.no,.bool s.num,.slice x1 sn y1,.int .i64 s.lo,.int .i64 s.hi] 207)).cell? ((⟨w1.heap.size + 1,0,none⟩ : Addr).add j) = some u) := by
          have := World.news_of_block (heap_alloc_new W1 (.cells #[.string (bytesT r.key),.bool s.miss,.bool s.no,.bool s.num,.slice x1 sn y1,.int .i64 s.lo,.int .i64 s.hi] 207))
          rw [unhide ZW1] at this
          exact this
        have hrow : Hid ((W1.alloc (.cells #[.string (bytesT r.key),.bool s.miss,.bool s.no,.bool s.num,.slice x1 sn y1,.int .i64 s.lo,.int .i64 s.hi] 207)).ownsRow w.heap.size 207 7 (.slice xa k xc) k (flatK xs)) := by
          have := (unhide K1).1.alloc (.cells #[.string (bytesT r.key),.bool s.miss,.bool s.no,.bool s.num,.slice x1 sn y1,.int .i64 s.lo,.int .i64 s.hi] 207)
          rw [unhide hxl] at this
          exact this
        go_wp2_with (at_builtin; (rw [<- unhide GW1] at f0 f1 f2 f3 g0 g1 g2 g3 g4 g5 ⊢; refine wpList_append_lies _ rfl _ _ _ rfl w.heap.size 207 i _ 7 64 Tryz.underlying187 (unhide HI) (unhide HZ0) (unhide HZ1) (unhide HZ2) rfl (by decide) (.slice xa k xc) k (flatK xs) rfl (unhide hrow) ⟨w1.heap.size + 1,0,none⟩ 1 1 (encK (.slice x1 sn y1,(r.key,s))) rfl rfl (unhide hnews) (encK_one rfl) (by decide) (by unfold maxLen; omega) (by omega) (by have := (chain (unhide hbel) (unhide bV)).size; simp; omega) (W1.heap.size + 1) (by simp) ?_; intro g cap w2 hown2 hg2 hat2 hlt2))
        have bC := hide (box_below (w := W1) (.cells #[.string (bytesT r.key),.bool s.miss,.bool s.no,.bool s.num,.slice x1 sn y1,.int .i64 s.lo,.int .i64 s.hi] 207))
        have hfr : Hid (∀ j,(Value.slice x1 sn y1).ownBlock = some j -> (∀ k',(Value.slice xa k xc).ownBlock = some k' -> k' ≠ j) /\ ∀ y ∈ xs,∀ k',y.1.ownBlock = some k' -> k' ≠ j) := fun j hj => by
          have h1 := (own_block (unhide O1) j hj).1
          have h2 := unhide Z1
          exact ⟨fun k' hk' e => by have := ((unhide hown).block k' hk').2; omega,fun y hy k' hk' e => by have := (own_block ((unhide hown).2.1 y hy).1 k' hk').2; omega⟩
        have hbase : Hid (w.heap.size <= W0.heap.size) := Nat.le_trans (unhide hbel).size (unhide Z1)
        have hnew := hide (OwnK.push (x := (.slice x1 sn y1,(r.key,s))) ((unhide K1).below (unhide bC)) (((unhide O1).mono (unhide hbase)).below (unhide bC)) (unhide hSH) (unhide hxl) (unhide hfr) hown2 hg2 (by
          rcases hat2 with h | h
          · exact Or.inl h
          · exact Or.inr (by rw [h]; simp)))
        have hB2 := hide ((chain (chain (unhide hbel) (unhide bV)) (unhide bC)).grown hg2 (chain (chain (unhide hbel) (unhide bV)) (unhide bC)).size (fun k' hk' => ((unhide hown).block k' hk').1))
        have htk := hide (take_nextG l k hlk)
        rw [<- unhide GR] at htk
        refine ⟨⟨k + 1,some ⟨g,0,none⟩,cap,xs ++ [(.slice x1 sn y1,(r.key,s))],by omega,by go_num,rfl,hnew,?_,?_,?_,hB2⟩,by simp [intOf]; omega⟩
        · show _ = _; rw [List.length_append,unhide hxl]; rfl
        · show _ = _
          rw [unhide htk,List.map_append,List.map_append,unhide hxs,unhide GS]; rfl
        · intro r' hr'
          rw [unhide htk] at hr'
          rcases List.mem_append.1 hr' with h | h
          · exact unhide hok r' h
          · rw [List.mem_singleton] at h; rw [h]; exact unhide HW
      · have hof : Hid (ofR r = (zeroS,wrongR r)) := ofR_bad hw
        have hfin : Hid (moreR most l = wrongR r) := by
          show _ = _
          have h2 := first_take hlk (unhide hok) (by rw [<- unhide GR]; exact hw)
          rw [<- unhide GR] at h2
          rw [unhide hmr,h2]
        rw [unhide hof] at he ho1
        have HW := hide hw
        obtain ⟨z,hz⟩ : ∃ z,z = wrongR r := ⟨_,rfl⟩
        rw [<- hz] at he
        have ht : (z != 0) = true := by rw [hz]; exact bne_iff_ne.2 hw
        have hB1 := hide (chain (chain (unhide hbel) (unhide B0)) hw1)
        clear hw ho1 hw1
        have GZ := hide hz
        clear hz
        subst he
        go_wp2_with fail
        show R (.returned (.tuple #[.slice none 0 0,.int .i64 z])) _
        rw [unhide HR]
        exact Or.inl ⟨by rw [unhide hfin]; exact unhide HW,by rw [unhide hfin,unhide GZ],chain (unhide hB1) (box_below _)⟩
    · obtain rfl : k = n := by omega
      have hfin : Hid (moreR most l = 0) := by
        show _ = _
        rw [unhide hmr,first_ok]
        have := unhide hok
        rw [List.take_of_length_le (by rw [<- unhide HN]; exact Nat.le_refl _)] at this
        exact this
      have hx2 : Hid (xs.map (·.2) = l.map keyS) := by
        have := unhide hxs
        rw [List.take_of_length_le (by rw [<- unhide HN]; exact Nat.le_refl _)] at this
        exact this
      go_wp2_with fail
      show R (.returned (.tuple #[.slice xa k xc,.int .i64 0])) _
      rw [unhide HR]
      exact Or.inr ⟨unhide hfin,_,xs,rfl,unhide hx2,unhide hown,unhide hbel⟩
end Go.Proofs.YtfpfdnapamdhjaaGreatDoor
