/- Layer 5,plain mathematics alone: taints,what is tolerated,and who tolerates what. No program is named. -/
import Derived.Test.YtfpfdnapamdhjaaGreatDoorValAGZ
import Derived.Test.YtfpfdnapamdhjaaGreatDoorV3VGZ
import Derived.Laws.StructEq
import Derived.Deep.RegionHeld3
namespace Go.Proofs.YtfpfdnapamdhjaaGreatDoor.Ta.Val
open Suf Go.Proofs.YtfpfdnapamdhjaaGreatDoor.Val

abbrev Lab := Txt × Txt
abbrev VTol := Txt × Txt × Bool
def taintF : List Lab -> List Lab -> Int
  | _,[] => 0
  | seen,x :: l => if nameB x.1 = false then 7 else if valueB x.2 = false then 20 else if seen.any (fun y => y.1 == x.1) = true then 6 else taintF (seen ++ [x]) l
def taintR (l : List Lab) : Int := if 4 < l.length then 3 else taintF [] l
def formedB (o : VTol) : Bool := if o.2.2 = true then decide (o.2.1 = []) else valueB o.2.1
def tolF : List VTol -> List VTol -> Int
  | _,[] => 0
  | seen,x :: l => if nameB x.1 = false then 7 else if formedB x = false then 20 else if seen.any (fun y => y == x) = true then 6 else tolF (seen ++ [x]) l
def tolsR (l : List VTol) : Int := if 4 < l.length then 3 else tolF [] l
def tolB (t : Lab) (o : VTol) : Bool := (o.1 == t.1) && (o.2.2 || (o.2.1 == t.2))
def okT (m : List VTol) (t : Lab) : Bool := m.any (tolB t)
def firstR (m : List VTol) : List Lab -> Lab × Bool
  | [] => (([],[]),false)
  | t :: l => if okT m t = true then firstR m l else (t,true)
theorem drop_at {α : Type} {l : List α} {k : Nat} (h : k < l.length) : l.drop k = l[k] :: l.drop (k + 1) := List.drop_eq_getElem_cons h
theorem take_at {α : Type} (l : List α) (k : Nat) (h : k < l.length) : l.take (k + 1) = l.take k ++ [l[k]] := by rw [List.take_add_one,List.getElem?_eq_getElem h]; rfl
theorem taint_step {l : List Lab} {k : Nat} (h : k < l.length) : taintF (l.take k) (l.drop k) = if nameB l[k].1 = false then 7 else if valueB l[k].2 = false then 20 else if (l.take k).any (fun y => y.1 == l[k].1) = true then 6 else taintF (l.take (k + 1)) (l.drop (k + 1)) := by
  rw [drop_at h,take_at l k h]; rfl
theorem tol_step {l : List VTol} {k : Nat} (h : k < l.length) : tolF (l.take k) (l.drop k) = if nameB l[k].1 = false then 7 else if formedB l[k] = false then 20 else if (l.take k).any (fun y => y == l[k]) = true then 6 else tolF (l.take (k + 1)) (l.drop (k + 1)) := by
  rw [drop_at h,take_at l k h]; rfl
theorem any_next {α : Type} {p : α -> Bool} (l : List α) (k : Nat) (h : k < l.length) : (l.take (k + 1)).any p = ((l.take k).any p || p l[k]) := by
  rw [take_at l k h,List.any_append]; simp
theorem any_yes {α : Type} {p : α -> Bool} (l : List α) (k : Nat) (h : k < l.length) (hp : p l[k] = true) : l.any p = true := List.any_eq_true.2 ⟨l[k],List.getElem_mem h,hp⟩
end Go.Proofs.YtfpfdnapamdhjaaGreatDoor.Ta.Val

/- Layer 5: taints,and what is tolerated,in memory. -/
namespace Go.Proofs.YtfpfdnapamdhjaaGreatDoor.Ta
open Go.RowKit Suf Go.Proofs.YtfpfdnapamdhjaaGreatDoor.Val Go.Proofs.YtfpfdnapamdhjaaGreatDoor.Ta.Val

def LabAt (w : World) (b o : Nat) (x : Lab) : Prop := w.cell? ⟨b,o,none⟩ = some (.string (bytesT x.1)) /\ w.cell? ⟨b,o + 1,none⟩ = some (.string (bytesT x.2)) /\ short x.1 /\ short x.2
theorem LabAt.below {w w' : World} {b o : Nat} {x : Lab} (h : LabAt w b o x) (hb : Below w.heap.size w w') : LabAt w' b o x := ⟨cell_kept hb h.1,cell_kept hb h.2.1,h.2.2⟩
def Labs (w : World) (v : Value) (l : List Lab) : Prop :=
  ∃ a c,v = .slice a l.length c /\ (∀ j (h : j < l.length),∃ b o,a = some ⟨b,o,none⟩ /\ LabAt w b (o + j * 2) l[j]) /\ l.length <= 4398046511104 /\ l.length <= c
theorem Labs.below {w w' : World} {v : Value} {l : List Lab} (h : Labs w v l) (hb : Below w.heap.size w w') : Labs w' v l := by
  obtain ⟨a,c,e,hc,hl⟩ := h
  exact ⟨a,c,e,fun j hj => by obtain ⟨b,o,e2,h2⟩ := hc j hj; exact ⟨b,o,e2,h2.below hb⟩,hl⟩
theorem Labs.val {w : World} {v : Value} {l : List Lab} (h : Labs w v l) : ∃ a c,v = .slice a l.length c := by obtain ⟨a,c,e,_⟩ := h; exact ⟨a,c,e⟩
theorem Labs.len {w : World} {v : Value} {l : List Lab} (h : Labs w v l) : l.length <= 4398046511104 := by obtain ⟨_,_,_,_,h,_⟩ := h; exact h
theorem Labs.cap {w : World} {a : Option Addr} {n c : Nat} {l : List Lab} (h : Labs w (.slice a n c) l) : l.length <= c := by
  obtain ⟨_,_,e,_,_,h⟩ := h
  injection e with e1 e2 e3
  omega
theorem Labs.at {w : World} {a : Option Addr} {n c : Nat} {l : List Lab} (h : Labs w (.slice a n c) l) {j : Nat} (hj : j < l.length) : ∃ b o,a = some ⟨b,o,none⟩ /\ LabAt w b (o + j * 2) l[j] := by
  obtain ⟨a',c',e,hc,_⟩ := h
  injection e with e1 e2 e3
  subst e1
  exact hc j hj
theorem Labs.take {w : World} {a : Option Addr} {n c k : Nat} {l : List Lab} (h : Labs w (.slice a n c) l) (hk : k <= l.length) : Labs w (.slice a k c) (l.take k) := by
  have hl := h.len
  have hcap := h.cap
  have e : (l.take k).length = k := by rw [List.length_take]; omega
  refine ⟨a,c,by rw [e],fun j hj => ?_,by omega,by omega⟩
  obtain ⟨b,o,e2,h2⟩ := h.at (j := j) (by omega)
  exact ⟨b,o,e2,by rw [List.getElem_take]; exact h2⟩
theorem Labs.short {w : World} {v : Value} {l : List Lab} (h : Labs w v l) : ∀ y ∈ l,short y.1 /\ short y.2 := by
  obtain ⟨a,c,rfl⟩ := h.val
  intro y hy
  obtain ⟨j,hj,rfl⟩ := List.mem_iff_getElem.1 hy
  obtain ⟨_,_,_,h2⟩ := h.at hj
  exact h2.2.2
def labV (x : Lab) : Value := .agg #[.string (bytesT x.1),.string (bytesT x.2)]

def TolAt (w : World) (b o : Nat) (x : VTol) : Prop := w.cell? ⟨b,o,none⟩ = some (.string (bytesT x.1)) /\ w.cell? ⟨b,o + 1,none⟩ = some (.string (bytesT x.2.1)) /\ w.cell? ⟨b,o + 2,none⟩ = some (.bool x.2.2) /\ short x.1 /\ short x.2.1
theorem TolAt.below {w w' : World} {b o : Nat} {x : VTol} (h : TolAt w b o x) (hb : Below w.heap.size w w') : TolAt w' b o x := ⟨cell_kept hb h.1,cell_kept hb h.2.1,cell_kept hb h.2.2.1,h.2.2.2⟩
def Tols (w : World) (v : Value) (l : List VTol) : Prop :=
  ∃ a c,v = .slice a l.length c /\ (∀ j (h : j < l.length),∃ b o,a = some ⟨b,o,none⟩ /\ TolAt w b (o + j * 3) l[j]) /\ l.length <= 4398046511104 /\ l.length <= c
theorem Tols.below {w w' : World} {v : Value} {l : List VTol} (h : Tols w v l) (hb : Below w.heap.size w w') : Tols w' v l := by
  obtain ⟨a,c,e,hc,hl⟩ := h
  exact ⟨a,c,e,fun j hj => by obtain ⟨b,o,e2,h2⟩ := hc j hj; exact ⟨b,o,e2,h2.below hb⟩,hl⟩
theorem Tols.val {w : World} {v : Value} {l : List VTol} (h : Tols w v l) : ∃ a c,v = .slice a l.length c := by obtain ⟨a,c,e,_⟩ := h; exact ⟨a,c,e⟩
theorem Tols.len {w : World} {v : Value} {l : List VTol} (h : Tols w v l) : l.length <= 4398046511104 := by obtain ⟨_,_,_,_,h,_⟩ := h; exact h
theorem Tols.cap {w : World} {a : Option Addr} {n c : Nat} {l : List VTol} (h : Tols w (.slice a n c) l) : l.length <= c := by
  obtain ⟨_,_,e,_,_,h⟩ := h
  injection e with e1 e2 e3
  omega
theorem Tols.at {w : World} {a : Option Addr} {n c : Nat} {l : List VTol} (h : Tols w (.slice a n c) l) {j : Nat} (hj : j < l.length) : ∃ b o,a = some ⟨b,o,none⟩ /\ TolAt w b (o + j * 3) l[j] := by
  obtain ⟨a',c',e,hc,_⟩ := h
  injection e with e1 e2 e3
  subst e1
  exact hc j hj
theorem Tols.take {w : World} {a : Option Addr} {n c k : Nat} {l : List VTol} (h : Tols w (.slice a n c) l) (hk : k <= l.length) : Tols w (.slice a k c) (l.take k) := by
  have hl := h.len
  have hcap := h.cap
  have e : (l.take k).length = k := by rw [List.length_take]; omega
  refine ⟨a,c,by rw [e],fun j hj => ?_,by omega,by omega⟩
  obtain ⟨b,o,e2,h2⟩ := h.at (j := j) (by omega)
  exact ⟨b,o,e2,by rw [List.getElem_take]; exact h2⟩
theorem Tols.short {w : World} {v : Value} {l : List VTol} (h : Tols w v l) : ∀ y ∈ l,short y.1 /\ short y.2.1 := by
  obtain ⟨a,c,rfl⟩ := h.val
  intro y hy
  obtain ⟨j,hj,rfl⟩ := List.mem_iff_getElem.1 hy
  obtain ⟨_,_,_,h2⟩ := h.at hj
  exact h2.2.2.2
def tolV (x : VTol) : Value := .agg #[.string (bytesT x.1),.string (bytesT x.2.1),.bool x.2.2]
theorem box_below {w : World} (o : Obj) : Below w.heap.size w (w.alloc o) := (Below.refl _ _).alloc (Nat.le_refl _) _
theorem cell_box {w : World} {p : Addr} {v : Value} (o : Obj) (h : w.cell? p = some v) : (w.alloc o).cell? p = some v := cell_kept (box_below o) h
theorem txt_beq (a b : Txt) : ((bytesT a).toList == (bytesT b).toList) = (a == b) := by rw [Lib.toList_data,Lib.toList_data]; rfl
/-- Cells of a box: one,two,three. -/
def Two (w : World) (B : Nat) (a b : Value) : Prop := w.cell? ⟨B,0,none⟩ = some a /\ w.cell? ⟨B,1,none⟩ = some b
theorem Two.below {w w' : World} {B : Nat} {a b : Value} (h : Two w B a b) (hb : Below w.heap.size w w') : Two w' B a b := ⟨cell_kept hb h.1,cell_kept hb h.2⟩
theorem two_new (w : World) (a b : Value) (t : TypeId) : Two (w.alloc (.cells #[a,b] t)) w.heap.size a b := by refine ⟨?_,?_⟩ <;> simp [go_sem]
def Three (w : World) (B : Nat) (a b c : Value) : Prop := w.cell? ⟨B,0,none⟩ = some a /\ w.cell? ⟨B,1,none⟩ = some b /\ w.cell? ⟨B,2,none⟩ = some c
theorem Three.below {w w' : World} {B : Nat} {a b c : Value} (h : Three w B a b c) (hb : Below w.heap.size w w') : Three w' B a b c := ⟨cell_kept hb h.1,cell_kept hb h.2.1,cell_kept hb h.2.2⟩
theorem three_new (w : World) (a b c : Value) (t : TypeId) : Three (w.alloc (.cells #[a,b,c] t)) w.heap.size a b c := by refine ⟨?_,?_,?_⟩ <;> simp [go_sem]
/-- A box of a label,unwritten. -/
def LBox (w : World) (B : Nat) : Prop := Two w B (.string ⟨#[]⟩) (.string ⟨#[]⟩) /\ (∀ o,w.frozen? ⟨B,o,none⟩ = false) /\ B < w.heap.size
theorem LBox.below {w w' : World} {B : Nat} (h : LBox w B) (hb : Below w.heap.size w w') : LBox w' B := ⟨h.1.below hb,fun o => by rw [hb.frozen (p := ⟨B,o,none⟩) h.2.2]; exact h.2.1 o,Nat.lt_of_lt_of_le h.2.2 hb.size⟩
end Go.Proofs.YtfpfdnapamdhjaaGreatDoor.Ta

/- Layer 5: the closures,and slices.ContainsFunc with them. -/
namespace Go.Proofs.YtfpfdnapamdhjaaGreatDoor.Ta
open Go.RowKit Suf Go.Proofs.YtfpfdnapamdhjaaGreatDoor.Val Go.Proofs.YtfpfdnapamdhjaaGreatDoor.Ta.Val

/-- How slices.IndexFunc goes over them. -/
def KeyAt (w : World) (B : Nat) (y : Lab) : Prop := w.cell? ⟨B,0,none⟩ = some (.string (bytesT y.1))
theorem KeyAt.below {w w' : World} {B : Nat} {y : Lab} (h : KeyAt w B y) (hb : Below w.heap.size w w') : KeyAt w' B y := cell_kept hb h
theorem enters_key : ∀ args w,(callFunc 149 args).run Tryz.prog w = .ok (.enter 149 args) w := enters_of Tryz.func149 (by kernel_rfl) rfl
def sameKey (y x : Lab) : Bool := x.1 == y.1
theorem closure_key (x y : Lab) (B : Nat) (W : World) (hc : KeyAt W B y) :
    Calls Tryz.prog 149 #[labV x,.pointer (some ⟨B,0,none⟩)] W fun e w' => e = .returned (.bool (sameKey y x)) /\ Below W.heap.size W w' := by
  unfold labV sameKey
  have hq := hide (txt_beq x.1 y.1)
  obtain ⟨X,hX⟩ : ∃ X,X = bytesT x.1 := ⟨_,rfl⟩
  obtain ⟨Z,hZ⟩ : ∃ Z,Z = bytesT x.2 := ⟨_,rfl⟩
  unfold KeyAt at hc
  obtain ⟨Y,hY⟩ : ∃ Y,Y = bytesT y.1 := ⟨_,rfl⟩
  rw [<- hX,<- hZ]
  rw [<- hY] at hc
  rw [<- hX,<- hY] at hq
  clear hX hY hZ
  have hc2 := cell_box (.cells #[.string X,.string Z] 118) hc
  clear hc
  obtain ⟨r,hr⟩ : ∃ r,r = (x.1 == y.1) := ⟨_,rfl⟩
  rw [<- hr] at hq ⊢
  clear hr
  go_enter Tryz.func149,Tryz.ntmps149
  go_wp2_with fail
  go_ret
  exact ⟨ret_bool (unhide hq),box_below _⟩

set_option maxRecDepth 100000 in
set_option maxHeartbeats 8000000 in
theorem index_key (B : Nat) (y : Lab) (v : Value) (l : List Lab) (w : World) (hv : Labs w v l) (hc : KeyAt w B y) :
    Calls Tryz.prog 165 #[v,.func (.func 149) #[] #[.pointer (some ⟨B,0,none⟩)]] w fun e w' => (∃ z : Int,e = .returned (.int .i64 z) /\ decide (0 <= z) = l.any (sameKey y)) /\ Below w.heap.size w w' := by
  have HV := hide hv
  have HC := hide hc
  have hlen := hv.len
  obtain ⟨a,c,rfl⟩ := hv.val
  obtain ⟨n,hn⟩ : ∃ n,n = l.length := ⟨_,rfl⟩
  rw [<- hn] at HV hlen ⊢
  have HN := hide hn
  clear hv hc hn
  obtain ⟨R,hR⟩ : ∃ R,R = l.any (sameKey y) := ⟨_,rfl⟩
  rw [<- hR]
  have HR := hide hR
  clear hR
  have eg := enters_key
  go_enter Tryz.func165,Tryz.ntmps165
  go_wp2_with fail
  go_loopw [8] (fun i W => ∃ k : Nat,k <= n /\ i = .int .i64 k /\ Hid ((l.take k).any (sameKey y) = false) /\ Hid (Below w.heap.size w W)) (fun i _ => n - (intOf i).toNat)
  case atStart => exact ⟨0,Nat.zero_le _,rfl,rfl,Below.refl _ _⟩
  case round =>
    obtain ⟨k,hk,rfl,hany,hbel⟩ := hrel
    by_cases hlt : k < n
    · have hlk : k < l.length := by rw [<- unhide HN]; exact hlt
      obtain ⟨b,o,rfl,hat⟩ := ((unhide HV).below (unhide hbel)).at hlk
      have hnx := hide (any_next (p := sameKey y) l k hlk)
      have hys := hide (any_yes (p := sameKey y) l k hlk)
      obtain ⟨x,hx⟩ : ∃ x,x = l[k] := ⟨_,rfl⟩
      rw [<- hx] at hat hnx hys
      have hcl := hide (closure_key x y B wr ((unhide HC).below (unhide hbel)))
      obtain ⟨q,hq⟩ : ∃ q,q = sameKey y x := ⟨_,rfl⟩
      rw [<- hq] at hnx hys hcl
      clear hq hx hlk
      obtain ⟨x0,x1⟩ := x
      obtain ⟨s0,s1,hs0,hs1⟩ := hat
      simp only at s0 s1
      clear hs0 hs1
      unfold labV at hcl
      simp only at hcl
      cases q
      · have hn2 : Hid ((l.take (k + 1)).any (sameKey y) = false) := by show _ = _; rw [unhide hnx,unhide hany]; rfl
        go_wp2_with (go_at_fn 149; refine (unhide hcl).mono ?_; rintro e w2 ⟨rfl,hw2⟩; have B2 := hide (chain (unhide hbel) hw2); clear hw2 s0 s1)
        exact ⟨⟨k + 1,by omega,by go_num,hn2,B2⟩,by simp [intOf]; omega⟩
      · have hfin : Hid (R = true) := by show _ = _; rw [unhide HR]; exact unhide hys rfl
        go_wp2_with (go_at_fn 149; refine (unhide hcl).mono ?_; rintro e w2 ⟨rfl,hw2⟩; have B2 := hide (chain (unhide hbel) hw2); clear hw2 s0 s1)
        go_ret
        exact ⟨⟨(k : Int),rfl,by rw [unhide hfin]; simp⟩,unhide B2⟩
    · obtain rfl : k = n := by omega
      have hfin : Hid (R = false) := by
        show _ = _
        have := unhide hany
        rw [List.take_of_length_le (by rw [<- unhide HN]; exact Nat.le_refl _)] at this
        rw [unhide HR,this]
      go_wp2_with fail
      go_ret
      exact ⟨⟨-1,rfl,by rw [unhide hfin]; rfl⟩,unhide hbel⟩
set_option maxHeartbeats 4000000 in
theorem contains_key (B : Nat) (y : Lab) (v : Value) (l : List Lab) (w : World) (hv : Labs w v l) (hc : KeyAt w B y) :
    Calls Tryz.prog 151 #[v,.func (.func 149) #[] #[.pointer (some ⟨B,0,none⟩)]] w fun e w' => e = .returned (.bool (l.any (sameKey y))) /\ Below w.heap.size w w' := by
  have hcon := hide (index_key B y v l w hv hc)
  obtain ⟨a,c,rfl⟩ := hv.val
  obtain ⟨n,hn⟩ : ∃ n,n = l.length := ⟨_,rfl⟩
  rw [<- hn] at hcon ⊢
  clear hv hc hn
  obtain ⟨R,hR⟩ : ∃ R,R = l.any (sameKey y) := ⟨_,rfl⟩
  rw [<- hR] at hcon ⊢
  clear hR
  go_enter Tryz.func151,Tryz.ntmps151
  go_wp2_with fail
  refine (unhide hcon).mono ?_
  rintro e w1 ⟨⟨z,rfl,hz⟩,hw1⟩
  have HZ := hide hz
  have B1 := hide hw1
  clear hz hw1
  go_wp2_with fail
  go_ret
  exact ⟨ret_bool (unhide HZ),unhide B1⟩
/-- How slices.IndexFunc goes over them. -/
def LabBox (w : World) (B : Nat) (y : Lab) : Prop := Two w B (.string (bytesT y.1)) (.string (bytesT y.2))
theorem LabBox.below {w w' : World} {B : Nat} {y : Lab} (h : LabBox w B y) (hb : Below w.heap.size w w') : LabBox w' B y := Two.below h hb
end Go.Proofs.YtfpfdnapamdhjaaGreatDoor.Ta

/- Layer 5: contracts of the program's Check and CheckTols. -/
namespace Go.Proofs.YtfpfdnapamdhjaaGreatDoor.Ta
open Go.RowKit Suf Go.Proofs.YtfpfdnapamdhjaaGreatDoor.Val Go.Proofs.YtfpfdnapamdhjaaGreatDoor.Ta.Val

theorem c6_drew {V W : World} {p0 p1 p2 p3 p4 p5 : Addr} {v0 v1 v2 v3 v4 v5 : Value} (h : Hid (Below V.heap.size V W) /\ W.cell? p0 = some v0 /\ W.cell? p1 = some v1 /\ W.cell? p2 = some v2 /\ W.cell? p3 = some v3 /\ W.cell? p4 = some v4 /\ W.cell? p5 = some v5) :
    Hid (Below V.heap.size V W.drew) /\ W.drew.cell? p0 = some v0 /\ W.drew.cell? p1 = some v1 /\ W.drew.cell? p2 = some v2 /\ W.drew.cell? p3 = some v3 /\ W.drew.cell? p4 = some v4 /\ W.drew.cell? p5 = some v5 := ⟨(unhide h.1).drew,h.2⟩
theorem c3_drew {V W : World} {p0 p1 p2 : Addr} {v0 v1 v2 : Value} (h : Hid (Below V.heap.size V W) /\ W.cell? p0 = some v0 /\ W.cell? p1 = some v1 /\ W.cell? p2 = some v2) :
    Hid (Below V.heap.size V W.drew) /\ W.drew.cell? p0 = some v0 /\ W.drew.cell? p1 = some v1 /\ W.drew.cell? p2 = some v2 := ⟨(unhide h.1).drew,h.2⟩
theorem c3_next {V W W' : World} {p0 p1 p2 : Addr} {v0 v1 v2 : Value} (h : Hid (Below V.heap.size V W) /\ W.cell? p0 = some v0 /\ W.cell? p1 = some v1 /\ W.cell? p2 = some v2) (hb : Below W.heap.size W W') :
    Hid (Below V.heap.size V W') /\ W'.cell? p0 = some v0 /\ W'.cell? p1 = some v1 /\ W'.cell? p2 = some v2 := ⟨chain (unhide h.1) hb,cell_kept hb h.2.1,cell_kept hb h.2.2.1,cell_kept hb h.2.2.2⟩
theorem tolGuard : Tryz.prog.eqGuardType Tryz.prog.depth 112 = false := by kernel_rfl
theorem eqF_cons {P : Program} (w : World) (d : Nat) (xs ys : Array Value) (f : Field) (fs : List Field) (hn : f.name ≠ "_") {a b : Value} (ha : (part f.type xs f.offset).run P w = .ok a w) (hb : (part f.type ys f.offset).run P w = .ok b w) {r : Bool}
    (hr : (Op.equalIn d f.type a b).run P w = .ok r w) : (Op.eqFields d xs ys (f :: fs)).run P w = if r = true then (Op.eqFields d xs ys fs).run P w else .ok false w := by
  conv => lhs; unfold Op.eqFields
  rw [if_pos hn]
  simp only [Sem.run_bind,ha,hb,hr,Result.andThen_ok]
  cases r <;> simp
theorem part_run {P : Program} (w : World) (t : TypeId) (xs : Array Value) (off : Nat) {v : Value} (hA : (isAgg t).run P w = .ok false w) (hx : xs[off]? = some v) : (part t xs off).run P w = .ok v w := by
  unfold part
  simp only [Sem.run_bind,hA,Result.andThen_ok]
  simp [hx]
theorem aggStr (w : World) : (isAgg 9).run Tryz.prog w = .ok false w := by kernel_rfl
theorem aggBool (w : World) : (isAgg 4).run Tryz.prog w = .ok false w := by kernel_rfl
theorem fieldsTol : ∃ f0 f1 f2 : Field, Tryz.prog.underlying 112 = some (.struct #[f0, f1, f2]) ∧ (f0.name ≠ "_" ∧ f0.type = 9 ∧ f0.offset = 0) ∧ (f1.name ≠ "_" ∧ f1.type = 9 ∧ f1.offset = 1) ∧ f2.name ≠ "_" ∧ f2.type = 4 ∧ f2.offset = 2 :=
  ⟨_,_,_,Tryz.underlying112,⟨by decide,rfl,rfl⟩,⟨by decide,rfl,rfl⟩,by decide,rfl,rfl⟩
theorem eqlTol (w : World) (a0 a1 b0 b1 : ByteArray) (p q : Bool) : (binOp .eql 112 (.agg #[.string a0,.string a1,.bool p]) (.agg #[.string b0,.string b1,.bool q])).run Tryz.prog w = .ok (.bool ((a0.toList == b0.toList) && (a1.toList == b1.toList) && (p == q))) w := by
  obtain ⟨f0,f1,f2,hS,⟨n0,t0,o0⟩,⟨n1,t1,o1⟩,n2,t2,o2⟩ := fieldsTol
  have hF : Tryz.prog.fieldsOf 112 = #[f0,f1,f2] := by unfold Program.fieldsOf; rw [hS]
  have hp : Tryz.prog.stoodInHeld 112 = false := by kernel_rfl
  rw [run_eql_struct,show (10000 : Nat) = 9999 + 1 from rfl,run_equalIn_agg w 9999 112 _ _ (by rw [hF]; exact hS) hp,hF]
  show ((Op.eqFields 9999 _ _ [f0,f1,f2]).run Tryz.prog w).andThen _ = _
  rw [eqF_cons w 9999 _ _ f0 _ n0 (by rw [t0,o0]; exact part_run w _ _ _ (aggStr w) rfl) (by rw [t0,o0]; exact part_run w _ _ _ (aggStr w) rfl) (by rw [t0]; exact run_equalIn_string w 9998 _ a0 b0 Tryz.underlying9),
    eqF_cons w 9999 _ _ f1 _ n1 (by rw [t1,o1]; exact part_run w _ _ _ (aggStr w) rfl) (by rw [t1,o1]; exact part_run w _ _ _ (aggStr w) rfl) (by rw [t1]; exact run_equalIn_string w 9998 _ a1 b1 Tryz.underlying9),
    eqF_cons w 9999 _ _ f2 _ n2 (by rw [t2,o2]; exact part_run w _ _ _ (aggBool w) rfl) (by rw [t2,o2]; exact part_run w _ _ _ (aggBool w) rfl) (by rw [t2]; exact run_equalIn_bool' w 9998 _ p q Tryz.underlying4)]
  obtain ⟨x,hx⟩ : ∃ x,x = (a0.toList == b0.toList) := ⟨_,rfl⟩
  obtain ⟨y,hy⟩ : ∃ x,x = (a1.toList == b1.toList) := ⟨_,rfl⟩
  rw [<- hx,<- hy]
  have he : (Op.eqFields 9999 #[.string a0,.string a1,.bool p] #[.string b0,.string b1,.bool q] []).run Tryz.prog w = .ok true w := rfl
  rw [he]
  cases x <;> cases y <;> cases p <;> cases q <;> rfl
theorem tol_beq (x y : VTol) : (((bytesT x.1).toList == (bytesT y.1).toList) && ((bytesT x.2.1).toList == (bytesT y.2.1).toList) && (x.2.2 == y.2.2)) = (x == y) := by
  rw [txt_beq,txt_beq]
  obtain ⟨x0,x1,x2⟩ := x
  obtain ⟨y0,y1,y2⟩ := y
  rw [Bool.eq_iff_iff]
  simp only [Bool.and_eq_true,beq_iff_eq,Prod.mk.injEq]
  exact ⟨fun ⟨⟨a,b⟩,c⟩ => ⟨a,b,c⟩,fun ⟨a,b,c⟩ => ⟨⟨a,b⟩,c⟩⟩
theorem tol_comm (x y : VTol) : (x == y) = (y == x) := by rw [Bool.eq_iff_iff]; simp only [beq_iff_eq]; exact eq_comm
def isTol (y x : VTol) : Bool := x == y

set_option maxRecDepth 100000 in
set_option maxHeartbeats 8000000 in
theorem index_tol (y : VTol) (v : Value) (l : List VTol) (w : World) (hv : Tols w v l) :
    Calls Tryz.prog 163 #[v,tolV y] w fun e w' => (∃ z : Int,e = .returned (.int .i64 z) /\ decide (0 <= z) = l.any (isTol y)) /\ Below w.heap.size w w' := by
  have HV := hide hv
  have hlen := hv.len
  obtain ⟨a,c,rfl⟩ := hv.val
  obtain ⟨n,hn⟩ : ∃ n,n = l.length := ⟨_,rfl⟩
  rw [<- hn] at HV hlen ⊢
  have HN := hide hn
  clear hv hn
  obtain ⟨R,hR⟩ : ∃ R,R = l.any (isTol y) := ⟨_,rfl⟩
  rw [<- hR]
  have HR := hide hR
  clear hR
  have HB := hide (fun x : VTol => (tol_beq y x).trans (tol_comm y x))
  unfold tolV
  obtain ⟨Y0,hY0⟩ : ∃ X,X = bytesT y.1 := ⟨_,rfl⟩
  obtain ⟨Y1,hY1⟩ : ∃ X,X = bytesT y.2.1 := ⟨_,rfl⟩
  obtain ⟨Y2,hY2⟩ : ∃ X,X = y.2.2 := ⟨_,rfl⟩
  rw [<- hY0,<- hY1,<- hY2] at HB ⊢
  clear hY0 hY1 hY2
  obtain ⟨W0,hW0⟩ : ∃ W,W = w.alloc (.cells #[.string Y0,.string Y1,.bool Y2] 112) := ⟨_,rfl⟩
  have B0 : Hid (Below w.heap.size w W0) := by rw [hW0]; exact box_below _
  have F0 : Hid (Three W0 w.heap.size (.string Y0) (.string Y1) (.bool Y2)) := by rw [hW0]; exact three_new _ _ _ _ _
  have GW0 := hide hW0
  clear hW0
  go_enter Tryz.func163,Tryz.ntmps163
  go_wp2_with fail
  rw [<- unhide GW0]
  go_loopw [8] (fun i W => ∃ k : Nat,k <= n /\ i = .int .i64 k /\ Hid ((l.take k).any (isTol y) = false) /\ Hid (Below W0.heap.size W0 W)) (fun i _ => n - (intOf i).toNat)
  case atStart => exact ⟨0,Nat.zero_le _,rfl,rfl,Below.refl _ _⟩
  case round =>
    obtain ⟨k,hk,rfl,hany,hbel⟩ := hrel
    by_cases hlt : k < n
    · have hlk : k < l.length := by rw [<- unhide HN]; exact hlt
      obtain ⟨b,o,rfl,s0,s1,s2,hz0,hz1⟩ := ((unhide HV).below (chain (unhide B0) (unhide hbel))).at hlk
      obtain ⟨t0,t1,t2⟩ := (unhide F0).below (unhide hbel)
      have hnx := hide (any_next (p := isTol y) l k hlk)
      have hys := hide (any_yes (p := isTol y) l k hlk)
      obtain ⟨x,hx⟩ : ∃ x,x = l[k] := ⟨_,rfl⟩
      rw [<- hx] at s0 s1 s2 hnx hys
      have hqq := unhide HB x
      obtain ⟨q,hq⟩ : ∃ q,q = isTol y x := ⟨_,rfl⟩
      rw [<- hq] at hnx hys
      have hqe : q = (x == y) := hq
      rw [<- hqe] at hqq
      obtain ⟨X0,hX0⟩ : ∃ X,X = bytesT x.1 := ⟨_,rfl⟩
      obtain ⟨X1,hX1⟩ : ∃ X,X = bytesT x.2.1 := ⟨_,rfl⟩
      obtain ⟨X2,hX2⟩ : ∃ X,X = x.2.2 := ⟨_,rfl⟩
      rw [<- hX0] at hqq s0
      rw [<- hX1] at hqq s1
      rw [<- hX2] at hqq s2
      have qT : ∀ W,(binOp .eql 112 (.agg #[.string Y0,.string Y1,.bool Y2]) (.agg #[.string X0,.string X1,.bool X2])).run Tryz.prog W = .ok (.bool q) W := fun W => by rw [eqlTol,hqq]
      have qG := tolGuard
      clear hz0 hz1 hq hqe hx hlk hqq hX0 hX1 hX2
      have hS := And.intro (show Hid (Below wr.heap.size wr wr) from Below.refl _ _) (And.intro s0 (And.intro s1 (And.intro s2 (And.intro t0 (And.intro t1 t2)))))
      have i0 : (0 : Int) <= (k : Int) := by omega
      have i1 : (k : Int) < (n : Int) := by omega
      clear s0 s1 s2 t0 t1 t2
      go_wp2_with fail
      go_region_held3 (fun W => Hid (Below wr.heap.size wr W) /\ W.cell? ⟨b,o + k * 3,none⟩ = some (.string X0) /\ W.cell? ⟨b,o + k * 3 + 1,none⟩ = some (.string X1) /\ W.cell? ⟨b,o + k * 3 + 2,none⟩ = some (.bool X2) /\ W.cell? ⟨w.heap.size,0,none⟩ = some (.string Y0) /\ W.cell? ⟨w.heap.size,1,none⟩ = some (.string Y1) /\ W.cell? ⟨w.heap.size,2,none⟩ = some (.bool Y2))
        (first | (with_reducible exact hS) | (with_reducible assumption) | (with_reducible refine c6_drew ?_; with_reducible assumption))
        (fail)
      rename_i hH
      have B2 := hide (chain (unhide hbel) (unhide hH.1))
      clear hH hS qT qG
      cases q
      · have hn2 : Hid ((l.take (k + 1)).any (isTol y) = false) := by show _ = _; rw [unhide hnx,unhide hany]; rfl
        go_wp2_with fail
        go_roundw
        case rel => exact ⟨k + 1,by omega,by go_num,hn2,B2⟩
        case measure => simp [intOf]; omega
      · have hfin : Hid (R = true) := by show _ = _; rw [unhide HR]; exact unhide hys rfl
        go_wp2_with fail
        go_ret
        exact ⟨⟨(k : Int),rfl,by rw [unhide hfin]; simp⟩,chain (unhide B0) (unhide B2)⟩
    · obtain rfl : k = n := by omega
      have hfin : Hid (R = false) := by
        show _ = _
        have := unhide hany
        rw [List.take_of_length_le (by rw [<- unhide HN]; exact Nat.le_refl _)] at this
        rw [unhide HR,this]
      go_wp2_with fail
      go_ret
      exact ⟨⟨-1,rfl,by rw [unhide hfin]; rfl⟩,chain (unhide B0) (unhide hbel)⟩
set_option maxHeartbeats 4000000 in
theorem contains_tol (y : VTol) (v : Value) (l : List VTol) (w : World) (hv : Tols w v l) :
    Calls Tryz.prog 147 #[v,tolV y] w fun e w' => e = .returned (.bool (l.any (isTol y))) /\ Below w.heap.size w w' := by
  have HV := hide hv
  obtain ⟨a,c,rfl⟩ := hv.val
  obtain ⟨n,hn⟩ : ∃ n,n = l.length := ⟨_,rfl⟩
  rw [<- hn] at HV ⊢
  clear hv hn
  have hcon := hide (fun W => index_tol y (.slice a n c) l W)
  obtain ⟨R,hR⟩ : ∃ R,R = l.any (isTol y) := ⟨_,rfl⟩
  rw [<- hR] at hcon ⊢
  clear hR
  unfold tolV at hcon ⊢
  obtain ⟨Y0,hY0⟩ : ∃ X,X = bytesT y.1 := ⟨_,rfl⟩
  obtain ⟨Y1,hY1⟩ : ∃ X,X = bytesT y.2.1 := ⟨_,rfl⟩
  obtain ⟨Y2,hY2⟩ : ∃ X,X = y.2.2 := ⟨_,rfl⟩
  rw [<- hY0,<- hY1,<- hY2] at hcon ⊢
  clear hY0 hY1 hY2
  have B0 := hide (box_below (w := w) (.cells #[.string Y0,.string Y1,.bool Y2] 112))
  go_enter Tryz.func147,Tryz.ntmps147
  go_wp2_with fail
  refine (unhide hcon _ ((unhide HV).below (unhide B0))).mono ?_
  rintro e w1 ⟨⟨z,rfl,hz⟩,hw1⟩
  have HZ := hide hz
  have B1 := hide (chain (unhide B0) hw1)
  clear hz hw1
  go_wp2_with fail
  go_ret
  exact ⟨ret_bool (unhide HZ),unhide B1⟩
set_option maxHeartbeats 4000000 in
theorem formed_any (x : VTol) (w : World) (hL : Laid w) (hs : short x.2.1) :
    Calls Tryz.prog 146 #[tolV x] w fun e w' => e = .returned (.bool (formedB x)) /\ Below w.heap.size w w' := by
  have HL := hide hL
  have HS := hide hs
  clear hL hs
  obtain ⟨x0,x1,q⟩ := x
  unfold tolV formedB
  simp only at HS ⊢
  have B0 := hide (box_below (w := w) (.cells #[.string (bytesT x0),.string (bytesT x1),.bool q] 112))
  cases q
  · have hvl := hide (fun W h => value_any (bytesT x1) W (short_size (unhide HS)) h)
    rw [bytesT_list] at hvl
    obtain ⟨r,hr⟩ : ∃ r,r = valueB x1 := ⟨_,rfl⟩
    rw [<- hr] at hvl ⊢
    obtain ⟨X0,hX0⟩ : ∃ X,X = bytesT x0 := ⟨_,rfl⟩
    obtain ⟨X1,hX1⟩ : ∃ X,X = bytesT x1 := ⟨_,rfl⟩
    rw [<- hX0,<- hX1] at B0 ⊢
    rw [<- hX1] at hvl
    clear hX0 hX1 hr
    simp only [Bool.false_eq_true,if_false]
    go_enter Tryz.func146,Tryz.ntmps146
    go_wp2_with fail
    refine (unhide hvl _ ((unhide HL).below (unhide B0))).mono ?_
    rintro e w1 ⟨rfl,hw1⟩
    have B1 := hide (chain (unhide B0) hw1)
    clear hw1
    go_wp2_with fail
    go_ret
    exact ⟨rfl,unhide B1⟩
  · have hq := txt_beq x1 []
    obtain ⟨r,hr⟩ : ∃ r,r = (x1 == ([] : Txt)) := ⟨_,rfl⟩
    have hr2 : decide (x1 = ([] : Txt)) = r := by rw [hr,Bool.eq_iff_iff]; simp
    rw [<- hr] at hq
    rw [if_pos rfl,hr2]
    obtain ⟨X0,hX0⟩ : ∃ X,X = bytesT x0 := ⟨_,rfl⟩
    obtain ⟨X1,hX1⟩ : ∃ X,X = bytesT x1 := ⟨_,rfl⟩
    rw [<- hX0,<- hX1] at B0 ⊢
    rw [<- hX1] at hq
    clear hX0 hX1 hr hr2
    have hq2 : Hid (X1.toList.isEmpty = r) := by
      show _ = _
      rw [<- hq,show (bytesT ([] : Txt)).toList = [] by rw [Lib.toList_data]; rfl]
      cases X1.toList with
      | nil => rfl
      | cons a l => rfl
    clear hq
    go_enter Tryz.func146,Tryz.ntmps146
    go_wp2_with fail
    go_ret
    exact ⟨ret_bool (unhide hq2),unhide B0⟩
end Go.Proofs.YtfpfdnapamdhjaaGreatDoor.Ta
