/- Layer 4: labels in memory,and by their keys in a map; contract of keyed. -/
import Derived.Test.YtfpfdnapamdhjaaGreatDoorRqBGZ
import Derived.Test.YtfpfdnapamdhjaaGreatDoorV3NGZ
import Derived.Test.YtfpfdnapamdhjaaGreatDoorMpOZ
namespace Go.Proofs.YtfpfdnapamdhjaaGreatDoor
open Go.RowKit Suf Val Go.Maps

/-- What a map keyed by texts holds,with k stores at the most. -/
def MapOf (w : World) (b : Nat) (f : Txt -> Option Value) (k : Nat) : Prop :=
  ∃ n D,w.ownsMap Tryz.prog 9 selfElem b n D /\ n <= k /\ ∀ x,Maps.has D (.string x) = (f x).isSome /\ ∀ v,f x = some v -> ∀ z,D.atKey (.string x) z = .held v
theorem MapOf.lt {w : World} {b k : Nat} {f : Txt -> Option Value} (h : MapOf w b f k) : b < w.heap.size := by obtain ⟨n,D,ho,_⟩ := h; exact ho.lt
theorem MapOf.kept {w w' : World} {b k : Nat} {row : Option Nat} {f : Txt -> Option Value} (h : MapOf w b f k) (hg : w.grownBy w' row) (hne : some b ≠ row) : MapOf w' b f k := by
  obtain ⟨n,D,ho,h2⟩ := h; exact ⟨n,D,ho.kept hg hne,h2⟩
theorem MapOf.below {w w' : World} {b k : Nat} {f : Txt -> Option Value} (h : MapOf w b f k) (hb : Below w.heap.size w w') : MapOf w' b f k := h.kept (below_grownBy hb) (by simp)
theorem MapOf.congr {w : World} {b k : Nat} {f g : Txt -> Option Value} (h : MapOf w b f k) (he : ∀ x,f x = g x) : MapOf w b g k := by
  have : f = g := funext he
  rw [<- this]; exact h
section
variable {w : World} {ops : Array Oper} {rest : List Oper} {o : Oper} {a : Act} {Q : Exit -> Act -> World -> Prop}
end

/-- Labels in memory. -/
def LabAt (w : World) (b o : Nat) (x : Lab) : Prop := w.cell? ⟨b,o,none⟩ = some (.string (bytesT x.1)) /\ w.cell? ⟨b,o + 1,none⟩ = some (.string (bytesT x.2)) /\ short x.1 /\ short x.2
theorem LabAt.below {w w' : World} {b o : Nat} {x : Lab} (h : LabAt w b o x) (hb : Below w.heap.size w w') : LabAt w' b o x := ⟨cell_kept hb h.1,cell_kept hb h.2.1,h.2.2⟩
def Labs (w : World) (v : Value) (l : List Lab) : Prop :=
  ∃ a c,v = .slice a l.length c /\ (∀ j (h : j < l.length),∃ b o,a = some ⟨b,o,none⟩ /\ LabAt w b (o + j * 2) l[j]) /\ l.length <= 4398046511104
theorem Labs.below {w w' : World} {v : Value} {l : List Lab} (h : Labs w v l) (hb : Below w.heap.size w w') : Labs w' v l := by
  obtain ⟨a,c,e,hc,hl⟩ := h
  exact ⟨a,c,e,fun j hj => by obtain ⟨b,o,e2,h2⟩ := hc j hj; exact ⟨b,o,e2,h2.below hb⟩,hl⟩
theorem Labs.val {w : World} {v : Value} {l : List Lab} (h : Labs w v l) : ∃ a c,v = .slice a l.length c := by obtain ⟨a,c,e,_⟩ := h; exact ⟨a,c,e⟩
theorem Labs.len {w : World} {v : Value} {l : List Lab} (h : Labs w v l) : l.length <= 4398046511104 := by obtain ⟨_,_,_,_,h⟩ := h; exact h
theorem Labs.at {w : World} {a : Option Addr} {n c : Nat} {l : List Lab} (h : Labs w (.slice a n c) l) {j : Nat} (hj : j < l.length) : ∃ b o,a = some ⟨b,o,none⟩ /\ LabAt w b (o + j * 2) l[j] := by
  obtain ⟨a',c',e,hc,_⟩ := h
  injection e with e1 e2 e3
  subst e1
  exact hc j hj
def labV (k v : Txt) : Value := .agg #[.string (bytesT k),.string (bytesT v)]

end Go.Proofs.YtfpfdnapamdhjaaGreatDoor

/- Layer 4: contracts of Check,admits,Admits. -/
namespace Go.Proofs.YtfpfdnapamdhjaaGreatDoor
open Go.RowKit Suf Val Go.Maps

/-- The seven cells of a keyed set. -/
def Seven (w : World) (B o : Nat) (x : VKS) : Prop :=
  w.cell? ⟨B,o,none⟩ = some (.string (bytesT x.2.1)) /\ w.cell? ⟨B,o + 1,none⟩ = some (.bool x.2.2.miss) /\ w.cell? ⟨B,o + 2,none⟩ = some (.bool x.2.2.no) /\ w.cell? ⟨B,o + 3,none⟩ = some (.bool x.2.2.num) /\ w.cell? ⟨B,o + 4,none⟩ = some x.1 /\ w.cell? ⟨B,o + 5,none⟩ = some (.int .i64 x.2.2.lo) /\ w.cell? ⟨B,o + 6,none⟩ = some (.int .i64 x.2.2.hi)
theorem Seven.below {w w' : World} {B o : Nat} {x : VKS} (h : Seven w B o x) (hb : Below w.heap.size w w') : Seven w' B o x :=
  ⟨cell_kept hb h.1,cell_kept hb h.2.1,cell_kept hb h.2.2.1,cell_kept hb h.2.2.2.1,cell_kept hb h.2.2.2.2.1,cell_kept hb h.2.2.2.2.2.1,cell_kept hb h.2.2.2.2.2.2⟩
theorem flatK_at : ∀ (xs : List VKS) (j : Nat) (h : j < xs.length) (i : Nat),i < 7 -> (flatK xs)[j * 7 + i]? = (encK xs[j])[i]?
  | [],j,h,_,_ => by simp at h
  | x :: xs,0,_,i,hi => by
    unfold flatK
    rw [List.flatMap_cons,List.getElem?_append_left (by show 0 * 7 + i < 7; omega)]; simp
  | x :: xs,j + 1,h,i,hi => by
    have e : flatK (x :: xs) = encK x ++ flatK xs := by unfold flatK; rw [List.flatMap_cons]
    rw [e,List.getElem?_append_right (by show 7 <= _; omega),show (j + 1) * 7 + i - (encK x).length = j * 7 + i by show (j + 1) * 7 + i - 7 = _; omega]
    exact flatK_at xs j (by simpa using h) i hi
theorem OwnK.at {T : TypeId} {w : World} {base n c : Nat} {a : Option Addr} {xs : List VKS} (h : OwnK T w base (.slice a n c) xs) {j : Nat} (hj : j < xs.length) : ∃ g,a = some ⟨g,0,none⟩ /\ Seven w g (j * 7) xs[j] := by
  have hown := h.1
  rcases hown.2 with ⟨e,hn⟩ | ⟨g,cap,cur,e,_⟩
  · omega
  · injection e with e1 e2 e3
    subst e1 e2 e3
    have hc : ∀ i,i < 7 -> w.cell? ⟨g,j * 7 + i,none⟩ = (encK xs[j])[i]? := fun i hi => by rw [hown.cellAt (j * 7 + i) (by omega),flatK_at xs j hj i hi]
    exact ⟨g,rfl,hc 0 (by omega),hc 1 (by omega),hc 2 (by omega),hc 3 (by omega),hc 4 (by omega),hc 5 (by omega),hc 6 (by omega)⟩

set_option maxRecDepth 100000 in
set_option maxHeartbeats 4000000 in
theorem rcheckL_any (v : Value) (l : List VReq) (w : World) (hL : Laid w) (hv : Reqs w v l) :
    Calls Tryz.prog 107 #[v] w fun e w' => e = .returned (.int .i64 (moreR 8 l)) /\ Below w.heap.size w w' := by
  have HL := hide hL
  have HV := hide hv
  obtain ⟨a,c,rfl⟩ := hv.val
  clear hL hv
  obtain ⟨n,hn⟩ : ∃ n,n = l.length := ⟨_,rfl⟩
  rw [<- hn] at HV ⊢
  clear hn
  go_enter Tryz.func107,Tryz.ntmps107
  go_wp2_with fail
  refine (each_any _ l 8 _ (unhide HL) (unhide HV) (by decide)).mono ?_
  rintro e w1 (⟨h0,rfl,hw1⟩ | ⟨h0,v',xs,rfl,hxs,hown,hw1⟩)
  · have B1 := hide hw1
    clear hw1 h0
    go_wp2_with fail
    go_ret
    exact ⟨rfl,unhide B1⟩
  · have B1 := hide hw1
    have H0 := hide h0
    obtain ⟨xa,xc,hxe⟩ := hown.val
    clear hw1 h0 hown hxs
    subst hxe
    go_wp2_with fail
    go_ret
    exact ⟨ret_int (unhide H0).symm,unhide B1⟩

theorem Labs.short {w : World} {v : Value} {l : List Lab} (h : Labs w v l) : ∀ y ∈ l,short y.2 := by
  obtain ⟨a,c,e,hc,_⟩ := h
  intro y hy
  obtain ⟨j,hj,rfl⟩ := List.getElem_of_mem hy
  obtain ⟨b,o,_,h2⟩ := hc j hj
  exact h2.2.2.2

end Go.Proofs.YtfpfdnapamdhjaaGreatDoor
