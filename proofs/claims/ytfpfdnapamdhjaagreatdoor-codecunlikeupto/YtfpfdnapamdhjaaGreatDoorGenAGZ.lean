/- Lists in memory,said once for every kind of element: how an element's cells read,a list of them,a row of the call's own,appends. No function of the program is named. -/
import Derived.Test.YtfpfdnapamdhjaaGreatDoorKitAZ
import Derived.Laws.OwnMore
import Derived.Laws.AppendOwn
import Derived.Deep.AppendLies
import Derived.Test.YtfpfdnapamdhjaaGreatDoorTxtAGZ
import Derived.SizedLaws
namespace Go.Proofs.YtfpfdnapamdhjaaGreatDoor
open Go.RowKit

/-- How values of a kind lie in memory: so many cells; what they hold (and what is asked of what they lead to). -/
structure Rep (α : Type) where
  size : Nat
  R : World -> List Value -> α -> Prop
  len : ∀ {w : World} {cs : List Value} {x : α},R w cs x -> cs.length = size
  one : ∀ {w : World} {cs : List Value} {x : α},R w cs x -> ∀ u ∈ cs,u.oneCell' = true
  below : ∀ {w w' : World} {cs : List Value} {x : α},R w cs x -> Below w.heap.size w w' -> R w' cs x
section
variable {α : Type}
def At (K : Rep α) (w : World) (b o : Nat) (x : α) : Prop := ∃ cs,K.R w cs x /\ ∀ i u,cs[i]? = some u -> w.cell? ⟨b,o + i,none⟩ = some u
theorem At.below {K : Rep α} {w w' : World} {b o : Nat} {x : α} (h : At K w b o x) (hb : Below w.heap.size w w') : At K w' b o x := by
  obtain ⟨cs,h1,h2⟩ := h
  exact ⟨cs,K.below h1 hb,fun i u hu => cell_kept hb (h2 i u hu)⟩
def Lst (K : Rep α) (w : World) (v : Value) (l : List α) : Prop :=
  ∃ a c,v = .slice a l.length c /\ (∀ j (h : j < l.length),∃ b o,a = some ⟨b,o,none⟩ /\ At K w b (o + j * K.size) l[j]) /\ l.length <= c /\ l.length <= 17592186044416
theorem Lst.below {K : Rep α} {w w' : World} {v : Value} {l : List α} (h : Lst K w v l) (hb : Below w.heap.size w w') : Lst K w' v l := by
  obtain ⟨a,c,e,hc,hl⟩ := h
  exact ⟨a,c,e,fun j hj => by obtain ⟨b,o,e2,h2⟩ := hc j hj; exact ⟨b,o,e2,h2.below hb⟩,hl⟩
theorem Lst.val {K : Rep α} {w : World} {v : Value} {l : List α} (h : Lst K w v l) : ∃ a c,v = .slice a l.length c := by obtain ⟨a,c,e,_⟩ := h; exact ⟨a,c,e⟩
theorem Lst.len {K : Rep α} {w : World} {v : Value} {l : List α} (h : Lst K w v l) : l.length <= 17592186044416 := by obtain ⟨_,_,_,_,_,h⟩ := h; exact h
theorem Lst.cap {K : Rep α} {w : World} {a : Option Addr} {n c : Nat} {l : List α} (h : Lst K w (.slice a n c) l) : n = l.length /\ l.length <= c := by
  obtain ⟨_,_,e,_,h,_⟩ := h
  injection e with e1 e2 e3
  omega
theorem Lst.at {K : Rep α} {w : World} {a : Option Addr} {n c : Nat} {l : List α} (h : Lst K w (.slice a n c) l) {j : Nat} (hj : j < l.length) : ∃ b o,a = some ⟨b,o,none⟩ /\ At K w b (o + j * K.size) l[j] := by
  obtain ⟨a',c',e,hc,_⟩ := h
  injection e with e1 e2 e3
  subst e1
  exact hc j hj
theorem lst_nil (K : Rep α) (w : World) (c : Nat) : Lst K w (.slice none 0 c) [] := ⟨none,c,rfl,fun j hj => absurd hj (Nat.not_lt_zero _),Nat.zero_le _,by simp⟩
theorem Lst.take {K : Rep α} {w : World} {a : Option Addr} {n c k : Nat} {l : List α} (h : Lst K w (.slice a n c) l) (hk : k <= l.length) : Lst K w (.slice a k c) (l.take k) := by
  have hl := h.len
  have hcap := h.cap
  have e : (l.take k).length = k := by rw [List.length_take]; omega
  refine ⟨a,c,by rw [e],fun j hj => ?_,by omega,by omega⟩
  obtain ⟨b,o,e2,h2⟩ := h.at (j := j) (by omega)
  exact ⟨b,o,e2,by rw [List.getElem_take]; exact h2⟩
theorem Lst.drop {K : Rep α} {w : World} {b o n c k : Nat} {l : List α} (h : Lst K w (.slice (some ⟨b,o,none⟩) n c) l) (hk : k <= l.length) : Lst K w (.slice (some ⟨b,o + k * K.size,none⟩) (n - k) (c - k)) (l.drop k) := by
  have hl := h.len
  have hcap := h.cap
  have e : (l.drop k).length = n - k := by rw [List.length_drop]; omega
  refine ⟨_,_,by rw [e],fun j hj => ⟨b,o + k * K.size,rfl,?_⟩,by omega,by omega⟩
  obtain ⟨b',o',e2,h2⟩ := h.at (j := k + j) (by omega)
  injection e2 with e2
  injection e2 with e3 e4
  subst e3
  subst e4
  rw [List.getElem_drop,Nat.add_assoc,<- Nat.add_mul]
  exact h2

/-! Rows of cells that hold such elements. -/
def RowsOf (K : Rep α) (w : World) (news : List Value) (l : List α) : Prop := ∃ css : List (List Value),news = css.flatten /\ css.length = l.length /\ ∀ j (h : j < css.length) (h' : j < l.length),K.R w css[j] l[j]
theorem RowsOf.append {K : Rep α} {w : World} {n1 n2 : List Value} {l1 l2 : List α} (h1 : RowsOf K w n1 l1) (h2 : RowsOf K w n2 l2) : RowsOf K w (n1 ++ n2) (l1 ++ l2) := by
  obtain ⟨c1,e1,k1,r1⟩ := h1
  obtain ⟨c2,e2,k2,r2⟩ := h2
  refine ⟨c1 ++ c2,by rw [List.flatten_append,e1,e2],by rw [List.length_append,List.length_append,k1,k2],fun j h h' => ?_⟩
  by_cases hj : j < c1.length
  · rw [List.getElem_append_left hj,List.getElem_append_left (by omega)]; exact r1 j hj (by omega)
  · rw [List.getElem_append_right (by omega),List.getElem_append_right (by omega)]
    have := r2 (j - c1.length) (by rw [List.length_append] at h; omega) (by rw [List.length_append] at h'; omega)
    simp only [k1] at this ⊢
    exact this
theorem RowsOf.below {K : Rep α} {w w' : World} {news : List Value} {l : List α} (h : RowsOf K w news l) (hb : Below w.heap.size w w') : RowsOf K w' news l := by
  obtain ⟨c,e,k,r⟩ := h
  exact ⟨c,e,k,fun j h h' => K.below (r j h h') hb⟩
theorem flatten_at {n : Nat} : ∀ {css : List (List Value)},(∀ cs ∈ css,cs.length = n) -> ∀ {j i : Nat},i < n -> (css.flatten)[j * n + i]? = (css[j]?).bind (fun cs => cs[i]?)
  | [],_,j,i,_ => by simp
  | cs :: css,h,0,i,hi => by
    have h0 := h cs (by simp)
    rw [List.flatten_cons,List.getElem?_append_left (by omega)]
    simp
  | cs :: css,h,j + 1,i,hi => by
    have h0 := h cs (by simp)
    rw [List.flatten_cons,List.getElem?_append_right (by rw [Nat.add_mul]; omega),show (j + 1) * n + i - cs.length = j * n + i by rw [Nat.add_mul]; omega,flatten_at (fun c hc => h c (by simp [hc])) hi]
    simp
theorem flatten_len {n : Nat} : ∀ {css : List (List Value)},(∀ cs ∈ css,cs.length = n) -> css.flatten.length = css.length * n
  | [],_ => by simp
  | cs :: css,h => by
    have h0 := h cs (by simp)
    rw [List.flatten_cons,List.length_append,h0,flatten_len (fun c hc => h c (by simp [hc])),List.length_cons,Nat.add_mul]
    omega
theorem css_len {K : Rep α} {w : World} {css : List (List Value)} {l : List α} (hk : css.length = l.length) (hr : ∀ j (h : j < css.length) (h' : j < l.length),K.R w css[j] l[j]) : ∀ cs ∈ css,cs.length = K.size := fun cs hcs => by
  obtain ⟨j,hj,rfl⟩ := List.mem_iff_getElem.1 hcs
  exact K.len (hr j hj (by omega))
theorem RowsOf.len {K : Rep α} {w : World} {news : List Value} {l : List α} (h : RowsOf K w news l) : news.length = l.length * K.size := by
  obtain ⟨c,rfl,k,r⟩ := h
  rw [flatten_len (css_len k r),k]
theorem RowsOf.one {K : Rep α} {w : World} {news : List Value} {l : List α} (h : RowsOf K w news l) : ∀ u ∈ news,u.oneCell' = true := by
  obtain ⟨c,rfl,k,r⟩ := h
  intro u hu
  obtain ⟨cs,hcs,hu⟩ := List.mem_flatten.1 hu
  obtain ⟨j,hj,rfl⟩ := List.mem_iff_getElem.1 hcs
  exact K.one (r j hj (by omega)) u hu
theorem RowsOf.at {K : Rep α} {w : World} {news : List Value} {l : List α} (h : RowsOf K w news l) {j : Nat} (hj : j < l.length) : ∃ cs,K.R w cs l[j] /\ ∀ i u,cs[i]? = some u -> news[j * K.size + i]? = some u := by
  obtain ⟨c,rfl,k,r⟩ := h
  have hjc : j < c.length := by omega
  refine ⟨c[j],r j hjc hj,fun i u hu => ?_⟩
  have hi : i < K.size := by
    have h1 := (List.getElem?_eq_some_iff.1 hu).1
    rw [K.len (r j hjc hj)] at h1
    exact h1
  rw [flatten_at (css_len k r) hi,List.getElem?_eq_getElem hjc]
  exact hu
/-- A row of the call's own,as a list. -/
theorem rows_lst {K : Rep α} {w : World} {base : Nat} {T : TypeId} {v : Value} {n : Nat} {news : List Value} {l : List α} (h : w.ownsRow base T K.size v n news) (hr : RowsOf K w news l) (hn : n = l.length) (hl : l.length <= 17592186044416) : Lst K w v l := by
  subst hn
  rcases h.2 with ⟨rfl,h0⟩ | ⟨g,cap,cur,rfl,hb,hg,hcap,hmax,hsz,htk⟩
  · exact ⟨none,0,by rw [h0],fun j hj => by omega,by omega,hl⟩
  · refine ⟨some ⟨g,0,none⟩,cap,rfl,fun j hj => ⟨g,0,rfl,?_⟩,hcap,hl⟩
    obtain ⟨cs,h1,h2⟩ := hr.at hj
    refine ⟨cs,h1,fun i u hu => ?_⟩
    have hi : i < K.size := by
      have h3 := (List.getElem?_eq_some_iff.1 hu).1
      rw [K.len h1] at h3
      exact h3
    have hlt : j * K.size + i < l.length * K.size := by
      have h4 : (j + 1) * K.size <= l.length * K.size := Nat.mul_le_mul_right _ hj
      rw [Nat.add_mul] at h4
      omega
    rw [Nat.zero_add,h.cellAt (j * K.size + i) hlt]
    exact h2 i u hu
end
end Go.Proofs.YtfpfdnapamdhjaaGreatDoor

/- Kinds made of kinds; appends to rows of the call's own,said once. No function of the program is named. -/
namespace Go.Proofs.YtfpfdnapamdhjaaGreatDoor
open Go.RowKit Val

def strK : Rep Txt where
  size := 1
  R := fun _ cs t => cs = [.string (bytesT t)] /\ short t
  len := fun h => by rw [h.1]; rfl
  one := fun h u hu => by rw [h.1] at hu; simp at hu; subst hu; rfl
  below := fun h _ => h
def intK : Rep Int where
  size := 1
  R := fun _ cs z => cs = [.int .i64 z]
  len := fun h => by rw [h]; rfl
  one := fun h u hu => by rw [h] at hu; simp at hu; subst hu; rfl
  below := fun h _ => h
def boolK : Rep Bool where
  size := 1
  R := fun _ cs z => cs = [.bool z]
  len := fun h => by rw [h]; rfl
  one := fun h u hu => by rw [h] at hu; simp at hu; subst hu; rfl
  below := fun h _ => h
section
variable {α β : Type}
def listK (K : Rep α) : Rep (List α) where
  size := 1
  R := fun w cs l => ∃ v,cs = [v] /\ Lst K w v l
  len := fun h => by obtain ⟨v,rfl,_⟩ := h; rfl
  one := fun h u hu => by
    obtain ⟨v,rfl,hl⟩ := h
    obtain ⟨a,c,rfl⟩ := hl.val
    simp at hu; subst hu; rfl
  below := fun h hb => by
    obtain ⟨v,e,hl⟩ := h
    exact ⟨v,e,hl.below hb⟩
def pairK (K : Rep α) (L : Rep β) : Rep (α × β) where
  size := K.size + L.size
  R := fun w cs x => ∃ c1 c2,cs = c1 ++ c2 /\ K.R w c1 x.1 /\ L.R w c2 x.2
  len := fun h => by obtain ⟨c1,c2,rfl,h1,h2⟩ := h; rw [List.length_append,K.len h1,L.len h2]
  one := fun h u hu => by
    obtain ⟨c1,c2,rfl,h1,h2⟩ := h
    rcases List.mem_append.1 hu with hu | hu
    · exact K.one h1 u hu
    · exact L.one h2 u hu
  below := fun h hb => by
    obtain ⟨c1,c2,e,h1,h2⟩ := h
    exact ⟨c1,c2,e,K.below h1 hb,L.below h2 hb⟩
/-- The same cells,another name. -/
def isoK (K : Rep α) (f : β -> α) : Rep β where
  size := K.size
  R := fun w cs x => K.R w cs (f x)
  len := fun h => K.len h
  one := fun h => K.one h
  below := fun h hb => K.below h hb
theorem at_str {w : World} {b o : Nat} {t : Txt} : At strK w b o t ↔ w.cell? ⟨b,o,none⟩ = some (.string (bytesT t)) /\ short t := by
  constructor
  · rintro ⟨cs,⟨rfl,h⟩,hc⟩
    exact ⟨hc 0 _ rfl,h⟩
  · rintro ⟨h1,h2⟩
    refine ⟨_,⟨rfl,h2⟩,fun i u hu => ?_⟩
    match i,hu with
    | 0,hu => injection hu with hu; subst hu; exact h1
    | i + 1,hu => cases hu
theorem at_int {w : World} {b o : Nat} {z : Int} : At intK w b o z ↔ w.cell? ⟨b,o,none⟩ = some (.int .i64 z) := by
  constructor
  · rintro ⟨cs,rfl,hc⟩
    exact hc 0 _ rfl
  · intro h1
    refine ⟨_,rfl,fun i u hu => ?_⟩
    match i,hu with
    | 0,hu => injection hu with hu; subst hu; exact h1
    | i + 1,hu => cases hu
theorem at_bool {w : World} {b o : Nat} {z : Bool} : At boolK w b o z ↔ w.cell? ⟨b,o,none⟩ = some (.bool z) := by
  constructor
  · rintro ⟨cs,rfl,hc⟩
    exact hc 0 _ rfl
  · intro h1
    refine ⟨_,rfl,fun i u hu => ?_⟩
    match i,hu with
    | 0,hu => injection hu with hu; subst hu; exact h1
    | i + 1,hu => cases hu
theorem at_lst {K : Rep α} {w : World} {b o : Nat} {l : List α} : At (listK K) w b o l ↔ ∃ v,w.cell? ⟨b,o,none⟩ = some v /\ Lst K w v l := by
  constructor
  · rintro ⟨cs,⟨v,rfl,h⟩,hc⟩
    exact ⟨v,hc 0 _ rfl,h⟩
  · rintro ⟨v,h1,h2⟩
    refine ⟨_,⟨v,rfl,h2⟩,fun i u hu => ?_⟩
    match i,hu with
    | 0,hu => injection hu with hu; subst hu; exact h1
    | i + 1,hu => cases hu
theorem at_pair {K : Rep α} {L : Rep β} {w : World} {b o : Nat} {x : α} {y : β} : At (pairK K L) w b o (x,y) ↔ At K w b o x /\ At L w b (o + K.size) y := by
  constructor
  · rintro ⟨cs,⟨c1,c2,rfl,h1,h2⟩,hc⟩
    refine ⟨⟨c1,h1,fun i u hu => hc i u ?_⟩,⟨c2,h2,fun i u hu => ?_⟩⟩
    · rw [List.getElem?_append_left (List.getElem?_eq_some_iff.1 hu).1]; exact hu
    · have := hc (K.size + i) u (by rw [List.getElem?_append_right (by rw [K.len h1]; omega),K.len h1,Nat.add_sub_cancel_left]; exact hu)
      rw [Nat.add_assoc]; exact this
  · rintro ⟨⟨c1,h1,k1⟩,⟨c2,h2,k2⟩⟩
    refine ⟨c1 ++ c2,⟨c1,c2,rfl,h1,h2⟩,fun i u hu => ?_⟩
    by_cases hi : i < c1.length
    · rw [List.getElem?_append_left hi] at hu; exact k1 i u hu
    · rw [List.getElem?_append_right (by omega),K.len h1] at hu
      have := k2 _ u hu
      rw [K.len h1] at hi
      rw [show o + i = o + K.size + (i - K.size) by omega]; exact this

/-! Appends. -/
theorem ginfo {P : Program} {e : TypeId} {z : Value} {s b : Nat} (h : (P.info? e).map (fun i => (i.zero,i.size,i.bytes)) = some (some z,s,b)) : ∃ i,P.info? e = some i /\ i.zero = some z /\ i.size = s /\ i.bytes = b := by
  obtain ⟨i,hi,he⟩ := Option.map_eq_some_iff.1 h
  simp only [Prod.mk.injEq] at he
  exact ⟨i,hi,he.1,he.2.1,he.2.2⟩
theorem ggrown_refl (w : World) (r : Option Nat) : w.grownBy w r := ⟨rfl,rfl,rfl,Nat.le_refl _,fun _ _ _ => rfl⟩
theorem gbelow {w w' : World} (h : Below w.heap.size w w') : w.grownBy w' none := ⟨h.os,h.tape,h.output,h.size,fun i hi _ => h.block i hi⟩
theorem grow_below {w w' : World} {base : Nat} {T : TypeId} {sz : Nat} {v : Value} {n : Nat} {xs : List Value} (h : w.ownsRow base T sz v n xs) (hb : Below w.heap.size w w') : w'.ownsRow base T sz v n xs :=
  h.kept (gbelow hb) (by
    cases hv : v.ownBlock with
    | none => exact Or.inl rfl
    | some b => exact Or.inr (by simp))
end
end Go.Proofs.YtfpfdnapamdhjaaGreatDoor

/- Arguments opened,said once: what a value's reading says of the cells that it lies in. No function of the program is named. -/
namespace Go.Proofs.YtfpfdnapamdhjaaGreatDoor
open Go.ChangeShapes Go.WideShapes Go.ChangeAt Go.RowKit Val

theorem gbulk_one {H : Type} (d : DataW H) : 1 <= Rows.uptoBulk d := by
  cases d with
  | lit l => cases l <;> simp [Rows.uptoBulk]
  | nil => simp [Rows.uptoBulk]
  | ptr d => simp [Rows.uptoBulk]
  | slice elems spare => simp [Rows.uptoBulk]
  | agg parts => simp [Rows.uptoBulk]
  | iface t d => simp [Rows.uptoBulk]
  | map entries => simp [Rows.uptoBulk]
  | held h => simp [Rows.uptoBulk]
theorem gbulk_len {H : Type} (l : List (DataW H)) : l.length <= Rows.uptoBulkAll l := by
  induction l with
  | nil => simp [Rows.uptoBulkAll]
  | cons x r ih => have := gbulk_one x; simp only [Rows.uptoBulkAll,List.length_cons]; omega
theorem gweights_at {H : Type} {P : Program} {e : TypeId} : ∀ {l : List (DataW H)} {i : Nat} {d : DataW H},l[i]? = some d -> ∀ k ∈ d.weights P e,k ∈ DataW.weightsAll P e l
  | [],i,d,h,_,_ => by simp at h
  | x :: l,0,d,h,k,hk => by
    simp only [List.getElem?_cons_zero,Option.some.injEq] at h
    subst h
    unfold DataW.weightsAll
    exact List.mem_append_left _ hk
  | x :: l,i + 1,d,h,k,hk => by
    unfold DataW.weightsAll
    exact List.mem_append_right _ (gweights_at (l := l) (i := i) (by simpa using h) k hk)
theorem gadd (b o i : Nat) : (⟨b,o,none⟩ : Addr).add i = ⟨b,o + i,none⟩ := by
  unfold Addr.add; split <;> simp_all
section
variable {α β : Type} {H : Type} {enc : TypeId × Value -> H} {W : World} {base : Nat} {spare : Nat -> Bool} {held : Bool}
/-- Whatever is read at this type,with sizes that memory lets be,is one of this kind. -/
def Opens (enc : TypeId × Value -> H) (W : World) (base : Nat) (spare : Nat -> Bool) (held : Bool) (K : Rep α) (t : TypeId) : Prop :=
  ∀ (n : Nat) (cs : List Value) (y : DataW H × List MemPlace),DataW.trod enc Tryz.prog W base spare held n t cs = some y -> (∀ k ∈ y.1.weights Tryz.prog t,k <= reachBytes) -> ∃ x,K.R W cs x
theorem opens_str {t : TypeId} (hu : Tryz.prog.underlying t = some .string) : Opens enc W base spare held strK t := fun n cs y h hz => by
  obtain ⟨s,rfl,rfl,_⟩ := DataW.trod_string hu h
  have := hz s.data.toList.length (by simp [DataW.weights])
  have hr := reachBytes_lt
  exact ⟨s.data.toList,by have e : bytesT s.data.toList = s := (by apply bytes_ext; rw [bytesT_list]); rw [e],by show s.data.toList.length <= _; omega⟩
theorem opens_int {t : TypeId} (hu : Tryz.prog.underlying t = some (.int .i64)) : Opens enc W base spare held intK t := fun n cs y h _ => by
  obtain ⟨z,rfl,_⟩ := DataW.trod_int hu h
  exact ⟨z,rfl⟩
theorem opens_bool {t : TypeId} (hu : Tryz.prog.underlying t = some .bool) : Opens enc W base spare held boolK t := fun n cs y h _ => by
  obtain ⟨z,rfl,_⟩ := DataW.trod_bool hu h
  exact ⟨z,rfl⟩
/-- A list,with what its bulk says of its length. -/
theorem open_lst {K : Rep α} {ts te : TypeId} {bytes : Nat} (hu : Tryz.prog.underlying ts = some (.slice te)) (hc : Tryz.prog.cellsOf te = K.size) (hb : Tryz.prog.bytesOf te = bytes) (h8 : 8 <= bytes) (hs : 0 < K.size) (hel : Opens enc W base spare held K te)
    {n : Nat} {c : Value} {y : DataW H × List MemPlace} (hf : DataW.trod enc Tryz.prog W base spare held n ts [c] = some y) (hz : ∀ k ∈ y.1.weights Tryz.prog ts,k <= reachBytes) : ∃ l,Lst K W c l /\ l.length <= Rows.uptoBulk y.1 /\ l.length * bytes <= reachBytes := by
  rcases DataW.trod_slice hu hf with ⟨hcs,_⟩ | ⟨a,len,cap,elems,rest,n,_,hcs,hx,_,hl,hm,hlen,hels,_,_⟩
  · obtain rfl : c = .slice none 0 0 := by simpa using hcs
    exact ⟨[],lst_nil K W 0,by simp,by simp⟩
  · obtain rfl : c = .slice (some a) len cap := by simpa using hcs
    have hd := congrArg Prod.fst hx
    simp only at hd
    have hbig := hz ((elems.length + rest.length) * Tryz.prog.bytesOf te) (by
      rw [hd]; simp [DataW.weights,hu])
    rw [hb] at hbig
    have hr := reachBytes_lt
    have hlb : len * bytes <= reachBytes := Nat.le_trans (Nat.mul_le_mul_right _ (by omega)) hbig
    have hcount : len <= 17592186044416 := by
      have h9 : len * 8 <= len * bytes := Nat.mul_le_mul_left _ h8
      omega
    have hbulk : len <= Rows.uptoBulk y.1 := by
      rw [hd]
      simp only [Rows.uptoBulk]
      have := gbulk_len (elems.map fun x => x.fst)
      rw [List.length_map] at this
      omega
    have hspot0 : 0 < len -> a.spot = none := fun h0 => by
      have e := hels 0 h0
      have hie : 0 < elems.length := by omega
      rw [List.getElem?_eq_getElem hie,hc] at e
      obtain ⟨cs,hcc,_⟩ := Option.bind_eq_some_iff.1 e
      obtain ⟨_,hcl,hce⟩ := World.cells?_some hcc
      have h1 := hce 0 hs
      rw [List.getElem?_eq_getElem (by omega)] at h1
      have := World.cell?_spot h1
      simpa [Addr.add] using this
    have each : ∀ i,i < len -> ∃ q,∃ b o,a = ⟨b,o,none⟩ /\ At K W b (o + i * K.size) q := by
      intro i hi
      have e := hels i hi
      have hie : i < elems.length := by omega
      rw [List.getElem?_eq_getElem hie,hc] at e
      obtain ⟨cs,hcc,ht⟩ := Option.bind_eq_some_iff.1 e
      obtain ⟨_,hcl,hce⟩ := World.cells?_some hcc
      obtain ⟨q,hq⟩ := hel _ cs _ ht (fun k hk => hz k (by
        rw [hd]
        simp only [DataW.weights,hu]
        refine List.mem_cons_of_mem _ (List.mem_append_left _ ?_)
        exact gweights_at (i := i) (by rw [List.getElem?_map,List.getElem?_eq_getElem hie]; rfl) k hk))
      obtain ⟨b,off,spot⟩ := a
      have hspot : spot = none := hspot0 (by omega)
      subst hspot
      refine ⟨q,b,off,rfl,cs,hq,fun j u hj => ?_⟩
      have hjs : j < K.size := by
        have := (List.getElem?_eq_some_iff.1 hj).1
        omega
      have h1 := hce j hjs
      rw [gadd,gadd,hj] at h1
      exact h1
    have build : ∀ k,k <= len -> ∃ l : List α,l.length = k /\ ∀ j (h : j < l.length),∃ b o,a = ⟨b,o,none⟩ /\ At K W b (o + j * K.size) l[j] := by
      intro k
      induction k with
      | zero => exact fun _ => ⟨[],rfl,fun j h => absurd h (Nat.not_lt_zero _)⟩
      | succ k ih =>
        intro hk
        obtain ⟨l,h1,h2⟩ := ih (by omega)
        obtain ⟨q,b,o,e,hq⟩ := each k (by omega)
        refine ⟨l ++ [q],by rw [List.length_append,h1]; rfl,fun j hj => ?_⟩
        by_cases hjl : j < l.length
        · rw [List.getElem_append_left hjl]; exact h2 j hjl
        · obtain rfl : j = k := by rw [List.length_append] at hj; simp at hj; omega
          rw [List.getElem_append_right (by omega)]
          simp only [h1,Nat.sub_self,List.getElem_cons_zero]
          exact ⟨b,o,e,hq⟩
    obtain ⟨l,h1,h2⟩ := build len (Nat.le_refl _)
    subst h1
    refine ⟨l,⟨some a,cap,rfl,fun j hj => ?_,hl,hcount⟩,hbulk,hlb⟩
    obtain ⟨b,o,e,hq⟩ := h2 j hj
    exact ⟨b,o,by rw [e],hq⟩
theorem opens_list {K : Rep α} {ts te : TypeId} {bytes : Nat} (hu : Tryz.prog.underlying ts = some (.slice te)) (hc : Tryz.prog.cellsOf te = K.size) (hb : Tryz.prog.bytesOf te = bytes) (h8 : 8 <= bytes) (hs : 0 < K.size) (hel : Opens enc W base spare held K te) : Opens enc W base spare held (listK K) ts := fun n cs y h hz => by
  have hone : ∃ c,cs = [c] := by
    rcases DataW.trod_slice hu h with ⟨hcs,_⟩ | ⟨a,len,cap,_,_,_,_,hcs,_⟩
    · exact ⟨_,hcs⟩
    · exact ⟨_,hcs⟩
  obtain ⟨c,rfl⟩ := hone
  obtain ⟨l,hl,_⟩ := open_lst hu hc hb h8 hs hel h hz
  exact ⟨l,c,rfl,hl⟩
/-- Fields,one behind another. -/
theorem opens_pair {K : Rep α} {L : Rep β} {cs : List Value} (h1 : ∃ x,K.R W (cs.take K.size) x) (h2 : ∃ y,L.R W (cs.drop K.size) y) : ∃ z,(pairK K L).R W cs z := by
  obtain ⟨x,hx⟩ := h1
  obtain ⟨y,hy⟩ := h2
  exact ⟨(x,y),cs.take K.size,cs.drop K.size,(List.take_append_drop _ _).symm,hx,hy⟩
theorem opens_iso {K : Rep α} {f : β -> α} (g : α -> β) (hg : ∀ x,f (g x) = x) {cs : List Value} (h : ∃ x,K.R W cs x) : ∃ y,(isoK K f).R W cs y := by
  obtain ⟨x,hx⟩ := h
  exact ⟨g x,by show K.R W cs (f (g x)); rw [hg]; exact hx⟩
end
end Go.Proofs.YtfpfdnapamdhjaaGreatDoor

/- Lists whose bytes memory lets be,as a kind; how they open. No function of the program is named. -/
namespace Go.Proofs.YtfpfdnapamdhjaaGreatDoor
open Go.ChangeShapes Go.WideShapes Go.ChangeAt Go.RowKit Val

section
variable {α : Type}
def bigK (K : Rep α) (n : Nat) : Rep (List α) where
  size := 1
  R := fun w cs l => ∃ v,cs = [v] /\ Lst K w v l /\ l.length * n <= reachBytes
  len := fun h => by obtain ⟨v,rfl,_⟩ := h; rfl
  one := fun h u hu => by
    obtain ⟨v,rfl,hl,_⟩ := h
    obtain ⟨a,c,rfl⟩ := hl.val
    simp at hu; subst hu; rfl
  below := fun h hb => by
    obtain ⟨v,e,hl,hn⟩ := h
    exact ⟨v,e,hl.below hb,hn⟩
variable {H : Type} {enc : TypeId × Value -> H} {W : World} {base : Nat} {spare : Nat -> Bool} {held : Bool}
theorem opens_big {K : Rep α} {ts te : TypeId} {bytes : Nat} (hu : Tryz.prog.underlying ts = some (.slice te)) (hc : Tryz.prog.cellsOf te = K.size) (hb : Tryz.prog.bytesOf te = bytes) (h8 : 8 <= bytes) (hs : 0 < K.size) (hel : Opens enc W base spare held K te) : Opens enc W base spare held (bigK K bytes) ts := fun n cs y h hz => by
  have hone : ∃ c,cs = [c] := by
    rcases DataW.trod_slice hu h with ⟨hcs,_⟩ | ⟨a,len,cap,_,_,_,_,hcs,_⟩
    · exact ⟨_,hcs⟩
    · exact ⟨_,hcs⟩
  obtain ⟨c,rfl⟩ := hone
  obtain ⟨l,hl,_,hlb⟩ := open_lst hu hc hb h8 hs hel h hz
  exact ⟨l,c,rfl,hl,hlb⟩
end
end Go.Proofs.YtfpfdnapamdhjaaGreatDoor
