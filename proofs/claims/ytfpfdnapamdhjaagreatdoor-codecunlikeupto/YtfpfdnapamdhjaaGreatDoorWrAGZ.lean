/- Layer 9: a writer in memory: the bytes that it holds; other cells that stay. No function of the program is named. -/
import Derived.Test.YtfpfdnapamdhjaaGreatDoorGenAGZ
import Derived.Test.YtfpfdnapamdhjaaGreatDoorCdAGZ
import Derived.Lib.AppendStr
import Derived.Deep.RegionHeld
namespace Go.Proofs.YtfpfdnapamdhjaaGreatDoor
open Go.RowKit Val

theorem boxw {w : World} (o : Obj) : Below w.heap.size w (w.alloc o) := (Below.refl _ _).alloc (Nat.le_refl _) _
/-- Bytes as the program holds them. -/
def u8s (t : Txt) : List Value := t.map fun c => .int .u8 (c.toNat : Int)
theorem u8s_len (t : Txt) : (u8s t).length = t.length := List.length_map _
theorem u8s_app (a b : Txt) : u8s (a ++ b) = u8s a ++ u8s b := List.map_append ..
/-- A box's cells. -/
def boxC (N : Nat) : Nat -> List Value -> List (Addr × Value)
  | _,[] => []
  | i,v :: l => (⟨N,i,none⟩,v) :: boxC N (i + 1) l
theorem boxC_at (N : Nat) : ∀ (l : List Value) (i : Nat) (x : Addr × Value),x ∈ boxC N i l -> x.1.block = N /\ ∃ j,x.1 = ⟨N,i + j,none⟩ /\ l[j]? = some x.2
  | [],_,x,h => by cases h
  | v :: l,i,x,h => by
    rcases List.mem_cons.1 h with rfl | h
    · exact ⟨rfl,0,rfl,rfl⟩
    · obtain ⟨e,j,e1,e2⟩ := boxC_at N l (i + 1) x h
      exact ⟨e,j + 1,by rw [e1]; congr 1; omega,e2⟩
/-- There is room for so many bytes. -/
def Room (xs : Txt) : Prop := xs.length <= 8192
theorem room_pre {a b : Txt} (h : Room (a ++ b)) : Room a := by
  unfold Room at h ⊢
  rw [List.length_append] at h
  omega
structure Wr (W0 : World) (B : Nat) (xs : Txt) (cs : List (Addr × Value)) (w : World) : Prop where
  gr : Below W0.heap.size W0 w
  pb : W0.heap.size <= B
  fz : w.frozen? ⟨B,0,none⟩ = false
  row : ∃ v,w.cell? ⟨B,0,none⟩ = some v /\ w.ownsRow W0.heap.size 5 1 v xs.length (u8s xs) /\ v.ownBlock ≠ some B /\ ∀ x ∈ cs,v.ownBlock ≠ some x.1.block
  ne : ∀ x ∈ cs,x.1.block ≠ B
  all : ∀ x ∈ cs,w.cell? x.1 = some x.2
section
variable {W0 w : World} {B : Nat} {xs : Txt} {cs : List (Addr × Value)}
theorem Wr.at (h : Wr W0 B xs cs w) (i : Nat) {a : Addr} {v : Value} (e : cs[i]? = some (a,v)) : w.cell? a = some v := h.all (a,v) (List.mem_of_getElem? e)
theorem Wr.below (h : Wr W0 B xs cs w) {w' : World} (hb : Below w.heap.size w w') : Wr W0 B xs cs w' := by
  obtain ⟨v,h1,h2,h3,h4⟩ := h.row
  have hB := World.block_lt_of_cell? w _ h1
  exact ⟨chain h.gr hb,h.pb,by rw [hb.frozen (p := ⟨B,0,none⟩) hB]; exact h.fz,⟨v,cell_kept hb h1,grow_below h2 hb,h3,h4⟩,h.ne,fun x hx => cell_kept hb (h.all x hx)⟩
theorem Wr.drop {a : List (Addr × Value)} (h : Wr W0 B xs (a ++ cs) w) : Wr W0 B xs cs w := by
  obtain ⟨v,h1,h2,h3,h4⟩ := h.row
  exact ⟨h.gr,h.pb,h.fz,⟨v,h1,h2,h3,fun x hx => h4 x (List.mem_append_right _ hx)⟩,fun x hx => h.ne x (List.mem_append_right _ hx),fun x hx => h.all x (List.mem_append_right _ hx)⟩
theorem Wr.size (h : Wr W0 B xs cs w) : W0.heap.size <= w.heap.size := h.gr.size
/-- A box more. -/
theorem Wr.box (h : Wr W0 B xs cs w) (vs : List Value) (t : TypeId) : Wr W0 B xs (boxC w.heap.size 0 vs ++ cs) (w.alloc (.cells vs.toArray t)) := by
  have hb : Below w.heap.size w (w.alloc (.cells vs.toArray t)) := (Below.refl _ _).alloc (Nat.le_refl _) _
  have h' := h.below hb
  obtain ⟨v,h1,h2,h3,h4⟩ := h.row
  have hB : B < w.heap.size := World.block_lt_of_cell? w _ h1
  have hv := h2.lt
  refine ⟨h'.gr,h.pb,h'.fz,⟨v,cell_kept hb h1,grow_below h2 hb,h3,fun x hx => ?_⟩,fun x hx => ?_,fun x hx => ?_⟩
  · rcases List.mem_append.1 hx with hx | hx
    · intro e
      have e1 := (boxC_at _ _ _ _ hx).1
      rw [e1] at e
      have := (hv _ e).2
      omega
    · exact h4 x hx
  · rcases List.mem_append.1 hx with hx | hx
    · rw [(boxC_at _ _ _ _ hx).1]; omega
    · exact h.ne x hx
  · rcases List.mem_append.1 hx with hx | hx
    · obtain ⟨_,j,e1,e2⟩ := boxC_at _ _ _ _ hx
      rw [e1,Nat.zero_add]
      simp [go_sem,e2]
    · exact h'.all x hx
/-- What was appended is stored. -/
theorem Wr.step (h : Wr W0 B xs cs w) {v v' : Value} {w1 w2 : World} {t : Txt} (hv : w.cell? ⟨B,0,none⟩ = some v) (hb : Below w.heap.size w w1) (ho : w2.ownsRow W0.heap.size 5 1 v' (xs.length + t.length) (u8s xs ++ u8s t)) (hg : w1.grownBy w2 v.ownBlock) (hn : v'.ownBlock = v.ownBlock ∨ ∀ k,v'.ownBlock = some k -> w.heap.size <= k) :
    w2.cell? ⟨B,0,none⟩ = some v /\ w2.frozen? ⟨B,0,none⟩ = false /\ Wr W0 B (xs ++ t) cs (w2.setCell ⟨B,0,none⟩ v') := by
  obtain ⟨u,h1,h2,h3,h4⟩ := h.row
  rw [hv] at h1
  injection h1 with h1
  subst h1
  have hB : B < w.heap.size := World.block_lt_of_cell? w _ hv
  have hB1 : B < w1.heap.size := Nat.lt_of_lt_of_le hB hb.size
  have hblk : ∀ k,k < w.heap.size -> v.ownBlock ≠ some k -> w2.heap[k]? = w.heap[k]? := fun k hk hne => by
    rw [hg.block k (Nat.lt_of_lt_of_le hk hb.size) (by intro e; exact hne (by rw [<- e])),hb.block k hk]
  have c2 : w2.cell? ⟨B,0,none⟩ = some v := by
    rw [World.cell?_of_block (w := w) (a := ⟨B,0,none⟩) (hblk B hB h3)]; exact hv
  have f2 : w2.frozen? ⟨B,0,none⟩ = false := by
    rw [World.frozen?_of_block (w := w) (a := ⟨B,0,none⟩) (hblk B hB h3)]; exact h.fz
  have hne' : v'.ownBlock ≠ some B := by
    rcases hn with hn | hn
    · rw [hn]; exact h3
    · intro e; have := hn B e; omega
  have g1 : w2.grownBy (w2.setCell ⟨B,0,none⟩ v') (some B) := ⟨rfl,rfl,rfl,by simp,fun k _ hk => Below.heap_setCell _ _ _ k (fun e => hk (by rw [e]))⟩
  refine ⟨c2,f2,⟨?_,h.pb,?_,⟨v',World.cell?_setCell_same _ _ _ c2,?_,hne',fun x hx => ?_⟩,h.ne,fun x hx => ?_⟩⟩
  · have hB2 : W0.heap.size <= w1.heap.size := Nat.le_trans h.size hb.size
    exact ((h.gr.trans (hb.mono h.size)).grown hg hB2 fun k hk => (h2.lt k hk).1).setCell h.pb _
  · rw [World.frozen?_setCell]; exact f2
  · rw [List.length_append,u8s_app]
    exact ho.kept g1 (.inr hne')
  · rcases hn with hn | hn
    · rw [hn]; exact h4 x hx
    · intro e
      have := hn _ e
      have := World.block_lt_of_cell? w _ (h.all x hx)
      omega
  · have hxw := World.block_lt_of_cell? w _ (h.all x hx)
    rw [World.cell?_setCell_far _ _ _ _ (by intro e; exact h.ne x hx e.symm),World.cell?_of_block (w := w) (hblk _ hxw (h4 x hx))]
    exact h.all x hx
theorem owns_form {w : World} {base : Nat} {e : TypeId} {size : Nat} {v : Value} {n : Nat} {ys : List Value} (h : w.ownsRow base e size v n ys) : ∃ a n' c,v = .slice a n' c := by
  rcases h.2 with ⟨rfl,_⟩ | ⟨g,cap,cur,rfl,_⟩
  · exact ⟨_,_,_,rfl⟩
  · exact ⟨_,_,_,rfl⟩
theorem u8info : ∃ i,Tryz.prog.info? 5 = some i /\ i.zero = some (.int .u8 0) /\ i.size = 1 /\ i.bytes = 1 :=
  ginfo (P := Tryz.prog) (e := 5) (z := .int .u8 0) (s := 1) (b := 1) (by kernel_rfl)
theorem cells_one {w : World} {g j : Nat} {u x : Value} (hg : w.cell? ⟨g,0,none⟩ = some u) (hj : [u][j]? = some x) : w.cell? ((⟨g,0,none⟩ : Addr).add j) = some x := by
  cases j with
  | zero =>
    obtain rfl : u = x := by simpa using hj
    simpa [Addr.add] using hg
  | succ j => simp at hj
/-- A byte appended,out of the block that was just made for it. -/
theorem run_byte {w : World} {base : Nat} {v : Value} {n : Nat} {ys : List Value} (hown : w.ownsRow base 5 1 v n ys) (hbase : base <= w.heap.size) (ty : TypeId) {g : Nat} {u : Value} (hg : w.cell? ⟨g,0,none⟩ = some u) (h1 : u.oneCell' = true) (hl : n + 1 <= 8192) :
    ∃ v' w',(Builtin.append_ #[46,46] ty #[v,.slice (some ⟨g,0,none⟩) 1 1]).run Tryz.prog w = .ok v' w' /\ w'.ownsRow base 5 1 v' (n + 1) (ys ++ [u]) /\ w.grownBy w' v.ownBlock /\ (v'.ownBlock = v.ownBlock ∨ ∀ k,v'.ownBlock = some k -> w.heap.size <= k) := by
  obtain ⟨i,hi,hz,h2,h3⟩ := u8info
  obtain ⟨g',cap,w',hr,ho,hgr,hat,_⟩ := run_append_lies (P := Tryz.prog) w 46 ty base 5 i _ 1 1 Tryz.underlying46 hi hz h2 h3 rfl (by omega) v n ys hown ⟨g,0,none⟩ 1 1 [u] rfl
    (fun j x hj => cells_one hg hj) (fun x hx => by simp at hx; subst hx; exact h1) (by omega) (by unfold maxLen; omega) (by omega) hbase _ rfl
  refine ⟨_,w',hr,ho,hgr,?_⟩
  rcases hat with hat | hat
  · exact .inl (by rw [hat]; rfl)
  · refine .inr fun k hk => ?_
    injection hk with hk
    have hk : g' = k := hk
    omega
/-- A text's bytes appended. -/
theorem run_text {w : World} {base : Nat} {v : Value} {n : Nat} {ys : List Value} (hown : w.ownsRow base 5 1 v n ys) (hbase : base <= w.heap.size) (ty : TypeId) (t : Txt) (hl : n + t.length <= 8192) :
    ∃ v' w',(Builtin.append_ #[46,9] ty #[v,.string (bytesT t)]).run Tryz.prog w = .ok v' w' /\ w'.ownsRow base 5 1 v' (n + t.length) (ys ++ u8s t) /\ w.grownBy w' v.ownBlock /\ (v'.ownBlock = v.ownBlock ∨ ∀ k,v'.ownBlock = some k -> w.heap.size <= k) := by
  obtain ⟨i,hi,hz,h2,h3⟩ := u8info
  have hs := bytesT_size t
  obtain ⟨v',w',hr,ho,hgr,hnil⟩ := Lib.run_append_own_string (P := Tryz.prog) w base 46 9 ty 5 i Tryz.underlying46 Tryz.underlying9 hi hz h2 h3 v n ys hown (bytesT t) (by unfold maxLen; omega) (by omega) hbase
  rw [hs] at ho
  refine ⟨v',w',hr,ho,hgr,?_⟩
  rcases hown.2 with ⟨rfl,rfl⟩ | ⟨g,cap,cur,rfl,hbg,hg,hnc,hcm,hcs,htake⟩
  · have hx : ys = [] := List.eq_nil_of_length_eq_zero (by rw [hown.1])
    subst hx
    obtain ⟨v2,w2,hr2,ho2,_⟩ := Lib.run_append_own_string (P := Tryz.prog) w w.heap.size 46 9 ty 5 i Tryz.underlying46 Tryz.underlying9 hi hz h2 h3 _ 0 [] (World.ownsRow_nil w _ _ _) (bytesT t) (by unfold maxLen; omega) (by omega) (Nat.le_refl _)
    rw [hr] at hr2
    injection hr2 with e1 e2
    subst e1 e2
    exact .inr fun k hk => (ho2.lt k hk).1
  · by_cases hroom : n + (bytesT t).size <= cap
    · have hr2 := Lib.run_append_room_string (P := Tryz.prog) w 46 9 ty 5 i Tryz.underlying46 Tryz.underlying9 hi h2 g n cap cur hg (bytesT t) hroom (by omega)
      rw [hr] at hr2
      injection hr2 with e1 e2
      subst e1
      exact .inl rfl
    · have holds := hown.cells (g := g) rfl
      have hr2 := Lib.run_append_grow_string (P := Tryz.prog) w 46 9 ty 5 i _ Tryz.underlying46 Tryz.underlying9 hi hz ⟨g,0,none⟩ n cap ys (by rw [h2]; exact hown.1) holds (bytesT t) (by omega) (by omega) (by rw [h3]; exact growslice_fits (by omega) (by omega))
      rw [hr] at hr2
      injection hr2 with e1 e2
      subst e1
      refine .inr fun k hk => ?_
      injection hk with hk
      have hk : w.heap.size = k := hk
      omega
theorem byte_val {c : Int} {b : UInt8} (hc : c = (b.toNat : Int)) : [Value.int .u8 c] = u8s [b] := by rw [hc]; rfl
theorem wr_byte (h : Wr W0 B xs cs w) {v : Value} (hv : w.cell? ⟨B,0,none⟩ = some v) {c : Int} {b : UInt8} (hc : c = (b.toNat : Int)) (hl : Room (xs ++ [b])) {ops : Array Oper} {rest : List Oper} {o : Oper} {a : Act} {Q : Exit -> Act -> World -> Prop} (hgd : o.guard = none) (s x : Operand)
    (ho : o.op = .call { callee := .builtin .append,args := #[s,x],argTypes := #[46,46] }) (hs : a.eval s = v) (hx : a.eval x = .slice (some ⟨w.heap.size,0,none⟩) 1 1)
    (k : ∀ a' n' c' w2,w2.cell? ⟨B,0,none⟩ = some v -> w2.frozen? ⟨B,0,none⟩ = false -> Hid (Wr W0 B (xs ++ [b]) cs (w2.setCell ⟨B,0,none⟩ (.slice a' n' c'))) -> wpList Tryz.prog ops Q rest (a.put o.dst (.slice a' n' c')) w2) : wpList Tryz.prog ops Q (o :: rest) a (w.alloc (.cells #[.int .u8 c] 5)) := by
  have hb : Below w.heap.size w (w.alloc (.cells #[.int .u8 c] 5)) := (Below.refl _ _).alloc (Nat.le_refl _) _
  obtain ⟨u,h1,h2,_⟩ := h.row
  rw [hv] at h1
  injection h1 with h1
  subst h1
  obtain ⟨v',w',hr,h4,h5,h6⟩ := run_byte (grow_below h2 hb) (Nat.le_trans h.size hb.size) o.type (g := w.heap.size) (u := .int .u8 c) (by simp [go_sem]) rfl (by unfold Room at hl; rw [List.length_append] at hl; exact hl)
  rw [byte_val hc] at h4
  obtain ⟨k1,k2,k3⟩ := h.step hv hb h4 h5 (h6.imp id fun h6 k hk => Nat.le_trans hb.size (h6 k hk))
  refine wpList_plain hgd fun K hK => ?_
  unfold Oper.wp execOp
  simp only [ho,resolve,invoke,builtin,Sem.run_bind,Sem.run_pure,Result.andThen_ok,List.map_toArray,List.map_cons,List.map_nil,hs,hx,hr]
  obtain ⟨a',n',c',rfl⟩ := owns_form h4
  exact hK _ _ (k a' n' c' w' k1 k2 (hide k3))
theorem wr_text (h : Wr W0 B xs cs w) {v : Value} (hv : w.cell? ⟨B,0,none⟩ = some v) {t : Txt} (hl : Room (xs ++ t)) {ops : Array Oper} {rest : List Oper} {o : Oper} {a : Act} {Q : Exit -> Act -> World -> Prop} (hgd : o.guard = none) (s x : Operand)
    (ho : o.op = .call { callee := .builtin .append,args := #[s,x],argTypes := #[46,9] }) (hs : a.eval s = v) (hx : a.eval x = .string (bytesT t))
    (k : ∀ a' n' c' w2,w2.cell? ⟨B,0,none⟩ = some v -> w2.frozen? ⟨B,0,none⟩ = false -> Hid (Wr W0 B (xs ++ t) cs (w2.setCell ⟨B,0,none⟩ (.slice a' n' c'))) -> wpList Tryz.prog ops Q rest (a.put o.dst (.slice a' n' c')) w2) : wpList Tryz.prog ops Q (o :: rest) a w := by
  obtain ⟨u,h1,h2,_⟩ := h.row
  rw [hv] at h1
  injection h1 with h1
  subst h1
  obtain ⟨v',w',hr,h4,h5,h6⟩ := run_text h2 h.size o.type t (by unfold Room at hl; rw [List.length_append] at hl; exact hl)
  obtain ⟨k1,k2,k3⟩ := h.step hv (Below.refl _ _) h4 h5 h6
  refine wpList_plain hgd fun K hK => ?_
  unfold Oper.wp execOp
  simp only [ho,resolve,invoke,builtin,Sem.run_bind,Sem.run_pure,Result.andThen_ok,List.map_toArray,List.map_cons,List.map_nil,hs,hx,hr]
  obtain ⟨a',n',c',rfl⟩ := owns_form h4
  exact hK _ _ (k a' n' c' w' k1 k2 (hide k3))
/-- The same as a step of a region that draws its order. -/
theorem wr_byte_step (h : Wr W0 B xs cs w) {v : Value} (hv : w.cell? ⟨B,0,none⟩ = some v) {c : Int} {b : UInt8} (hc : c = (b.toNat : Int)) (hl : Room (xs ++ [b])) {ops : Array Oper} {o : Oper} {a : Act} {KK : Act -> World -> Prop} {Q : Exit -> Act -> World -> Prop} {E : Prop} (hgd : o.guard = none) (s x : Operand)
    (ho : o.op = .call { callee := .builtin .append,args := #[s,x],argTypes := #[46,46] }) (hs : a.eval s = v) {w1 : World} (hb : Below w.heap.size w w1) {g : Nat} (hx : a.eval x = .slice (some ⟨g,0,none⟩) 1 1) (hg : w1.cell? ⟨g,0,none⟩ = some (.int .u8 c))
    (k : ∀ a' n' c' w2,w2.cell? ⟨B,0,none⟩ = some v -> w2.frozen? ⟨B,0,none⟩ = false -> Hid (Wr W0 B (xs ++ [b]) cs (w2.setCell ⟨B,0,none⟩ (.slice a' n' c'))) -> KK (a.put o.dst (.slice a' n' c')) w2) : if Region.wanted o (yielded ops a.tmps) = true then Oper.wp Tryz.prog o a w1 KK Q else E := by
  have hw : Region.wanted o (yielded ops a.tmps) = true := by simp [Region.wanted,hgd]
  rw [if_pos hw]
  obtain ⟨u,h1,h2,_⟩ := h.row
  rw [hv] at h1
  injection h1 with h1
  subst h1
  obtain ⟨v',w',hr,h4,h5,h6⟩ := run_byte (grow_below h2 hb) (Nat.le_trans h.size hb.size) o.type (g := g) (u := .int .u8 c) hg rfl (by unfold Room at hl; rw [List.length_append] at hl; exact hl)
  rw [byte_val hc] at h4
  obtain ⟨k1,k2,k3⟩ := h.step hv hb h4 h5 (h6.imp id fun h6 k hk => Nat.le_trans hb.size (h6 k hk))
  unfold Oper.wp execOp
  simp only [ho,resolve,invoke,builtin,Sem.run_bind,Sem.run_pure,Result.andThen_ok,List.map_toArray,List.map_cons,List.map_nil,hs,hx,hr]
  obtain ⟨a',n',c',rfl⟩ := owns_form h4
  exact k a' n' c' w' k1 k2 (hide k3)
theorem Wr.drew (h : Wr W0 B xs cs w) : Wr W0 B xs cs w.drew := h.below (Below.refl _ _).drew
/-- A new writer. -/
theorem wr_new (w : World) (t : TypeId) : Wr w w.heap.size [] [] (w.alloc (.cells #[.slice none 0 0] t)) :=
  ⟨(Below.refl _ _).alloc (Nat.le_refl _) _,Nat.le_refl _,by simp [go_sem],⟨.slice none 0 0,by simp [go_sem],World.ownsRow_nil _ _ _ _,by simp [Value.ownBlock],fun x hx => by cases hx⟩,fun x hx => (by cases hx),fun x hx => by cases hx⟩
end
end Go.Proofs.YtfpfdnapamdhjaaGreatDoor
