/- Layer 9: a reader in memory: the bytes that it has left; what stays whatever it writes. -/
import Derived.Test.YtfpfdnapamdhjaaGreatDoorWrAGZ
import Derived.Test.YtfpfdnapamdhjaaGreatDoorCdCGZ
import Derived.Deep.DeepCutAuto
import Derived.Deep.CutRange
import Derived.Recover
import Derived.Test.YtfpfdnapamdhjaaGreatDoorWrNGZ
import Derived.Laws.IdiomStrings
import Derived.Laws.BytesArg
namespace Go.Proofs.YtfpfdnapamdhjaaGreatDoor
open Go.RowKit Val

def byteK : Rep UInt8 where
  size := 1
  R := fun _ cs c => cs = [.int .u8 (c.toNat : Int)]
  len := fun h => by rw [h]; rfl
  one := fun h u hu => by rw [h] at hu; simp at hu; subst hu; rfl
  below := fun h _ => h
theorem at_byte {w : World} {b o : Nat} {c : UInt8} : At byteK w b o c ↔ w.cell? ⟨b,o,none⟩ = some (.int .u8 (c.toNat : Int)) := by
  constructor
  · rintro ⟨cs,rfl,hc⟩
    exact hc 0 _ rfl
  · intro h1
    refine ⟨_,rfl,fun i u hu => ?_⟩
    match i,hu with
    | 0,hu => injection hu with hu; subst hu; exact h1
    | i + 1,hu => cases hu
theorem grown_trans {a b c : World} {r : Option Nat} (h : a.grownBy b r) (k : b.grownBy c r) : a.grownBy c r :=
  ⟨k.os.trans h.os,k.tape.trans h.tape,k.output.trans h.output,Nat.le_trans h.size k.size,fun i hi hr => by rw [k.block i (Nat.lt_of_lt_of_le hi h.size) hr,h.block i hi hr]⟩
theorem grown_of {a b : World} (r : Option Nat) (h : Below a.heap.size a b) : a.grownBy b r := ⟨h.os,h.tape,h.output,h.size,fun i hi _ => h.block i hi⟩
theorem grown_put (w : World) (B o : Nat) (v : Value) : w.grownBy (w.setCell ⟨B,o,none⟩ v) (some B) := ⟨rfl,rfl,rfl,by simp,fun k _ hk => Below.heap_setCell _ _ _ k (fun e => hk (by rw [e]))⟩
/-- What hangs on the blocks from N on alone that are there now. -/
def OwnM (N : Nat) (w : World) (p : World -> Prop) : Prop := ∀ w',w.heap.size <= w'.heap.size -> (∀ k,N <= k -> k < w.heap.size -> w'.heap[k]? = w.heap[k]?) -> p w'
theorem OwnM.now {N : Nat} {w : World} {p : World -> Prop} (h : OwnM N w p) : p w := h w (Nat.le_refl _) fun _ _ _ => rfl
theorem OwnM.mono {N N' : Nat} {w : World} {p : World -> Prop} (h : OwnM N w p) (hN : N' <= N) : OwnM N' w p := fun w' h1 h2 => h w' h1 fun k h3 h4 => h2 k (Nat.le_trans hN h3) h4
theorem OwnM.imp {N : Nat} {w : World} {p q : World -> Prop} (h : OwnM N w p) (hi : ∀ W,p W -> q W) : OwnM N w q := fun w' h1 h2 => hi _ (h w' h1 h2)
theorem OwnM.go {N : Nat} {w w' : World} {p : World -> Prop} {r : Option Nat} (h : OwnM N w p) (hg : w.grownBy w' r) (hr : ∀ k,r = some k -> k < N ∨ w.heap.size <= k) : OwnM N w' p := fun w2 h1 h2 => h w2 (Nat.le_trans hg.size h1) fun k h3 h4 => by
  rw [h2 k h3 (Nat.lt_of_lt_of_le h4 hg.size),hg.block k h4 (by
    intro e
    have := hr k e.symm
    omega)]
theorem own_const {N : Nat} {p : Prop} (h : p) (w : World) : OwnM N w (fun _ => p) := fun _ _ _ => h
theorem grown_cell {a b : World} {B : Nat} (hg : a.grownBy b (some B)) {p : Addr} {v : Value} (hc : a.cell? p = some v) (hp : p.block ≠ B) : b.cell? p = some v := by
  rw [World.cell?_of_block (w := a) (hg.block p.block (World.block_lt_of_cell? a p hc) (by simpa using hp))]; exact hc
theorem grown_frozen {a b : World} {B : Nat} (hg : a.grownBy b (some B)) {p : Addr} {z : Bool} (hc : a.frozen? p = z) (hp : p.block ≠ B) (hl : p.block < a.heap.size) : b.frozen? p = z := by
  rw [World.frozen?_of_block (w := a) (hg.block p.block hl (by simpa using hp))]; exact hc
theorem grown_high {a b c : World} {B : Nat} {r : Option Nat} (h : a.grownBy b (some B)) (k : b.grownBy c r) (hr : ∀ x,r = some x -> a.heap.size <= x ∨ x = B) : a.grownBy c (some B) :=
  ⟨k.os.trans h.os,k.tape.trans h.tape,k.output.trans h.output,Nat.le_trans h.size k.size,fun i hi hne => by
    rw [k.block i (Nat.lt_of_lt_of_le hi h.size) (by
      intro e
      rcases hr i e.symm with h1 | h1
      · omega
      · exact hne (by rw [h1])),h.block i hi hne]⟩
structure Rd (W0 : World) (B : Nat) (t : Txt) (w : World) : Prop where
  gr : Below W0.heap.size W0 w
  pb : W0.heap.size <= B
  fz : w.frozen? ⟨B,0,none⟩ = false
  cell : ∃ v,w.cell? ⟨B,0,none⟩ = some v /\ Lst byteK W0 v t
section
variable {W0 w : World} {B : Nat} {t : Txt}
theorem Rd.below (h : Rd W0 B t w) {w' : World} (hb : Below w.heap.size w w') : Rd W0 B t w' := by
  obtain ⟨v,h1,h2⟩ := h.cell
  have hB := World.block_lt_of_cell? w _ h1
  exact ⟨chain h.gr hb,h.pb,by rw [hb.frozen (p := ⟨B,0,none⟩) hB]; exact h.fz,v,cell_kept hb h1,h2⟩
theorem Rd.grown (h : Rd W0 B t w) {w' : World} {r : Option Nat} (hg : w.grownBy w' r) (hr : ∀ k,r = some k -> W0.heap.size <= k /\ k ≠ B) : Rd W0 B t w' := by
  obtain ⟨v,h1,h2⟩ := h.cell
  have hB := World.block_lt_of_cell? w _ h1
  have hb : w'.heap[B]? = w.heap[B]? := hg.block B hB (by
    intro e
    exact (hr B e.symm).2 rfl)
  exact ⟨h.gr.grown hg h.gr.size fun k hk => (hr k hk).1,h.pb,by rw [World.frozen?_of_block (w := w) (a := ⟨B,0,none⟩) hb]; exact h.fz,v,by rw [World.cell?_of_block (w := w) (a := ⟨B,0,none⟩) hb]; exact h1,h2⟩
theorem Rd.lt (h : Rd W0 B t w) : B < w.heap.size := by
  obtain ⟨v,h1,h2⟩ := h.cell
  exact World.block_lt_of_cell? w _ h1
/-- The rest is stored. -/
theorem Rd.set (h : Rd W0 B t w) {v : Value} {s : Txt} (hv : Lst byteK W0 v s) : Rd W0 B s (w.setCell ⟨B,0,none⟩ v) := by
  obtain ⟨u,h1,h2⟩ := h.cell
  exact ⟨h.gr.setCell h.pb _,h.pb,by rw [World.frozen?_setCell]; exact h.fz,v,World.cell?_setCell_same _ _ _ h1,hv⟩
end
/-- The panic that a reader gives up by. -/
def pan (z : Int) : List PanicEntry := [{ v := .iface 47 (.int .i64 z),recovered := false }]
/-- What comes of reading: a value,and the rest; or the panic. -/
def RdPost {α : Type} (W0 : World) (B : Nat) (w : World) (V : World -> α -> Value -> Prop) (g : Got α) (e : Ending) (w' : World) : Prop := w.grownBy w' (some B) /\ match g with
  | .ok (x,s) => ∃ v,e = .returned v /\ OwnM w.heap.size w' (fun W => V W x v) /\ Rd W0 B s w'
  | .error z => e = .panicked (pan z)
/-- What is left of a list's bytes. -/
theorem lst_left {W : World} {a : Option Addr} {n c k : Nat} {t : Txt} (h : Lst byteK W (.slice a n c) t) (hk : k <= t.length) (A : Option Addr) (hA : k < t.length -> A = a.map (·.add k)) : Lst byteK W (.slice A (t.length - k) (c - k)) (t.drop k) := by
  have hl := h.len
  have hcap := h.cap
  have e : (t.drop k).length = t.length - k := List.length_drop
  refine ⟨_,_,by rw [e],fun j hj => ?_,by omega,by omega⟩
  rw [e] at hj
  obtain ⟨b',o',e2,h2⟩ := h.at (j := k + j) (by omega)
  subst e2
  rw [hA (by omega)]
  refine ⟨b',o' + k,by show some _ = some _; simp [Addr.add],?_⟩
  rw [show byteK.size = 1 from rfl,Nat.mul_one] at h2 ⊢
  rw [List.getElem_drop,Nat.add_assoc]; exact h2
section
variable {W0 w : World} {B : Nat} {t : Txt}
set_option maxRecDepth 100000 in
set_option maxHeartbeats 4000000 in
theorem rtake_any (n : Nat) (h : Rd W0 B t w) :
    Calls Tryz.prog 157 #[.pointer (some ⟨B,0,none⟩),.int .i64 n] w (RdPost W0 B w (fun _ x v => Lst byteK W0 v x) (takeR n t)) := by
  have H := hide h
  obtain ⟨v,hc,hl⟩ := h.cell
  have hfz := h.fz
  have hlen := hl.len
  have hcap := hl
  obtain ⟨a,c,rfl⟩ := hl.val
  have hcp := hcap.cap.2
  have HL := hide hl
  clear h hl hcap
  by_cases hlt : t.length < n
  · have he : Hid (takeR n t = .error 90) := by show _ = _; unfold takeR; rw [if_pos hlt]
    go_enter Tryz.func157,Tryz.ntmps157
    go_wp2_with fail
    refine ⟨rfl,ggrown_refl _ _,?_⟩
    rw [unhide he]; rfl
  · have he : Hid (takeR n t = .ok (t.take n,t.drop n)) := by show _ = _; unfold takeR; rw [if_neg hlt]
    have hx := hide ((unhide HL).take (k := n) (by omega))
    have hs := hide (lst_left (unhide HL) (k := n) (by omega))
    go_enter Tryz.func157,Tryz.ntmps157
    go_wp2_with fail
    · have hcn : c = n := by assumption
      subst hcn
      go_ret
      refine ⟨grown_put _ _ _ _,?_⟩
      rw [unhide he]
      refine ⟨_,rfl,own_const (unhide hx) _,(unhide H).set ?_⟩
      have := unhide hs a (by omega)
      rwa [Nat.sub_self] at this
    · go_ret
      refine ⟨grown_put _ _ _ _,?_⟩
      rw [unhide he]
      exact ⟨_,rfl,own_const (unhide hx) _,(unhide H).set (unhide hs _ fun _ => rfl)⟩
end
end Go.Proofs.YtfpfdnapamdhjaaGreatDoor

/- Layer 9: the program's small readers: one byte,texts,truths,numbers. -/
namespace Go.Proofs.YtfpfdnapamdhjaaGreatDoor
open Go.RowKit Val

section
variable {W0 w : World} {B : Nat} {t : Txt}
/-- Bytes,as a text. -/
theorem conv_lst {W V : World} {a : Option Addr} {n c : Nat} {x : Txt} (h : Lst byteK W (.slice a n c) x) (hb : Below W.heap.size W V) : (convert 46 9 (.slice a n c)).run Tryz.prog V = .ok (.string (bytesT x)) V := by
  have hn := h.cap.1
  subst hn
  cases x with
  | nil =>
    cases a with
    | none => exact run_convert_bytes_nil V 46 5 Tryz.underlying46 Tryz.underlying5 0 c 9 Tryz.underlying9
    | some p => exact run_convert_bytes_back V 46 9 5 p c [] Tryz.underlying46 Tryz.underlying5 Tryz.underlying9 (fun j hj => absurd hj (Nat.not_lt_zero _))
  | cons d x =>
    obtain ⟨b,o,e,_⟩ := h.at (j := 0) (by simp)
    subst e
    refine run_convert_bytes_back V 46 9 5 ⟨b,o,none⟩ c (d :: x) Tryz.underlying46 Tryz.underlying5 Tryz.underlying9 (fun j hj => ?_)
    obtain ⟨b',o',e,hat⟩ := h.at (j := j) hj
    injection e with e
    injection e with e1 e2
    subst e1 e2
    have h1 := at_byte.1 hat
    rw [show byteK.size = 1 from rfl,Nat.mul_one] at h1
    rw [show (⟨b,o,none⟩ : Addr).add j = ⟨b,o + j,none⟩ by simp [Addr.add]]
    exact cell_kept hb h1
theorem oneG_take (t : Txt) : takeR 1 t = (match t with | [] => .error 90 | c :: s => .ok ([c],s)) := by
  cases t with
  | nil => rfl
  | cons c s => unfold takeR; rw [if_neg (by simp)]; rfl
set_option maxRecDepth 100000 in
set_option maxHeartbeats 4000000 in
theorem single_any (h : Rd W0 B t w) :
    Calls Tryz.prog 158 #[.pointer (some ⟨B,0,none⟩)] w (RdPost W0 B w (fun _ (n : Nat) v => v = .int .i64 n) (oneG t)) := by
  have H := hide h
  clear h
  have ht := hide (oneG_take t)
  go_enter Tryz.func158,Tryz.ntmps158
  go_wp2_with fail
  refine (rtake_any 1 (unhide H)).mono ?_
  rintro e w1 ⟨hg,hp⟩
  rw [unhide ht] at hp
  cases t with
  | nil =>
    obtain rfl := hp
    have HG := hide hg
    clear hg
    refine ⟨rfl,unhide HG,rfl⟩
  | cons c s =>
    obtain ⟨v,rfl,hv,hr⟩ := hp
    have hv := hv.now
    obtain ⟨a,d,rfl⟩ := hv.val
    obtain ⟨b,o,rfl,hat⟩ := hv.at (j := 0) (by simp)
    have h1 := at_byte.1 hat
    rw [Nat.zero_mul,Nat.add_zero] at h1
    have h1 := cell_kept hr.gr h1
    have HG := hide hg
    have HR := hide hr
    clear hg hr hv hat
    have hw8 : wrap64 (c.toNat : Int) = (c.toNat : Int) := by have := c.toNat_lt; unfold wrap64; omega
    go_wp2_with fail
    go_ret
    exact ⟨unhide HG,_,rfl,own_const (by show Value.int .i64 (wrap64 _) = _; rw [hw8]) _,unhide HR⟩
set_option maxRecDepth 100000 in
set_option maxHeartbeats 4000000 in
theorem rtext_any (h : Rd W0 B t w) :
    Calls Tryz.prog 124 #[.pointer (some ⟨B,0,none⟩)] w (RdPost W0 B w (fun _ x v => v = .string (bytesT x) /\ short x) (txtC.r t)) := by
  have H := hide h
  clear h
  obtain ⟨G,hG⟩ : ∃ G,G = txtC.r t := ⟨_,rfl⟩
  have HG0 : Hid (G = txtG (oneG t)) := hG
  rw [<- hG]
  clear hG
  go_enter Tryz.func124,Tryz.ntmps124
  go_wp2_with fail
  refine (single_any (unhide H)).mono ?_
  rintro e w1 ⟨hg,hp⟩
  rcases h1 : oneG t with z | ⟨n,s⟩
  · rw [h1] at hp
    obtain rfl := hp
    have HE : Hid (G = .error z) := by show _ = _; rw [unhide HG0,h1]; rfl
    have HG := hide hg
    clear hg h1
    refine ⟨rfl,unhide HG,?_⟩
    rw [unhide HE]
  · rw [h1] at hp
    obtain ⟨v,rfl,hv,hr⟩ := hp
    obtain rfl := hv.now
    have HE : Hid (G = takeR n s) := by show _ = _; rw [unhide HG0,h1]; rfl
    have HG := hide hg
    have HR := hide hr
    clear hg hr hv h1 H HG0
    go_wp2_with fail
    refine (rtake_any n (unhide HR)).mono ?_
    rintro e w2 ⟨hg,hp⟩
    rw [<- unhide HE] at hp
    have HG2 := hide (grown_trans (unhide HG) hg)
    clear hg HG
    rcases h2 : G with z | ⟨x,s2⟩
    · rw [h2] at hp
      obtain rfl := hp
      refine ⟨rfl,unhide HG2,?_⟩
      rw [h2]
    · rw [h2] at hp
      obtain ⟨v,rfl,hv,hr⟩ := hp
      have hv := hv.now
      have hsh : short x := by have := hv.len; unfold short; omega
      have HS := hide hsh
      obtain ⟨a,d,rfl⟩ := hv.val
      have hcv := conv_lst hv hr.gr
      have HR2 := hide hr
      have H2 := hide h2
      clear hr hv hsh h2 HE
      go_wp2_with fail
      go_ret
      refine ⟨unhide HG2,?_⟩
      rw [unhide H2]
      exact ⟨_,rfl,own_const ⟨rfl,unhide HS⟩ _,unhide HR2⟩
/-- Elements of bytes that are there. -/
theorem byte_cell {W V : World} {b o n c : Nat} {x : Txt} (h : Lst byteK W (.slice (some ⟨b,o,none⟩) n c) x) (hb : Below W.heap.size W V) {k : Nat} (hk : k < x.length) : V.cell? ⟨b,o + k,none⟩ = some (.int .u8 ((x[k]'hk).toNat : Int)) := by
  obtain ⟨b',o',e,hat⟩ := h.at (j := k) hk
  injection e with e
  injection e with e1 e2
  subst e1 e2
  have h1 := at_byte.1 hat
  rw [show byteK.size = 1 from rfl,Nat.mul_one] at h1
  exact cell_kept hb h1
theorem shl_byte (c k : Nat) : wrap64 ((c : Int) * 2 ^ (8 * k)) = wrap64 ((c : Int) * ((256 ^ k : Nat) : Int)) := by
  rw [<- pow8n',Int.natCast_pow]; rfl
set_option maxRecDepth 100000 in
set_option maxHeartbeats 8000000 in
theorem rnum_any (h : Rd W0 B t w) :
    Calls Tryz.prog 135 #[.pointer (some ⟨B,0,none⟩)] w (RdPost W0 B w (fun _ x v => v = .int .i64 x) (numC.r t)) := by
  have H := hide h
  clear h
  obtain ⟨G,hG⟩ : ∃ G,G = numC.r t := ⟨_,rfl⟩
  have HG0 : Hid (G = numG (takeR 8 t)) := hG
  rw [<- hG]
  clear hG
  go_enter Tryz.func135,Tryz.ntmps135
  go_wp2_with fail
  refine (rtake_any 8 (unhide H)).mono ?_
  rintro e w1 ⟨hg,hp⟩
  rcases h1 : takeR 8 t with z | ⟨x,s⟩
  · rw [h1] at hp
    obtain rfl := hp
    have HE : Hid (G = .error z) := by show _ = _; rw [unhide HG0,h1]; rfl
    have HG := hide hg
    clear hg h1
    refine ⟨rfl,unhide HG,?_⟩
    rw [unhide HE]
  · rw [h1] at hp
    obtain ⟨v,rfl,hv,hr⟩ := hp
    have hv := hv.now
    have h8 : x.length = 8 := (take_fit h1).2
    have HE : Hid (G = .ok (wrap64 (valN x),s)) := by show _ = _; rw [unhide HG0,h1]; rfl
    obtain ⟨a,d,rfl⟩ := hv.val
    obtain ⟨b,o,e0,hat0⟩ := hv.at (j := 0) (by omega)
    clear hat0
    subst e0
    have HV := hide hv
    have HB := hide hr.gr
    have HG := hide hg
    have HR := hide hr
    have HX := hide h8
    clear hg hr hv h1 H HG0
    rw [h8]
    clear h8
    go_wp2_with fail
    go_loopw [3,9] (fun n i W => ∃ k : Nat,k <= 8 /\ i = .int .i64 k /\ n = .int .i64 (wrap64 (valN (x.take k))) /\ W = w1) (fun _ i _ => 8 - (intOf i).toNat)
    case atStart => exact ⟨0,by omega,rfl,by rw [List.take_zero,show wrap64 ((valN [] : Nat) : Int) = 0 by unfold wrap64 valN; omega],rfl⟩
    case round =>
      obtain ⟨k,hk,rfl,rfl,rfl⟩ := hrel
      by_cases hlt : k < 8
      · have hkx : k < x.length := by rw [unhide HX]; exact hlt
        have hc := byte_cell (unhide HV) (unhide HB) hkx
        have hcl : (x[k]'hkx).toNat < 256 := (x[k]'hkx).toNat_lt
        have hor := hide (or_next (unhide HX) hlt (c := (x[k]'hkx).toNat) (by rw [List.getElem?_eq_getElem hkx,byte_len]) hcl)
        rw [<- shl_byte] at hor
        obtain ⟨c,hce⟩ : ∃ c,c = (x[k]'hkx).toNat := ⟨_,rfl⟩
        rw [<- hce] at hc hor hcl
        have hwr := wrap_8k hk
        have hs0 : (0 : Int) <= 8 * (k : Int) := by omega
        have hwc : wrap64 (c : Int) = (c : Int) := by unfold wrap64; omega
        have hwc2 : IntKind.i64.wrap (c : Int) = (c : Int) := by rw [wrap_i64_eq]; exact hwc
        clear hce hcl
        go_wp2_with fail
        exact ⟨⟨k + 1,by omega,by go_num,by rw [unhide hor],trivial⟩,by simp [intOf]; omega⟩
      · obtain rfl : k = 8 := by omega
        have hx8 : x.take 8 = x := List.take_of_length_le (by rw [unhide HX]; exact Nat.le_refl _)
        rw [hx8]
        clear hx8
        go_wp2_with fail
        go_ret
        refine ⟨unhide HG,?_⟩
        rw [unhide HE]
        exact ⟨_,rfl,own_const rfl _,unhide HR⟩
end
end Go.Proofs.YtfpfdnapamdhjaaGreatDoor
