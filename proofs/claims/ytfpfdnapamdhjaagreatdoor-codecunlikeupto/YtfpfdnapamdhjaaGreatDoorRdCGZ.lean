/- Layer 9: what is read one behind another; what a row that grows holds. No function of the program is named. -/
import Derived.Test.YtfpfdnapamdhjaaGreatDoorRdAGZ
import Derived.Test.YtfpfdnapamdhjaaGreatDoorO8AGZ
import Derived.Deep.AppendLies
import Derived.Test.YtfpfdnapamdhjaaGreatDoorO8EGZ
import Derived.Laws.EntriesVeiled
namespace Go.Proofs.YtfpfdnapamdhjaaGreatDoor
open Go.RowKit Suf Val

section
variable {α β γ : Type}
theorem mapG_id (g : Got α) : g = mapG (fun x => x) g := by cases g <;> rfl
theorem step_ok {A : Cod α} {B : Cod β} {F : α × β -> γ} {t s : Txt} {x : α} (h : A.r t = .ok (x,s)) : mapG F ((pairC A B).r t) = mapG (fun y => F (x,y)) (B.r s) := by
  show mapG F (bindG B.r (A.r t)) = _
  rw [h]
  show mapG F (match B.r s with | .error e => .error e | .ok (y,t) => .ok ((x,y),t)) = _
  cases B.r s <;> rfl
theorem step_err {A : Cod α} {B : Cod β} {F : α × β -> γ} {t : Txt} {z : Int} (h : A.r t = .error z) : mapG F ((pairC A B).r t) = .error z := by
  show mapG F (bindG B.r (A.r t)) = _
  rw [h]; rfl
theorem last_ok {A : Cod α} {F : α -> γ} {t s : Txt} {x : α} (h : A.r t = .ok (x,s)) : mapG F (A.r t) = .ok (F x,s) := by rw [h]; rfl
theorem last_err {A : Cod α} {F : α -> γ} {t : Txt} {z : Int} (h : A.r t = .error z) : mapG F (A.r t) = .error z := by rw [h]; rfl
end
/-- A row that grows,and what it holds. -/
structure Rw {α : Type} (K : Rep α) (T : TypeId) (N : Nat) (u : Value) (l : List α) (w : World) : Prop where
  own : ∃ news,w.ownsRow N T K.size u l.length news /\ ∀ w',w.heap.size <= w'.heap.size -> (∀ k,N <= k -> k < w.heap.size -> u.ownBlock ≠ some k -> w'.heap[k]? = w.heap[k]?) -> RowsOf K w' news l
section
variable {α : Type} {K : Rep α} {T : TypeId} {N : Nat} {u : Value} {l : List α} {w : World}
theorem Rw.go (h : Rw K T N u l w) {w' : World} {r : Option Nat} (hg : w.grownBy w' r) (hr : ∀ k,r = some k -> k < N ∨ w.heap.size <= k) : Rw K T N u l w' := by
  obtain ⟨news,h1,h2⟩ := h.own
  refine ⟨news,h1.kept hg ?_,fun w2 h3 h4 => h2 w2 (Nat.le_trans hg.size h3) fun k h5 h6 h7 => ?_⟩
  · cases hv : u.ownBlock with
    | none => exact .inl rfl
    | some b =>
      refine .inr fun e => ?_
      have := h1.lt b hv
      have := hr b e.symm
      omega
  · rw [h4 k h5 (Nat.lt_of_lt_of_le h6 hg.size) h7,hg.block k h6 (by
      intro e
      have := hr k e.symm
      omega)]
end
end Go.Proofs.YtfpfdnapamdhjaaGreatDoor

/- Layer 9: the program's readers of small structs,and of lists -/
namespace Go.Proofs.YtfpfdnapamdhjaaGreatDoor
open Go.RowKit Suf Val

def VTol : World -> Txt × Txt × Bool -> Value -> Prop := fun _ x v => v = .agg #[.string (bytesT x.1),.string (bytesT x.2.1),.bool x.2.2] /\ short x.1 /\ short x.2.1
def VOffW : World -> VOff -> Value -> Prop := fun _ x v => v = .agg #[.string (bytesT x.1),.string (bytesT x.2.1),.string (bytesT x.2.2)] /\ short x.1 /\ short x.2.1 /\ short x.2.2
theorem rdpost_box {α : Type} {W0 w wn W' : World} {B : Nat} {V : World -> α -> Value -> Prop} {G : Got α} {x : α} {s : Txt} {v : Value} (hgr : w.grownBy wn (some B)) (hgs : wn.grownBy W' (some w.heap.size)) (hB : B < w.heap.size) (hr : Rd W0 B s wn) (hG : G = .ok (x,s)) (hv : OwnM (w.heap.size + 1) wn (fun W => V W x v)) : RdPost W0 B w V G (.returned v) W' := by
  refine ⟨grown_high hgr hgs (fun k e => .inl (by injection e with e; omega)),?_⟩
  rw [hG]
  exact ⟨_,rfl,(hv.go hgs (fun k e => .inl (by injection e with e; omega))).mono (by omega),hr.grown hgs (fun k e => by injection e with e; have := hr.pb; omega)⟩
section
variable {W0 w : World} {B : Nat} {t : Txt}
set_option maxRecDepth 100000 in
set_option maxHeartbeats 16000000 in
theorem r_off (h : Rd W0 B t w) :
    Calls Tryz.prog 138 #[.pointer (some ⟨B,0,none⟩)] w (RdPost W0 B w VOffW (offC.r t)) := by
  have HB := hide h.lt
  have H0 := hide (h.below (boxw (.cells #[.string ⟨#[]⟩,.string ⟨#[]⟩,.string ⟨#[]⟩] 34)))
  have G0 : Hid (w.grownBy (w.alloc (.cells #[.string ⟨#[]⟩,.string ⟨#[]⟩,.string ⟨#[]⟩] 34)) (some B)) := grown_of _ (boxw _)
  have K0 : Hid ((w.alloc (.cells #[.string ⟨#[]⟩,.string ⟨#[]⟩,.string ⟨#[]⟩] 34)).grownBy (w.alloc (.cells #[.string ⟨#[]⟩,.string ⟨#[]⟩,.string ⟨#[]⟩] 34)) (some B)) := ggrown_refl _ _
  clear h
  obtain ⟨G,hG⟩ : ∃ G,G = offC.r t := ⟨_,rfl⟩
  have E0 := hide (hG.trans (mapG_id _))
  rw [<- hG]
  clear hG
  go_enter Tryz.func138,Tryz.ntmps138
  go_wp2_with fail
  refine (rtext_any (unhide H0)).mono ?_
  rintro e w1 ⟨hg,hp⟩
  rcases h1 : txtC.r t with z | ⟨x0,s0⟩
  · rw [h1] at hp
    obtain rfl := hp
    have hz := (unhide E0).trans (step_err h1)
    refine ⟨rfl,grown_trans (unhide G0) hg,?_⟩
    rw [hz]
  · rw [h1] at hp
    obtain ⟨v,rfl,hv,hr⟩ := hp
    obtain ⟨rfl,hs⟩ := hv.now
    have S0 := hide hs
    clear hs
    have G1 := hide (grown_trans (unhide G0) hg)
    have K1 := hide (grown_trans (unhide K0) hg)
    have H1 := hide hr
    have E1 := hide ((unhide E0).trans (step_ok h1))
    clear hg hr hv h1 H0 E0 G0 K0
    go_wp2_with fail
    refine (rtext_any (unhide H1)).mono ?_
    rintro e w2 ⟨hg,hp⟩
    rcases h1 : txtC.r s0 with z | ⟨x1,s1⟩
    · rw [h1] at hp
      obtain rfl := hp
      have hz := (unhide E1).trans (step_err h1)
      refine ⟨rfl,grown_trans (unhide G1) hg,?_⟩
      rw [hz]
    · rw [h1] at hp
      obtain ⟨v,rfl,hv,hr⟩ := hp
      obtain ⟨rfl,hs⟩ := hv.now
      have S1 := hide hs
      clear hs
      have G2 := hide (grown_trans (unhide G1) hg)
      have K2 := hide (grown_trans (unhide K1) hg)
      have H2 := hide hr
      have E2 := hide ((unhide E1).trans (step_ok h1))
      clear hg hr hv h1 H1 E1 G1 K1
      go_wp2_with fail
      refine (rtext_any (unhide H2)).mono ?_
      rintro e w3 ⟨hg,hp⟩
      rcases h1 : txtC.r s1 with z | ⟨x2,s2⟩
      · rw [h1] at hp
        obtain rfl := hp
        have hz := (unhide E2).trans (last_err h1)
        refine ⟨rfl,grown_trans (unhide G2) hg,?_⟩
        rw [hz]
      · rw [h1] at hp
        obtain ⟨v,rfl,hv,hr⟩ := hp
        obtain ⟨rfl,hs⟩ := hv.now
        have S2 := hide hs
        clear hs
        have G3 := hide (grown_trans (unhide G2) hg)
        have K3 := hide (grown_trans (unhide K2) hg)
        have H3 := hide hr
        have E3 := hide ((unhide E2).trans (last_ok h1))
        clear hg hr hv h1 H2 E2 G2 K2
        have hne : w.heap.size ≠ B := by have := unhide HB; omega
        have b0 : w3.cell? ⟨w.heap.size,0,none⟩ = some (.string ⟨#[]⟩) := grown_cell (unhide K3) (by simp [go_sem]) hne
        have b1 : w3.cell? ⟨w.heap.size,1,none⟩ = some (.string ⟨#[]⟩) := grown_cell (unhide K3) (by simp [go_sem]) hne
        have b2 : w3.cell? ⟨w.heap.size,2,none⟩ = some (.string ⟨#[]⟩) := grown_cell (unhide K3) (by simp [go_sem]) hne
        have hfz : ∀ o,w3.frozen? ⟨w.heap.size,o,none⟩ = false := fun o => grown_frozen (unhide K3) (by simp [go_sem]) hne (by simp)
        clear K3
        go_wp2_with fail
        refine bodyPost_ret (v := .agg #[.string (bytesT x0),.string (bytesT x1),.string (bytesT x2)]) (by simp [results,Tryz.results138,go_sem,b0,b1,b2]) rfl ?_
        exact rdpost_box (unhide G3) (by repeat (first | exact grown_put _ _ _ _ | refine grown_trans ?_ (grown_put _ _ _ _))) (unhide HB) (unhide H3) (unhide E3) (own_const ⟨rfl,unhide S0,unhide S1,unhide S2⟩ _)
end
end Go.Proofs.YtfpfdnapamdhjaaGreatDoor

/- Layer 9: the program's readers of objects -/
namespace Go.Proofs.YtfpfdnapamdhjaaGreatDoor
open Go.RowKit Suf Val

def VCoolI : World -> VCool -> Value -> Prop := fun _ x v => v = .iface 42 (.agg #[.string (bytesT x.1.1),.string (bytesT x.1.2.1),.string (bytesT x.1.2.2),.int .i64 x.2]) /\ okO x.1
section
variable {W0 w : World} {B : Nat} {t : Txt}
set_option maxRecDepth 100000 in
set_option maxHeartbeats 16000000 in
theorem r_cool (h : Rd W0 B t w) :
    Calls Tryz.prog 101 #[.pointer (some ⟨B,0,none⟩)] w (RdPost W0 B w VCoolI (coolC.r t)) := by
  have HB := hide h.lt
  have H0 := hide h
  have G0 : Hid (w.grownBy w (some B)) := ggrown_refl _ _
  clear h
  obtain ⟨G,hG⟩ : ∃ G,G = coolC.r t := ⟨_,rfl⟩
  have E0 := hide (hG.trans (mapG_id _))
  rw [<- hG]
  clear hG
  go_enter Tryz.func101,Tryz.ntmps101
  go_wp2_with fail
  refine (r_off (unhide H0)).mono ?_
  rintro e w1 ⟨hg,hp⟩
  rcases h1 : offC.r t with z | ⟨x0,s0⟩
  · rw [h1] at hp
    obtain rfl := hp
    have hz := (unhide E0).trans (step_err h1)
    refine ⟨rfl,grown_trans (unhide G0) hg,?_⟩
    rw [hz]
  · rw [h1] at hp
    obtain ⟨v,rfl,hv,hr⟩ := hp
    obtain ⟨rfl,hs⟩ := hv.now
    have S0 := hide hs
    clear hs
    have G1 := hide (grown_trans (unhide G0) hg)
    have H1 := hide hr
    have E1 := hide ((unhide E0).trans (step_ok h1))
    clear hg hr hv h1 H0 E0 G0
    go_wp2_with fail
    refine (rnum_any (unhide H1)).mono ?_
    rintro e w2 ⟨hg,hp⟩
    rcases h1 : numC.r s0 with z | ⟨x1,s1⟩
    · rw [h1] at hp
      obtain rfl := hp
      have hz := (unhide E1).trans (last_err h1)
      refine ⟨rfl,grown_trans (unhide G1) hg,?_⟩
      rw [hz]
    · rw [h1] at hp
      obtain ⟨v,rfl,hv,hr⟩ := hp
      obtain rfl := hv.now
      have G2 := hide (grown_trans (unhide G1) hg)
      have H2 := hide hr
      have E2 := hide ((unhide E1).trans (last_ok h1))
      clear hg hr hv h1 H1 E1 G1
      go_wp2_with fail
      go_ret
      refine ⟨unhide G2,?_⟩
      rw [unhide E2]
      exact ⟨_,rfl,own_const ⟨rfl,unhide S0⟩ _,unhide H2⟩
end
end Go.Proofs.YtfpfdnapamdhjaaGreatDoor

/- Layer 9: the end of the bytes; the table of readers. -/
namespace Go.Proofs.YtfpfdnapamdhjaaGreatDoor
open Go.RowKit Suf Val

section
variable {W0 w : World} {B : Nat} {t : Txt}
set_option maxRecDepth 100000 in
set_option maxHeartbeats 4000000 in
theorem rend_any (h : Rd W0 B t w) :
    Calls Tryz.prog 53 #[.pointer (some ⟨B,0,none⟩)] w fun e w' => w' = w /\ e = if t = [] then .returned (.tuple #[]) else .panicked (pan 20) := by
  obtain ⟨v,hc,hl⟩ := h.cell
  obtain ⟨a,c,rfl⟩ := hl.val
  clear hl h
  cases t with
  | nil =>
    go_enter Tryz.func53,Tryz.ntmps53
    go_wp2_with fail
    go_end0
    exact ⟨rfl,rfl⟩
  | cons d t =>
    have hp : (0 : Int) < ((d :: t).length : Int) := by rw [List.length_cons]; omega
    go_enter Tryz.func53,Tryz.ntmps53
    go_wp2_with fail
    exact ⟨rfl,rfl,rfl⟩
end
def fnV (F : Nat) : Value := .func (.func F) #[] #[]
set_option maxRecDepth 100000 in
set_option maxHeartbeats 4000000 in
theorem layouts_any (w : World) : Calls Tryz.prog 51 #[] w fun e w' => e = .returned (.slice (some ⟨w.heap.size,0,none⟩) 5 5) /\ w' = w.alloc (.cells #[.int .i64 1,fnV 97,.int .i64 2,fnV 98,.int .i64 3,fnV 99,.int .i64 4,fnV 100,.int .i64 5,fnV 101] 80) := by
  go_enter Tryz.func51,Tryz.ntmps51
  go_wp2_with fail
  go_ret
  exact ⟨rfl,rfl⟩
theorem has_nil : ∀ (W : World),(binOp .neq 20 .nilIface .nilIface).run Tryz.prog W = .ok (.bool false) W := fun W => by kernel_rfl
theorem has_err : ∀ (W : World) (z : Int),(binOp .neq 20 (.iface 47 (.int .i64 z)) .nilIface).run Tryz.prog W = .ok (.bool true) W := fun W z => by kernel_rfl
theorem as_err : ∀ (W : World) (z : Int),(Instr.typeAssert (.iface 47 (.int .i64 z)) 20 47 false).run Tryz.prog W = .ok (.int .i64 z) W := fun W z => by kernel_rfl
set_option maxRecDepth 100000 in
set_option maxHeartbeats 4000000 in
theorem catch_idle (p q : Addr) (w : World) :
    CallsD Tryz.prog 52 #[.pointer (some p),.pointer (some q)] .returning w fun e u' w' => e = .returned (.tuple #[]) /\ u' = .returning /\ w' = w := by
  have hn := has_nil
  refine callsD_of_wpS Tryz.func52 rfl fun c₀ cs hu => ?_
  apply wpS_seq
  apply wpS_region
  simp [wpOpsS,go_sem,recoverD,hu,Tryz.ntmps52,Exit.thenS]
  apply wpS_seq
  apply wpS_region
  simp [wpOpsS,go_sem,hn,Exit.thenS]
  refine wpS_cond (t := false) (by simp [Act.eval,Array.replicate]) ?_
  simp only [Bool.false_eq_true,if_false]
  refine wpS_of_wp (wp_skip ?_)
  cases c₀
  simp_all [bodyPostS,results,Tryz.results52]
set_option maxRecDepth 100000 in
set_option maxHeartbeats 4000000 in
theorem catch_pan (b1 b2 : Nat) (u v : Value) (z : Int) (older : List PanicEntry) (w : World) (hne : b1 ≠ b2) (h1 : w.cell? ⟨b1,0,none⟩ = some u) (h2 : w.cell? ⟨b2,0,none⟩ = some v) (f1 : w.frozen? ⟨b1,0,none⟩ = false) (f2 : w.frozen? ⟨b2,0,none⟩ = false) (N : Nat) (hN1 : N <= b1) (hN2 : N <= b2) :
    CallsD Tryz.prog 52 #[.pointer (some ⟨b1,0,none⟩),.pointer (some ⟨b2,0,none⟩)] (.panicking ({ v := .iface 47 (.int .i64 z),recovered := false } :: older)) w fun e u' w' =>
      e = .returned (.tuple #[]) /\ u' = .panicking ({ v := .iface 47 (.int .i64 z),recovered := true } :: older) /\ w'.cell? ⟨b1,0,none⟩ = some .nilIface /\ w'.cell? ⟨b2,0,none⟩ = some (.int .i64 z) /\ Below N w w' := by
  have hn := has_err
  have ha := as_err
  refine callsD_of_wpS Tryz.func52 rfl fun c₀ cs hu => ?_
  apply wpS_seq
  apply wpS_region
  simp [wpOpsS,go_sem,recoverD,hu,Tryz.ntmps52,Exit.thenS]
  apply wpS_seq
  apply wpS_region
  simp [wpOpsS,go_sem,hn,Exit.thenS]
  refine wpS_cond (t := true) (by simp [Act.eval,Array.replicate]) ?_
  simp only [if_true]
  refine wpS_of_wp ?_
  simp only [Array.replicate_succ,Array.replicate_zero,List.push_toArray,List.append_toArray,List.nil_append,List.cons_append,List.setIfInBounds_toArray,List.set_cons_zero,List.set_cons_succ]
  have hb12 : ∀ (x : Value),(w.setCell ⟨b1,0,none⟩ x).cell? ⟨b2,0,none⟩ = some v := fun x => by rw [World.cell?_setCell_far _ _ _ _ hne]; exact h2
  have hb21 : ∀ (x : Value),(w.setCell ⟨b2,0,none⟩ x).cell? ⟨b1,0,none⟩ = some u := fun x => by rw [World.cell?_setCell_far _ _ _ _ (Ne.symm hne)]; exact h1
  go_region_with fail
  all_goals
    have c1 : (w.setCell ⟨b1,0,none⟩ .nilIface).cell? ⟨b1,0,none⟩ = some .nilIface := World.cell?_setCell_same _ _ _ h1
    have k1 : ((w.setCell ⟨b1,0,none⟩ .nilIface).setCell ⟨b2,0,none⟩ (.int .i64 z)).drew.cell? ⟨b1,0,none⟩ = some .nilIface := by
      rw [World.cell?_drew,World.cell?_setCell_far _ _ _ _ (Ne.symm hne)]; exact c1
    have k2 : ((w.setCell ⟨b1,0,none⟩ .nilIface).setCell ⟨b2,0,none⟩ (.int .i64 z)).drew.cell? ⟨b2,0,none⟩ = some (.int .i64 z) := by
      rw [World.cell?_drew]; exact World.cell?_setCell_same _ _ _ (hb12 _)
    have k3 : Below N w ((w.setCell ⟨b1,0,none⟩ .nilIface).setCell ⟨b2,0,none⟩ (.int .i64 z)).drew := (((Below.refl _ _).setCell hN1 _).setCell hN2 _).drew
    generalize ((w.setCell ⟨b1,0,none⟩ .nilIface).setCell ⟨b2,0,none⟩ (.int .i64 z)).drew = W at *
    simp [bodyPostS,results,Tryz.results52]
    exact ⟨k1,k2,k3⟩
/-- What reading the whole comes to. -/
def WholeP {α : Type} (C : Cod α) (V : World -> α -> Value -> Prop) (w : World) (t : Txt) (e : Ending) (w' : World) : Prop := Below w.heap.size w w' /\ match C.r t with
  | .error z => e = .returned (.tuple #[.nilIface,.int .i64 z])
  | .ok (x,s) => if s = [] then ∃ I,e = .returned (.tuple #[I,.int .i64 0]) /\ V w' x I else e = .returned (.tuple #[.nilIface,.int .i64 20])
set_option maxRecDepth 100000 in
set_option maxHeartbeats 8000000 in
theorem whole_any {α : Type} (C : Cod α) (F : Nat) (n : Int) (V : World -> α -> Value -> Prop) (w : World) (v : Value) (t : Txt) (hv : Lst byteK w v t)
    (hF : ∀ (W0 : World) (B : Nat) (t : Txt) (W : World),Rd W0 B t W -> Calls Tryz.prog F #[.pointer (some ⟨B,0,none⟩)] W (RdPost W0 B W V (C.r t))) (hI : ∀ W x v,V W x v -> ∃ T u,v = .iface T u) (hE : ∀ (args : Array Value) (W : World),(callFunc F args).run Tryz.prog W = .ok (.enter F args) W) :
    Calls Tryz.prog 25 #[.agg #[.int .i64 n,fnV F],v] w (WholeP C V w t) := by
  have hmf : ∀ (fn : Fn) (first cap : Array Value) (w : World),(Instr.makeFunc fn first cap).run Tryz.prog w = .ok (.func fn first cap) w := fun _ _ _ _ => rfl
  obtain ⟨a,c,rfl⟩ := hv.val
  have HV := hide hv
  have HF := hide hF
  have HI := hide hI
  clear hv hF hI
  unfold fnV
  obtain ⟨W3,hW3⟩ : ∃ W,W = ((w.alloc (.cells #[.int .i64 n,.func (.func F) #[] #[]] 80)).alloc (.cells #[.nilIface] 20)).alloc (.cells #[.int .i64 0] 47) := ⟨_,rfl⟩
  have hs3 : W3.heap.size = w.heap.size + 1 + 1 + 1 := by rw [hW3]; simp
  have hb3 : Below w.heap.size w W3 := by rw [hW3]; exact ((boxw _).alloc (by simp) _).alloc (by simp; omega) _
  have x3 : W3.cell? ⟨w.heap.size + 1,0,none⟩ = some .nilIface := by rw [hW3]; simp [go_sem]
  have e3 : W3.cell? ⟨w.heap.size + 1 + 1,0,none⟩ = some (.int .i64 0) := by rw [hW3]; simp [go_sem]
  have f3 : W3.frozen? ⟨w.heap.size + 1,0,none⟩ = false := by rw [hW3]; simp [go_sem]
  have f4 : W3.frozen? ⟨w.heap.size + 1 + 1,0,none⟩ = false := by rw [hW3]; simp [go_sem]
  have h4 := boxw (w := W3) (.cells #[.slice a t.length c] 126)
  have HX := hide (And.intro (cell_kept h4 x3) (And.intro (cell_kept h4 e3) (And.intro ((h4.frozen (p := ⟨w.heap.size + 1,0,none⟩) (by show w.heap.size + 1 < _; omega)).trans f3) ((h4.frozen (p := ⟨w.heap.size + 1 + 1,0,none⟩) (by show w.heap.size + 1 + 1 < _; omega)).trans f4))))
  have HB := hide (And.intro hs3 (chain hb3 h4))
  have HRd : Hid (Rd w (w.heap.size + 1 + 1 + 1) t (W3.alloc (.cells #[.slice a t.length c] 126))) := by
    refine ⟨(unhide HB).2,by omega,?_,_,?_,unhide HV⟩
    · rw [<- hs3]; simp [go_sem]
    · rw [<- hs3]; simp [go_sem]
  have HW := hide hW3
  clear hb3 x3 e3 f3 f4 hs3 h4 HV hW3
  go_enter_defers Tryz.func25,Tryz.ntmps25
  go_wp2_with fail
  rw [<- unhide HW]
  refine (unhide HF _ _ _ _ (unhide HRd)).mono ?_
  rintro e w1 ⟨hg,hp⟩
  have x1 := grown_cell hg (unhide HX).1 (by show w.heap.size + 1 ≠ _; omega)
  have e1 := grown_cell hg (unhide HX).2.1 (by show w.heap.size + 1 + 1 ≠ _; omega)
  have fx := grown_frozen hg (unhide HX).2.2.1 (by show w.heap.size + 1 ≠ _; omega) (by have := (unhide HB).1; simp; omega)
  have fe := grown_frozen hg (unhide HX).2.2.2 (by show w.heap.size + 1 + 1 ≠ _; omega) (by have := (unhide HB).1; simp; omega)
  have hb1 : Below w.heap.size w w1 := (unhide HB).2.grown hg (unhide HB).2.size (fun k e => by injection e with e; omega)
  rcases hr : C.r t with z | ⟨x,s⟩
  · rw [hr] at hp
    obtain rfl := hp
    refine leaves_cons (f := 52) (args := #[.pointer (some ⟨w.heap.size + 1,0,none⟩),.pointer (some ⟨w.heap.size + 1 + 1,0,none⟩)]) (by simp) (by simp [go_sem]) ?_
    refine (catch_pan (w.heap.size + 1) (w.heap.size + 1 + 1) _ _ z [] w1 (by omega) x1 e1 fx fe w.heap.size (by omega) (by omega)).mono ?_
    rintro e u' w'' ⟨rfl,rfl,k1,k2,k3⟩
    have k4 := hb1.trans k3
    simp [Leaves,settle,results,Tryz.results25,go_sem,k1,k2]
    refine ⟨k4,?_⟩
    rw [hr]
  · rw [hr] at hp
    obtain ⟨v,rfl,hv,hrd⟩ := hp
    obtain ⟨T,u,rfl⟩ := unhide HI _ _ _ hv.now
    have HG := hide hg
    have HV := hide hv
    have HR := hide hrd
    have HB1 := hide hb1
    clear hg hv hrd hb1 HX HF HRd HW
    go_wp2_with fail
    have HR2 := hide ((unhide HR).grown (grown_put w1 (w.heap.size + 1) 0 (.iface T u)) (fun k e => by injection e with e; omega))
    refine (rend_any (unhide HR2)).mono ?_
    rintro e w2 ⟨rfl,he⟩
    by_cases hs : s = []
    · rw [if_pos hs] at he
      obtain rfl := he
      have HRr := hide hr
      have HSs := hide hs
      clear hr hs
      go_wp2_with fail
      have c1 : (((w1.setCell ⟨w.heap.size + 1,0,none⟩ (.iface T u)).setCell ⟨w.heap.size + 1,0,none⟩ (.iface T u)).setCell ⟨w.heap.size + 1 + 1,0,none⟩ (.int .i64 0)).cell? ⟨w.heap.size + 1,0,none⟩ = some (.iface T u) := by
        rw [World.cell?_setCell_far _ _ _ _ (by show w.heap.size + 1 + 1 ≠ w.heap.size + 1; omega)]
        exact World.cell?_setCell_same _ _ _ (World.cell?_setCell_same _ _ _ x1)
      have c2 : (((w1.setCell ⟨w.heap.size + 1,0,none⟩ (.iface T u)).setCell ⟨w.heap.size + 1,0,none⟩ (.iface T u)).setCell ⟨w.heap.size + 1 + 1,0,none⟩ (.int .i64 0)).cell? ⟨w.heap.size + 1 + 1,0,none⟩ = some (.int .i64 0) := by
        have c0 : ((w1.setCell ⟨w.heap.size + 1,0,none⟩ (.iface T u)).setCell ⟨w.heap.size + 1,0,none⟩ (.iface T u)).cell? ⟨w.heap.size + 1 + 1,0,none⟩ = some (.int .i64 0) := by
          rw [World.cell?_setCell_far _ _ _ _ (by show w.heap.size + 1 ≠ w.heap.size + 1 + 1; omega),World.cell?_setCell_far _ _ _ _ (by show w.heap.size + 1 ≠ w.heap.size + 1 + 1; omega)]
          exact e1
        exact World.cell?_setCell_same _ _ _ c0
      have hN := (unhide HB).1
      have hlt : ∀ k,k <= w.heap.size + 1 + 1 -> k < (W3.alloc (.cells #[.slice a t.length c] 126)).heap.size := fun k hk => by simp; omega
      have k5 := (((unhide HV).go (grown_put w1 (w.heap.size + 1) 0 (.iface T u)) (fun k e => .inl (hlt k (by injection e with e; omega)))).go (grown_put _ (w.heap.size + 1) 0 (.iface T u)) (fun k e => .inl (hlt k (by injection e with e; omega)))).go (grown_put _ (w.heap.size + 1 + 1) 0 (.int .i64 0)) (fun k e => .inl (hlt k (by injection e with e; omega)))
      have k6 : Below w.heap.size w (((w1.setCell ⟨w.heap.size + 1,0,none⟩ (.iface T u)).setCell ⟨w.heap.size + 1,0,none⟩ (.iface T u)).setCell ⟨w.heap.size + 1 + 1,0,none⟩ (.int .i64 0)) := (((unhide HB1).setCell (by show w.heap.size <= w.heap.size + 1; omega) _).setCell (by show w.heap.size <= w.heap.size + 1; omega) _).setCell (by show w.heap.size <= w.heap.size + 1 + 1; omega) _
      have k7 := k5.now
      clear k5
      generalize (((w1.setCell ⟨w.heap.size + 1,0,none⟩ (.iface T u)).setCell ⟨w.heap.size + 1,0,none⟩ (.iface T u)).setCell ⟨w.heap.size + 1 + 1,0,none⟩ (.int .i64 0)) = W9 at *
      refine leaves_cons (f := 52) (args := #[.pointer (some ⟨w.heap.size + 1,0,none⟩),.pointer (some ⟨w.heap.size + 1 + 1,0,none⟩)]) (by simp) (by simp [go_sem]) ?_
      refine (catch_idle _ _ _).mono ?_
      rintro e u' w'' ⟨rfl,rfl,rfl⟩
      simp [Leaves,settle,results,Tryz.results25,go_sem,c1,c2]
      refine ⟨k6,?_⟩
      rw [unhide HRr]
      show if s = [] then _ else _
      rw [if_pos (unhide HSs)]
      exact ⟨_,rfl,k7⟩
    · rw [if_neg hs] at he
      obtain rfl := he
      have x2 := World.cell?_setCell_same w1 ⟨w.heap.size + 1,0,none⟩ (.iface T u) x1
      have e2 : (w1.setCell ⟨w.heap.size + 1,0,none⟩ (.iface T u)).cell? ⟨w.heap.size + 1 + 1,0,none⟩ = some (.int .i64 0) := by
        rw [World.cell?_setCell_far _ _ _ _ (by show w.heap.size + 1 ≠ w.heap.size + 1 + 1; omega)]; exact e1
      refine leaves_cons (f := 52) (args := #[.pointer (some ⟨w.heap.size + 1,0,none⟩),.pointer (some ⟨w.heap.size + 1 + 1,0,none⟩)]) (by simp) (by simp [go_sem]) ?_
      refine (catch_pan (w.heap.size + 1) (w.heap.size + 1 + 1) _ _ 20 [] _ (by omega) x2 e2 (by rw [World.frozen?_setCell]; exact fx) (by rw [World.frozen?_setCell]; exact fe) w.heap.size (by omega) (by omega)).mono ?_
      rintro e u' w'' ⟨rfl,rfl,k1,k2,k3⟩
      have k4 := ((unhide HB1).setCell (p := ⟨w.heap.size + 1,0,none⟩) (by show w.heap.size <= w.heap.size + 1; omega) (.iface T u)).trans k3
      simp [Leaves,settle,results,Tryz.results25,go_sem,k1,k2]
      refine ⟨k4,?_⟩
      rw [hr]
      show if s = [] then _ else _
      rw [if_neg hs]
end Go.Proofs.YtfpfdnapamdhjaaGreatDoor

/- Layer 9: the table of readers looked up -/
namespace Go.Proofs.YtfpfdnapamdhjaaGreatDoor
open Go.RowKit Suf Val

set_option maxRecDepth 100000 in
set_option maxHeartbeats 16000000 in
theorem layout_0 (kind : Int) (hk : ¬ kind = 1 /\ ¬ kind = 2 /\ ¬ kind = 3 /\ ¬ kind = 4 /\ ¬ kind = 5) (w : World) : Calls Tryz.prog 24 #[.int .i64 kind] w fun e w' => e = .returned (.tuple #[.agg #[.int .i64 0,.nilFunc],.bool false]) /\ Below w.heap.size w w' := by
  have d1 : ((1 : Int) == kind) = false := by rw [beq_eq_false_iff_ne]; omega
  have d2 : ((2 : Int) == kind) = false := by rw [beq_eq_false_iff_ne]; omega
  have d3 : ((3 : Int) == kind) = false := by rw [beq_eq_false_iff_ne]; omega
  have d4 : ((4 : Int) == kind) = false := by rw [beq_eq_false_iff_ne]; omega
  have d5 : ((5 : Int) == kind) = false := by rw [beq_eq_false_iff_ne]; omega
  clear hk
  have hb0 : Below w.heap.size w ((w.alloc (.cells #[.int .i64 0,.nilFunc] 80)).alloc (.cells #[.int .i64 1,fnV 97,.int .i64 2,fnV 98,.int .i64 3,fnV 99,.int .i64 4,fnV 100,.int .i64 5,fnV 101] 80)) := (boxw _).alloc (by simp) _
  have t0 : ((w.alloc (.cells #[.int .i64 0,.nilFunc] 80)).alloc (.cells #[.int .i64 1,fnV 97,.int .i64 2,fnV 98,.int .i64 3,fnV 99,.int .i64 4,fnV 100,.int .i64 5,fnV 101] 80)).cell? ⟨w.heap.size + 1,0,none⟩ = some (.int .i64 1) := by simp [go_sem]
  have u0 : ((w.alloc (.cells #[.int .i64 0,.nilFunc] 80)).alloc (.cells #[.int .i64 1,fnV 97,.int .i64 2,fnV 98,.int .i64 3,fnV 99,.int .i64 4,fnV 100,.int .i64 5,fnV 101] 80)).cell? ⟨w.heap.size + 1,1,none⟩ = some (fnV 97) := by simp [go_sem]
  have t1 : ((w.alloc (.cells #[.int .i64 0,.nilFunc] 80)).alloc (.cells #[.int .i64 1,fnV 97,.int .i64 2,fnV 98,.int .i64 3,fnV 99,.int .i64 4,fnV 100,.int .i64 5,fnV 101] 80)).cell? ⟨w.heap.size + 1,2,none⟩ = some (.int .i64 2) := by simp [go_sem]
  have u1 : ((w.alloc (.cells #[.int .i64 0,.nilFunc] 80)).alloc (.cells #[.int .i64 1,fnV 97,.int .i64 2,fnV 98,.int .i64 3,fnV 99,.int .i64 4,fnV 100,.int .i64 5,fnV 101] 80)).cell? ⟨w.heap.size + 1,3,none⟩ = some (fnV 98) := by simp [go_sem]
  have t2 : ((w.alloc (.cells #[.int .i64 0,.nilFunc] 80)).alloc (.cells #[.int .i64 1,fnV 97,.int .i64 2,fnV 98,.int .i64 3,fnV 99,.int .i64 4,fnV 100,.int .i64 5,fnV 101] 80)).cell? ⟨w.heap.size + 1,4,none⟩ = some (.int .i64 3) := by simp [go_sem]
  have u2 : ((w.alloc (.cells #[.int .i64 0,.nilFunc] 80)).alloc (.cells #[.int .i64 1,fnV 97,.int .i64 2,fnV 98,.int .i64 3,fnV 99,.int .i64 4,fnV 100,.int .i64 5,fnV 101] 80)).cell? ⟨w.heap.size + 1,5,none⟩ = some (fnV 99) := by simp [go_sem]
  have t3 : ((w.alloc (.cells #[.int .i64 0,.nilFunc] 80)).alloc (.cells #[.int .i64 1,fnV 97,.int .i64 2,fnV 98,.int .i64 3,fnV 99,.int .i64 4,fnV 100,.int .i64 5,fnV 101] 80)).cell? ⟨w.heap.size + 1,6,none⟩ = some (.int .i64 4) := by simp [go_sem]
  have u3 : ((w.alloc (.cells #[.int .i64 0,.nilFunc] 80)).alloc (.cells #[.int .i64 1,fnV 97,.int .i64 2,fnV 98,.int .i64 3,fnV 99,.int .i64 4,fnV 100,.int .i64 5,fnV 101] 80)).cell? ⟨w.heap.size + 1,7,none⟩ = some (fnV 100) := by simp [go_sem]
  have t4 : ((w.alloc (.cells #[.int .i64 0,.nilFunc] 80)).alloc (.cells #[.int .i64 1,fnV 97,.int .i64 2,fnV 98,.int .i64 3,fnV 99,.int .i64 4,fnV 100,.int .i64 5,fnV 101] 80)).cell? ⟨w.heap.size + 1,8,none⟩ = some (.int .i64 5) := by simp [go_sem]
  have u4 : ((w.alloc (.cells #[.int .i64 0,.nilFunc] 80)).alloc (.cells #[.int .i64 1,fnV 97,.int .i64 2,fnV 98,.int .i64 3,fnV 99,.int .i64 4,fnV 100,.int .i64 5,fnV 101] 80)).cell? ⟨w.heap.size + 1,9,none⟩ = some (fnV 101) := by simp [go_sem]
  have b0 : ((w.alloc (.cells #[.int .i64 0,.nilFunc] 80)).alloc (.cells #[.int .i64 1,fnV 97,.int .i64 2,fnV 98,.int .i64 3,fnV 99,.int .i64 4,fnV 100,.int .i64 5,fnV 101] 80)).cell? ⟨w.heap.size,0,none⟩ = some (.int .i64 0) := by simp [go_sem]
  have b1 : ((w.alloc (.cells #[.int .i64 0,.nilFunc] 80)).alloc (.cells #[.int .i64 1,fnV 97,.int .i64 2,fnV 98,.int .i64 3,fnV 99,.int .i64 4,fnV 100,.int .i64 5,fnV 101] 80)).cell? ⟨w.heap.size,1,none⟩ = some .nilFunc := by simp [go_sem]
  have bf : ∀ o,((w.alloc (.cells #[.int .i64 0,.nilFunc] 80)).alloc (.cells #[.int .i64 1,fnV 97,.int .i64 2,fnV 98,.int .i64 3,fnV 99,.int .i64 4,fnV 100,.int .i64 5,fnV 101] 80)).frozen? ⟨w.heap.size,o,none⟩ = false := fun o => by simp [go_sem]
  obtain ⟨Wt,hWt⟩ : ∃ W,W = (w.alloc (.cells #[.int .i64 0,.nilFunc] 80)).alloc (.cells #[.int .i64 1,fnV 97,.int .i64 2,fnV 98,.int .i64 3,fnV 99,.int .i64 4,fnV 100,.int .i64 5,fnV 101] 80) := ⟨_,rfl⟩
  have hs : Wt.heap.size = w.heap.size + 1 + 1 := by rw [hWt]; simp
  rw [<- hWt] at hb0 b0 b1 bf t0 u0 t1 u1 t2 u2 t3 u3 t4 u4
  have HT := hide (And.intro t0 (And.intro u0 (And.intro t1 (And.intro u1 (And.intro t2 (And.intro u2 (And.intro t3 (And.intro u3 (And.intro t4 u4)))))))))
  have HBX := hide (And.intro b0 (And.intro b1 bf))
  have HB := hide hb0
  have HS := hide hs
  have HW := hide hWt
  clear hb0 b0 b1 bf hWt hs t0 u0 t1 u1 t2 u2 t3 u3 t4 u4
  go_enter Tryz.func24,Tryz.ntmps24
  go_wp2_with fail
  refine (layouts_any _).mono ?_
  rintro e w1 ⟨rfl,rfl⟩
  have hsz : (w.alloc (.cells #[.int .i64 0,.nilFunc] 80)).heap.size = w.heap.size + 1 := by simp
  rw [hsz,<- unhide HW]
  clear hsz
  go_wp2_with fail
  go_loopw [8] (fun i W => ∃ k : Nat,k <= 5 /\ i = .int .i64 k /\ Hid (Below Wt.heap.size Wt W)) (fun i _ => 5 - (intOf i).toNat)
  case atStart => exact ⟨0,by omega,rfl,Below.refl _ _⟩
  case round =>
    obtain ⟨k,hk,rfl,hbel⟩ := hrel
    have hkk : k = 0 ∨ k = 1 ∨ k = 2 ∨ k = 3 ∨ k = 4 ∨ k = 5 := by omega
    rcases hkk with rfl | rfl | rfl | rfl | rfl | rfl
    · have r0 := cell_kept (unhide hbel) (unhide HT).1
      have r1 := cell_kept (unhide hbel) (unhide HT).2.1
      have hL := hide ((unhide hbel).trans ((boxw (.cells #[.int .i64 1,fnV 97] 80)).mono (unhide hbel).size))
      unfold fnV at r1 hL
      go_wp2_with fail
      exact ⟨⟨1,by omega,by go_num,hL⟩,by simp [intOf]⟩
    · have r0 := cell_kept (unhide hbel) (unhide HT).2.2.1
      have r1 := cell_kept (unhide hbel) (unhide HT).2.2.2.1
      have hL := hide ((unhide hbel).trans ((boxw (.cells #[.int .i64 2,fnV 98] 80)).mono (unhide hbel).size))
      unfold fnV at r1 hL
      go_wp2_with fail
      exact ⟨⟨2,by omega,by go_num,hL⟩,by simp [intOf]⟩
    · have r0 := cell_kept (unhide hbel) (unhide HT).2.2.2.2.1
      have r1 := cell_kept (unhide hbel) (unhide HT).2.2.2.2.2.1
      have hL := hide ((unhide hbel).trans ((boxw (.cells #[.int .i64 3,fnV 99] 80)).mono (unhide hbel).size))
      unfold fnV at r1 hL
      go_wp2_with fail
      exact ⟨⟨3,by omega,by go_num,hL⟩,by simp [intOf]⟩
    · have r0 := cell_kept (unhide hbel) (unhide HT).2.2.2.2.2.2.1
      have r1 := cell_kept (unhide hbel) (unhide HT).2.2.2.2.2.2.2.1
      have hL := hide ((unhide hbel).trans ((boxw (.cells #[.int .i64 4,fnV 100] 80)).mono (unhide hbel).size))
      unfold fnV at r1 hL
      go_wp2_with fail
      exact ⟨⟨4,by omega,by go_num,hL⟩,by simp [intOf]⟩
    · have r0 := cell_kept (unhide hbel) (unhide HT).2.2.2.2.2.2.2.2.1
      have r1 := cell_kept (unhide hbel) (unhide HT).2.2.2.2.2.2.2.2.2
      have hL := hide ((unhide hbel).trans ((boxw (.cells #[.int .i64 5,fnV 101] 80)).mono (unhide hbel).size))
      unfold fnV at r1 hL
      go_wp2_with fail
      exact ⟨⟨5,by omega,by go_num,hL⟩,by simp [intOf]⟩
    · have q0 := cell_kept (unhide hbel) (unhide HBX).1
      have q1 := cell_kept (unhide hbel) (unhide HBX).2.1
      have hsw := unhide HS
      have qf : ∀ o,wr.frozen? ⟨w.heap.size,o,none⟩ = false := fun o => by rw [(unhide hbel).frozen (p := ⟨w.heap.size,o,none⟩) (by show w.heap.size < _; omega)]; exact (unhide HBX).2.2 o
      clear hsw
      go_wp2_with fail
      refine bodyPost_ret (v := .tuple #[.agg #[.int .i64 0,.nilFunc],.bool false]) (by simp [results,Tryz.results24,go_sem,q0,q1]) rfl ?_
      exact ⟨rfl,(((unhide HB).trans ((unhide hbel).mono (unhide HB).size)).setCell (p := ⟨w.heap.size,0,none⟩) (Nat.le_refl _) _).setCell (p := ⟨w.heap.size,1,none⟩) (Nat.le_refl _) _⟩
set_option maxRecDepth 100000 in
set_option maxHeartbeats 16000000 in
theorem layout_5 (w : World) : Calls Tryz.prog 24 #[.int .i64 5] w fun e w' => e = .returned (.tuple #[.agg #[.int .i64 5,fnV 101],.bool true]) /\ Below w.heap.size w w' := by
  have hb0 : Below w.heap.size w ((w.alloc (.cells #[.int .i64 0,.nilFunc] 80)).alloc (.cells #[.int .i64 1,fnV 97,.int .i64 2,fnV 98,.int .i64 3,fnV 99,.int .i64 4,fnV 100,.int .i64 5,fnV 101] 80)) := (boxw _).alloc (by simp) _
  have t0 : ((w.alloc (.cells #[.int .i64 0,.nilFunc] 80)).alloc (.cells #[.int .i64 1,fnV 97,.int .i64 2,fnV 98,.int .i64 3,fnV 99,.int .i64 4,fnV 100,.int .i64 5,fnV 101] 80)).cell? ⟨w.heap.size + 1,0,none⟩ = some (.int .i64 1) := by simp [go_sem]
  have u0 : ((w.alloc (.cells #[.int .i64 0,.nilFunc] 80)).alloc (.cells #[.int .i64 1,fnV 97,.int .i64 2,fnV 98,.int .i64 3,fnV 99,.int .i64 4,fnV 100,.int .i64 5,fnV 101] 80)).cell? ⟨w.heap.size + 1,1,none⟩ = some (fnV 97) := by simp [go_sem]
  have t1 : ((w.alloc (.cells #[.int .i64 0,.nilFunc] 80)).alloc (.cells #[.int .i64 1,fnV 97,.int .i64 2,fnV 98,.int .i64 3,fnV 99,.int .i64 4,fnV 100,.int .i64 5,fnV 101] 80)).cell? ⟨w.heap.size + 1,2,none⟩ = some (.int .i64 2) := by simp [go_sem]
  have u1 : ((w.alloc (.cells #[.int .i64 0,.nilFunc] 80)).alloc (.cells #[.int .i64 1,fnV 97,.int .i64 2,fnV 98,.int .i64 3,fnV 99,.int .i64 4,fnV 100,.int .i64 5,fnV 101] 80)).cell? ⟨w.heap.size + 1,3,none⟩ = some (fnV 98) := by simp [go_sem]
  have t2 : ((w.alloc (.cells #[.int .i64 0,.nilFunc] 80)).alloc (.cells #[.int .i64 1,fnV 97,.int .i64 2,fnV 98,.int .i64 3,fnV 99,.int .i64 4,fnV 100,.int .i64 5,fnV 101] 80)).cell? ⟨w.heap.size + 1,4,none⟩ = some (.int .i64 3) := by simp [go_sem]
  have u2 : ((w.alloc (.cells #[.int .i64 0,.nilFunc] 80)).alloc (.cells #[.int .i64 1,fnV 97,.int .i64 2,fnV 98,.int .i64 3,fnV 99,.int .i64 4,fnV 100,.int .i64 5,fnV 101] 80)).cell? ⟨w.heap.size + 1,5,none⟩ = some (fnV 99) := by simp [go_sem]
  have t3 : ((w.alloc (.cells #[.int .i64 0,.nilFunc] 80)).alloc (.cells #[.int .i64 1,fnV 97,.int .i64 2,fnV 98,.int .i64 3,fnV 99,.int .i64 4,fnV 100,.int .i64 5,fnV 101] 80)).cell? ⟨w.heap.size + 1,6,none⟩ = some (.int .i64 4) := by simp [go_sem]
  have u3 : ((w.alloc (.cells #[.int .i64 0,.nilFunc] 80)).alloc (.cells #[.int .i64 1,fnV 97,.int .i64 2,fnV 98,.int .i64 3,fnV 99,.int .i64 4,fnV 100,.int .i64 5,fnV 101] 80)).cell? ⟨w.heap.size + 1,7,none⟩ = some (fnV 100) := by simp [go_sem]
  have t4 : ((w.alloc (.cells #[.int .i64 0,.nilFunc] 80)).alloc (.cells #[.int .i64 1,fnV 97,.int .i64 2,fnV 98,.int .i64 3,fnV 99,.int .i64 4,fnV 100,.int .i64 5,fnV 101] 80)).cell? ⟨w.heap.size + 1,8,none⟩ = some (.int .i64 5) := by simp [go_sem]
  have u4 : ((w.alloc (.cells #[.int .i64 0,.nilFunc] 80)).alloc (.cells #[.int .i64 1,fnV 97,.int .i64 2,fnV 98,.int .i64 3,fnV 99,.int .i64 4,fnV 100,.int .i64 5,fnV 101] 80)).cell? ⟨w.heap.size + 1,9,none⟩ = some (fnV 101) := by simp [go_sem]
  have b0 : ((w.alloc (.cells #[.int .i64 0,.nilFunc] 80)).alloc (.cells #[.int .i64 1,fnV 97,.int .i64 2,fnV 98,.int .i64 3,fnV 99,.int .i64 4,fnV 100,.int .i64 5,fnV 101] 80)).cell? ⟨w.heap.size,0,none⟩ = some (.int .i64 0) := by simp [go_sem]
  have b1 : ((w.alloc (.cells #[.int .i64 0,.nilFunc] 80)).alloc (.cells #[.int .i64 1,fnV 97,.int .i64 2,fnV 98,.int .i64 3,fnV 99,.int .i64 4,fnV 100,.int .i64 5,fnV 101] 80)).cell? ⟨w.heap.size,1,none⟩ = some .nilFunc := by simp [go_sem]
  have bf : ∀ o,((w.alloc (.cells #[.int .i64 0,.nilFunc] 80)).alloc (.cells #[.int .i64 1,fnV 97,.int .i64 2,fnV 98,.int .i64 3,fnV 99,.int .i64 4,fnV 100,.int .i64 5,fnV 101] 80)).frozen? ⟨w.heap.size,o,none⟩ = false := fun o => by simp [go_sem]
  obtain ⟨Wt,hWt⟩ : ∃ W,W = (w.alloc (.cells #[.int .i64 0,.nilFunc] 80)).alloc (.cells #[.int .i64 1,fnV 97,.int .i64 2,fnV 98,.int .i64 3,fnV 99,.int .i64 4,fnV 100,.int .i64 5,fnV 101] 80) := ⟨_,rfl⟩
  have hs : Wt.heap.size = w.heap.size + 1 + 1 := by rw [hWt]; simp
  rw [<- hWt] at hb0 b0 b1 bf t0 u0 t1 u1 t2 u2 t3 u3 t4 u4
  have HT := hide (And.intro t0 (And.intro u0 (And.intro t1 (And.intro u1 (And.intro t2 (And.intro u2 (And.intro t3 (And.intro u3 (And.intro t4 u4)))))))))
  have HBX := hide (And.intro b0 (And.intro b1 bf))
  have HB := hide hb0
  have HS := hide hs
  have HW := hide hWt
  clear hb0 b0 b1 bf hWt hs t0 u0 t1 u1 t2 u2 t3 u3 t4 u4
  go_enter Tryz.func24,Tryz.ntmps24
  go_wp2_with fail
  refine (layouts_any _).mono ?_
  rintro e w1 ⟨rfl,rfl⟩
  have hsz : (w.alloc (.cells #[.int .i64 0,.nilFunc] 80)).heap.size = w.heap.size + 1 := by simp
  rw [hsz,<- unhide HW]
  clear hsz
  go_wp2_with fail
  go_loopw [8] (fun i W => ∃ k : Nat,k < 5 /\ i = .int .i64 k /\ Hid (Below Wt.heap.size Wt W)) (fun i _ => 5 - (intOf i).toNat)
  case atStart => exact ⟨0,by omega,rfl,Below.refl _ _⟩
  case round =>
    obtain ⟨k,hk,rfl,hbel⟩ := hrel
    have hkk : k = 0 ∨ k = 1 ∨ k = 2 ∨ k = 3 ∨ k = 4 := by omega
    rcases hkk with rfl | rfl | rfl | rfl | rfl
    · have r0 := cell_kept (unhide hbel) (unhide HT).1
      have r1 := cell_kept (unhide hbel) (unhide HT).2.1
      have hL := hide ((unhide hbel).trans ((boxw (.cells #[.int .i64 1,fnV 97] 80)).mono (unhide hbel).size))
      unfold fnV at r1 hL
      go_wp2_with fail
      exact ⟨⟨1,by omega,by go_num,hL⟩,by simp [intOf]⟩
    · have r0 := cell_kept (unhide hbel) (unhide HT).2.2.1
      have r1 := cell_kept (unhide hbel) (unhide HT).2.2.2.1
      have hL := hide ((unhide hbel).trans ((boxw (.cells #[.int .i64 2,fnV 98] 80)).mono (unhide hbel).size))
      unfold fnV at r1 hL
      go_wp2_with fail
      exact ⟨⟨2,by omega,by go_num,hL⟩,by simp [intOf]⟩
    · have r0 := cell_kept (unhide hbel) (unhide HT).2.2.2.2.1
      have r1 := cell_kept (unhide hbel) (unhide HT).2.2.2.2.2.1
      have hL := hide ((unhide hbel).trans ((boxw (.cells #[.int .i64 3,fnV 99] 80)).mono (unhide hbel).size))
      unfold fnV at r1 hL
      go_wp2_with fail
      exact ⟨⟨3,by omega,by go_num,hL⟩,by simp [intOf]⟩
    · have r0 := cell_kept (unhide hbel) (unhide HT).2.2.2.2.2.2.1
      have r1 := cell_kept (unhide hbel) (unhide HT).2.2.2.2.2.2.2.1
      have hL := hide ((unhide hbel).trans ((boxw (.cells #[.int .i64 4,fnV 100] 80)).mono (unhide hbel).size))
      unfold fnV at r1 hL
      go_wp2_with fail
      exact ⟨⟨4,by omega,by go_num,hL⟩,by simp [intOf]⟩
    · have r0 := cell_kept (unhide hbel) (unhide HT).2.2.2.2.2.2.2.2.1
      have r1 := cell_kept (unhide hbel) (unhide HT).2.2.2.2.2.2.2.2.2
      have hL := hide ((unhide hbel).trans ((boxw (.cells #[.int .i64 5,fnV 101] 80)).mono (unhide hbel).size))
      unfold fnV at r1 hL
      have q0 := cell_kept (unhide hL) (unhide HBX).1
      have q1 := cell_kept (unhide hL) (unhide HBX).2.1
      have hsw := unhide HS
      have qf : ∀ o,(wr.alloc (.cells #[.int .i64 5,.func (.func 101) #[] #[]] 80)).frozen? ⟨w.heap.size,o,none⟩ = false := fun o => by rw [(unhide hL).frozen (p := ⟨w.heap.size,o,none⟩) (by show w.heap.size < _; omega)]; exact (unhide HBX).2.2 o
      clear hsw
      go_wp2_with fail
      refine bodyPost_ret (v := .tuple #[.agg #[.int .i64 5,fnV 101],.bool true]) (by simp [results,Tryz.results24,go_sem,q0,q1,fnV]) rfl ?_
      exact ⟨rfl,(((unhide HB).trans ((unhide hL).mono (unhide HB).size)).setCell (p := ⟨w.heap.size,0,none⟩) (Nat.le_refl _) _).setCell (p := ⟨w.heap.size,1,none⟩) (Nat.le_refl _) _⟩
end Go.Proofs.YtfpfdnapamdhjaaGreatDoor
