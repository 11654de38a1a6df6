/- Layer 9: Decode. -/
import Derived.Test.YtfpfdnapamdhjaaGreatDoorRdCGZ
import Derived.Test.YtfpfdnapamdhjaaGreatDoorO8RGZ
import Derived.Test.YtfpfdnapamdhjaaGreatDoorWrCGZ
namespace Go.Proofs.YtfpfdnapamdhjaaGreatDoor
open Go.RowKit Suf Val

/-- What Decode comes to. -/
def DecP {α : Type} (g : Except Int α) (V : World -> α -> Value -> Prop) (w : World) (e : Ending) (w' : World) : Prop := Below w.heap.size w w' /\ match g with
  | .error z => e = .returned (.tuple #[.nilIface,.int .i64 z])
  | .ok x => ∃ I,e = .returned (.tuple #[I,.int .i64 0]) /\ V w' x I
set_option maxRecDepth 100000 in
set_option maxHeartbeats 8000000 in
theorem dec_any {α : Type} (K : Kind α) (kind : Int) (F : Nat) (V : World -> α -> Value -> Prop) (w : World) (v : Value) (t : Txt) (hv : Lst byteK w v t)
    (hY : ∀ W,Calls Tryz.prog 24 #[.int .i64 kind] W fun e w' => e = .returned (.tuple #[.agg #[.int .i64 kind,fnV F],.bool true]) /\ Below W.heap.size W w')
    (hF : ∀ (W0 : World) (B : Nat) (t : Txt) (W : World),Rd W0 B t W -> Calls Tryz.prog F #[.pointer (some ⟨B,0,none⟩)] W (RdPost W0 B W V (K.c.r t))) (hI : ∀ W x v,V W x v -> ∃ T u,v = .iface T u) (hE : ∀ (args : Array Value) (W : World),(callFunc F args).run Tryz.prog W = .ok (.enter F args) W)
    (hC : ∀ W,Below w.heap.size w W -> ∀ x I,V W x I -> Calls Tryz.prog 15 #[I] W fun e w' => e = .returned (.int .i64 (K.chk x)) /\ Below W.heap.size W w')
    (hV : ∀ W W' x I,V W x I -> Below W.heap.size W W' -> V W' x I) :
    Calls Tryz.prog 11 #[.int .i64 kind,v] w (DecP (decK K t) V w) := by
  have hlen := hv.len
  obtain ⟨a,c,rfl⟩ := hv.val
  have HV := hide hv
  have HY := hide hY
  have HF := hide hF
  have HI := hide hI
  have HE := hide hE
  have HC := hide hC
  have HVb := hide hV
  clear hv hY hF hI hE hC hV
  go_enter Tryz.func11,Tryz.ntmps11
  go_wp2_with fail
  refine (unhide HY _).mono ?_
  rintro e w1 ⟨rfl,hb⟩
  have HB := hide (hb.trans ((boxw (.cells #[.int .i64 kind,.func (.func F) #[] #[]] 80)).mono hb.size))
  clear hb HY
  unfold fnV
  by_cases hl : 4096 < t.length
  · have hd : Hid (decK K t = .error 2) := by show _ = _; unfold decK; rw [if_pos hl]
    go_wp2_with fail
    go_ret2
    refine ⟨unhide HB,?_⟩
    rw [unhide hd]; rfl
  · have hd : Hid (decK K t = endK K (K.c.r t)) := by show _ = _; unfold decK; rw [if_neg hl]
    go_wp2_with fail
    have hw := whole_any K.c F kind V _ _ t ((unhide HV).below (unhide HB)) (unhide HF) (unhide HI) (unhide HE)
    refine hw.mono ?_
    rintro e w2 ⟨hb2,hp⟩
    have HB2 := hide ((unhide HB).trans (hb2.mono (unhide HB).size))
    clear hb2 hw HB
    rcases hr : K.c.r t with z | ⟨x,s⟩
    · rw [hr] at hp
      obtain rfl := hp
      have hz : ¬ z = 0 := by
        have := (K.c.bad [] hr).1
        omega
      have hd2 : Hid (decK K t = .error z) := by show _ = _; rw [unhide hd,hr]; rfl
      have hzb := bne_iff_ne.2 hz
      clear hz hr hd
      go_wp2_with fail
      go_ret2
      refine ⟨unhide HB2,?_⟩
      rw [unhide hd2]; rfl
    · rw [hr] at hp
      by_cases hs : s = []
      · have hp : ∃ I,e = .returned (.tuple #[I,.int .i64 0]) /\ V w2 x I := by
          have h : (if s = [] then ∃ I,e = .returned (.tuple #[I,.int .i64 0]) /\ V w2 x I else e = .returned (.tuple #[.nilIface,.int .i64 20])) := hp
          rwa [if_pos hs] at h
        obtain ⟨I,rfl,hVI⟩ := hp
        have hd2 : Hid (decK K t = if K.chk x = 0 then .ok x else .error (K.chk x)) := by
          show _ = _
          rw [unhide hd,hr]
          show (if s = [] then (if K.chk x = 0 then Except.ok x else .error (K.chk x)) else .error 20) = _
          rw [if_pos hs]
        obtain ⟨T,u,rfl⟩ := unhide HI _ _ _ hVI
        have HVI := hide hVI
        clear hVI hr hs hd hp HV HF HE
        obtain ⟨z,hz⟩ : ∃ z,z = K.chk x := ⟨_,rfl⟩
        have HC2 := hide (unhide HC w2 (unhide HB2) x _ (unhide HVI))
        rw [<- hz] at HC2 hd2
        clear hz
        go_wp2_with fail
        refine (unhide HC2).mono ?_
        rintro e w3 ⟨rfl,hb3⟩
        have HB3 := hide ((unhide HB2).trans (hb3.mono (unhide HB2).size))
        have HV3 := hide (unhide HVb _ _ _ _ (unhide HVI) hb3)
        clear hb3
        by_cases hz0 : z = 0
        · subst hz0
          go_wp2_with fail
          go_ret2
          refine ⟨unhide HB3,?_⟩
          rw [(unhide hd2).trans (if_pos (by trivial))]
          exact ⟨_,rfl,unhide HV3⟩
        · have hzb := bne_iff_ne.2 hz0
          have HZ := hide hz0
          clear hz0
          go_wp2_with fail
          go_ret2
          refine ⟨unhide HB3,?_⟩
          rw [(unhide hd2).trans (if_neg (unhide HZ))]
          rfl
      · have hp : e = .returned (.tuple #[.nilIface,.int .i64 20]) := by
          have h : (if s = [] then ∃ I,e = .returned (.tuple #[I,.int .i64 0]) /\ V w2 x I else e = .returned (.tuple #[.nilIface,.int .i64 20])) := hp
          rwa [if_neg hs] at h
        subst hp
        have hd2 : Hid (decK K t = .error 20) := by
          show _ = _
          rw [unhide hd,hr]
          show (if s = [] then (if K.chk x = 0 then Except.ok x else .error (K.chk x)) else .error 20) = _
          rw [if_neg hs]
        clear hr hs hd
        go_wp2_with fail
        go_ret2
        refine ⟨unhide HB2,?_⟩
        rw [unhide hd2]; rfl
end Go.Proofs.YtfpfdnapamdhjaaGreatDoor

/- Layer 9: any object written; Encode -/
namespace Go.Proofs.YtfpfdnapamdhjaaGreatDoor
open Go.RowKit Suf Val

section
variable {W0 w : World} {B : Nat} {xs : Txt} {cs : List (Addr × Value)}
set_option maxRecDepth 100000 in
set_option maxHeartbeats 16000000 in
theorem obj_pod (y : VPod) (u0 : Value) (hu0 : Lst reqK W0 u0 y.reqs) (u1 : Value) (hu1 : Lst tolK W0 u1 y.tols) (u2 : Value) (hu2 : Lst sprK W0 u2 y.spread) (u3 : Value) (hu3 : Lst trmK W0 u3 y.near) (u4 : Value) (hu4 : Lst trmK W0 u4 y.apart) (h : Wr W0 B xs cs w) (hl : Room (xs ++ podC.w y)) :
    Calls Tryz.prog 16 #[.pointer (some ⟨B,0,none⟩),.iface 29 (.agg #[.string (bytesT y.name),.string (bytesT y.app),.int .i64 y.need.1,.int .i64 y.need.2,.int .i64 y.prio,u0,u1,u2,u3,u4,.int .i64 y.since,.string (bytesT y.on)])] w fun e w' => e = .returned (.tuple #[]) /\ Wr W0 B (xs ++ podC.w y) cs w' := by
  obtain ⟨au0,cu0,rfl⟩ := hu0.val
  have HUu0 := hide hu0
  obtain ⟨au1,cu1,rfl⟩ := hu1.val
  have HUu1 := hide hu1
  obtain ⟨au2,cu2,rfl⟩ := hu2.val
  have HUu2 := hide hu2
  obtain ⟨au3,cu3,rfl⟩ := hu3.val
  have HUu3 := hide hu3
  obtain ⟨au4,cu4,rfl⟩ := hu4.val
  have HUu4 := hide hu4
  have H := hide (h.box [.string (bytesT y.name),.string (bytesT y.app),.int .i64 y.need.1,.int .i64 y.need.2,.int .i64 y.prio,.slice au0 y.reqs.length cu0,.slice au1 y.tols.length cu1,.slice au2 y.spread.length cu2,.slice au3 y.near.length cu3,.slice au4 y.apart.length cu4,.int .i64 y.since,.string (bytesT y.on)] 29)
  have HL := hide hl
  clear h hl hu0 hu1 hu2 hu3 hu4
  have hA0 := as_pod_yes
  go_enter Tryz.func16,Tryz.ntmps16
  go_wp2_with fail
  refine (pw_pod y _ (unhide HUu0) _ (unhide HUu1) _ (unhide HUu2) _ (unhide HUu3) _ (unhide HUu4) (unhide H) (unhide HL)).mono ?_
  rintro e w2 ⟨rfl,hw⟩
  have H2 := hide hw.drop
  clear hw H
  go_wp2_with fail
  go_end0
  exact ⟨rfl,unhide H2⟩
set_option maxRecDepth 100000 in
set_option maxHeartbeats 16000000 in
theorem obj_pol (y : VPool) (u0 : Value) (hu0 : Lst reqK W0 u0 y.reqs) (u1 : Value) (hu1 : Lst labK W0 u1 y.taints) (h : Wr W0 B xs cs w) (hl : Room (xs ++ polC.w y)) :
    Calls Tryz.prog 16 #[.pointer (some ⟨B,0,none⟩),.iface 32 (.agg #[.string (bytesT y.name),.int .i64 y.weight,.int .i64 y.limit.1,.int .i64 y.limit.2,u0,u1,.int .i64 y.gen,.int .i64 y.expire,.int .i64 y.budget,.int .i64 y.merge])] w fun e w' => e = .returned (.tuple #[]) /\ Wr W0 B (xs ++ polC.w y) cs w' := by
  obtain ⟨au0,cu0,rfl⟩ := hu0.val
  have HUu0 := hide hu0
  obtain ⟨au1,cu1,rfl⟩ := hu1.val
  have HUu1 := hide hu1
  have H := hide (h.box [.string (bytesT y.name),.int .i64 y.weight,.int .i64 y.limit.1,.int .i64 y.limit.2,.slice au0 y.reqs.length cu0,.slice au1 y.taints.length cu1,.int .i64 y.gen,.int .i64 y.expire,.int .i64 y.budget,.int .i64 y.merge] 32)
  have HL := hide hl
  clear h hl hu0 hu1
  have hA0 := as_pod_pol
  have hA1 := as_pol_yes
  go_enter Tryz.func16,Tryz.ntmps16
  go_wp2_with fail
  refine (pw_pol y _ (unhide HUu0) _ (unhide HUu1) (unhide H) (unhide HL)).mono ?_
  rintro e w2 ⟨rfl,hw⟩
  have H2 := hide hw.drop
  clear hw H
  go_wp2_with fail
  go_end0
  exact ⟨rfl,unhide H2⟩
set_option maxRecDepth 100000 in
set_option maxHeartbeats 16000000 in
theorem obj_clm (y : VClaim) (u0 : Value) (hu0 : Lst offK W0 u0 y.opts) (h : Wr W0 B xs cs w) (hl : Room (xs ++ clmC.w y)) :
    Calls Tryz.prog 16 #[.pointer (some ⟨B,0,none⟩),.iface 37 (.agg #[.string (bytesT y.name),.string (bytesT y.pool),.int .i64 y.gen,.string (bytesT y.offer.1),.string (bytesT y.offer.2.1),.string (bytesT y.offer.2.2),.int .i64 y.price,.int .i64 y.cap.1,.int .i64 y.cap.2,u0,.int .i64 y.tryN,.string (bytesT y.id),.int .i64 y.phase,.int .i64 y.born,.bool y.marked])] w fun e w' => e = .returned (.tuple #[]) /\ Wr W0 B (xs ++ clmC.w y) cs w' := by
  obtain ⟨au0,cu0,rfl⟩ := hu0.val
  have HUu0 := hide hu0
  have H := hide (h.box [.string (bytesT y.name),.string (bytesT y.pool),.int .i64 y.gen,.string (bytesT y.offer.1),.string (bytesT y.offer.2.1),.string (bytesT y.offer.2.2),.int .i64 y.price,.int .i64 y.cap.1,.int .i64 y.cap.2,.slice au0 y.opts.length cu0,.int .i64 y.tryN,.string (bytesT y.id),.int .i64 y.phase,.int .i64 y.born,.bool y.marked] 37)
  have HL := hide hl
  clear h hl hu0
  have hA0 := as_pod_clm
  have hA1 := as_pol_clm
  have hA2 := as_clm_yes
  go_enter Tryz.func16,Tryz.ntmps16
  go_wp2_with fail
  refine (pw_clm y _ (unhide HUu0) (unhide H) (unhide HL)).mono ?_
  rintro e w2 ⟨rfl,hw⟩
  have H2 := hide hw.drop
  clear hw H
  go_wp2_with fail
  go_end0
  exact ⟨rfl,unhide H2⟩
set_option maxRecDepth 100000 in
set_option maxHeartbeats 16000000 in
theorem obj_cmd (y : VCmd) (u0 : Value) (hu0 : Lst strK W0 u0 y.nodes) (u1 : Value) (hu1 : Lst offK W0 u1 y.opts) (h : Wr W0 B xs cs w) (hl : Room (xs ++ cmdC.w y)) :
    Calls Tryz.prog 16 #[.pointer (some ⟨B,0,none⟩),.iface 40 (.agg #[.int .i64 y.cause,u0,.int .i64 y.step,.int .i64 y.til,.string (bytesT y.fresh),.string (bytesT y.pool),u1,.bool y.made])] w fun e w' => e = .returned (.tuple #[]) /\ Wr W0 B (xs ++ cmdC.w y) cs w' := by
  obtain ⟨au0,cu0,rfl⟩ := hu0.val
  have HUu0 := hide hu0
  obtain ⟨au1,cu1,rfl⟩ := hu1.val
  have HUu1 := hide hu1
  have H := hide (h.box [.int .i64 y.cause,.slice au0 y.nodes.length cu0,.int .i64 y.step,.int .i64 y.til,.string (bytesT y.fresh),.string (bytesT y.pool),.slice au1 y.opts.length cu1,.bool y.made] 40)
  have HL := hide hl
  clear h hl hu0 hu1
  have hA0 := as_pod_cmd
  have hA1 := as_pol_cmd
  have hA2 := as_clm_cmd
  have hA3 := as_cmd_yes
  go_enter Tryz.func16,Tryz.ntmps16
  go_wp2_with fail
  refine (pw_cmd y _ (unhide HUu0) _ (unhide HUu1) (unhide H) (unhide HL)).mono ?_
  rintro e w2 ⟨rfl,hw⟩
  have H2 := hide hw.drop
  clear hw H
  go_wp2_with fail
  go_end0
  exact ⟨rfl,unhide H2⟩
set_option maxRecDepth 100000 in
set_option maxHeartbeats 16000000 in
theorem obj_cool (y : VCool) (h : Wr W0 B xs cs w) (hl : Room (xs ++ coolC.w y)) :
    Calls Tryz.prog 16 #[.pointer (some ⟨B,0,none⟩),.iface 42 (.agg #[.string (bytesT y.1.1),.string (bytesT y.1.2.1),.string (bytesT y.1.2.2),.int .i64 y.2])] w fun e w' => e = .returned (.tuple #[]) /\ Wr W0 B (xs ++ coolC.w y) cs w' := by
  have H := hide (h.box [.string (bytesT y.1.1),.string (bytesT y.1.2.1),.string (bytesT y.1.2.2),.int .i64 y.2] 42)
  have HL := hide hl
  clear h hl
  have hA0 := as_pod_cool
  have hA1 := as_pol_cool
  have hA2 := as_clm_cool
  have hA3 := as_cmd_cool
  have hA4 := as_cool_yes
  go_enter Tryz.func16,Tryz.ntmps16
  go_wp2_with fail
  refine (pw_cool y (unhide H) (unhide HL)).mono ?_
  rintro e w2 ⟨rfl,hw⟩
  have H2 := hide hw.drop
  clear hw H
  go_wp2_with fail
  go_end0
  exact ⟨rfl,unhide H2⟩
end
/-- What Encode comes to: the bytes,in a row of the call's own; or the error. -/
def EncP {α : Type} (K : Kind α) (x : α) (w : World) (e : Ending) (w' : World) : Prop := Below w.heap.size w w' /\ ((K.chk x = 0 /\ ∃ a n c,e = .returned (.tuple #[.slice a n c,.int .i64 0]) /\ n = (K.c.w x).length /\ w'.ownsRow w.heap.size 5 1 (.slice a n c) n (u8s (K.c.w x))) ∨ (¬ K.chk x = 0 /\ e = .returned (.tuple #[.slice none 0 0,.int .i64 (K.chk x)])))
set_option maxRecDepth 100000 in
set_option maxHeartbeats 8000000 in
theorem enc_any {α : Type} (K : Kind α) (I : Value) (x : α) (w : World) (hC : Calls Tryz.prog 15 #[I] w fun e w' => e = .returned (.int .i64 (K.chk x)) /\ Below w.heap.size w w')
    (hW : ∀ W0 B xs cs W,Below w.heap.size w W0 -> Wr W0 B xs cs W -> Room (xs ++ K.c.w x) -> Calls Tryz.prog 16 #[.pointer (some ⟨B,0,none⟩),I] W fun e w' => e = .returned (.tuple #[]) /\ Wr W0 B (xs ++ K.c.w x) cs w') :
    Calls Tryz.prog 8 #[I] w (EncP K x w) := by
  have HC := hide hC
  have HW := hide hW
  have hroom : K.chk x = 0 -> Room ([] ++ K.c.w x) := fun h => by
    have := (K.small x h).2
    rw [List.nil_append]; unfold Room; omega
  have HR := hide hroom
  clear hC hW hroom
  go_enter Tryz.func8,Tryz.ntmps8
  go_wp2_with fail
  refine (unhide HC).mono ?_
  rintro e w1 ⟨rfl,hb⟩
  have HB := hide hb
  clear hb HC
  by_cases hz : K.chk x = 0
  · have HZ := hide hz
    rw [hz]
    clear hz
    go_wp2_with fail
    have hn := wr_new w1 66
    have hn2 := hide hn
    refine (unhide HW w1 w1.heap.size [] [] _ (unhide HB) hn (unhide HR (unhide HZ))).mono ?_
    rintro e w2 ⟨rfl,hw⟩
    obtain ⟨v,hv,ho,_⟩ := hw.row
    obtain ⟨a,n,c,rfl⟩ := owns_form ho
    have hb2 := hide ((unhide HB).trans (hw.gr.mono (unhide HB).size))
    have HO := hide ho
    clear ho hw hn
    go_wp2_with fail
    go_ret2
    refine ⟨unhide hb2,.inl ⟨unhide HZ,a,n,c,rfl,?_⟩⟩
    have h0 := unhide HO
    rw [List.nil_append] at h0
    have hn3 : n = (K.c.w x).length := by
      rcases h0.2 with ⟨e,h1⟩ | ⟨_,_,_,e,_⟩
      · injection e with e1 e2 e3; omega
      · injection e with e1 e2 e3
    refine ⟨hn3,?_⟩
    rw [<- hn3] at h0
    refine ⟨h0.1,h0.2.imp id ?_⟩
    rintro ⟨g,cap,cur,e,hg,rest⟩
    exact ⟨g,cap,cur,e,Nat.le_trans (unhide HB).size hg,rest⟩
  · have HZ := hide hz
    obtain ⟨z,hzz⟩ : ∃ z,z = K.chk x := ⟨_,rfl⟩
    have HZZ := hide hzz
    rw [<- hzz] at hz ⊢
    clear hzz
    have hb := bne_iff_ne.2 hz
    clear hz
    go_wp2_with fail
    go_ret2
    refine ⟨unhide HB,.inr ⟨unhide HZ,?_⟩⟩
    rw [<- unhide HZZ]
    rfl
end Go.Proofs.YtfpfdnapamdhjaaGreatDoor

/- Layer 9: Encode and Decode,kind by kind. -/
namespace Go.Proofs.YtfpfdnapamdhjaaGreatDoor
open Go.RowKit Suf Val

/-- Objects in memory,with all that writing and judging ask. -/
structure PodM (w : World) (p : VPod) (u1 u2 u3 u4 u5 : Value) : Prop where
  i : PodIn w p u1 u2 u3 u4 u5
  r : Lst reqK w u1 p.reqs
  t : Lst tolK w u2 p.tols
structure PolM (w : World) (p : VPool) (u1 u2 : Value) : Prop where
  i : PolIn w p u1 u2
  r : Lst reqK w u1 p.reqs
  t : Lst labK w u2 p.taints
theorem PodM.below {w w' : World} {p : VPod} {u1 u2 u3 u4 u5 : Value} (h : PodM w p u1 u2 u3 u4 u5) (hb : Below w.heap.size w w') : PodM w' p u1 u2 u3 u4 u5 := ⟨h.i.below hb,h.r.below hb,h.t.below hb⟩
theorem PolM.below {w w' : World} {p : VPool} {u1 u2 : Value} (h : PolM w p u1 u2) (hb : Below w.heap.size w w') : PolM w' p u1 u2 := ⟨h.i.below hb,h.r.below hb,h.t.below hb⟩
theorem enc_pod (p : VPod) (u1 u2 u3 u4 u5 : Value) (w : World) (hL : Laid w) (h : PodM w p u1 u2 u3 u4 u5) : Calls Tryz.prog 8 #[.iface 29 (podA p u1 u2 u3 u4 u5)] w (EncP podJ p w) :=
  enc_any podJ _ p w (chk8_of _ _ _ w (told_pod p u1 u2 u3 u4 u5 w hL h.i)) fun _ _ _ _ _ hb hw hr => by
    have h' := h.below hb
    exact obj_pod p u1 h'.r u2 h'.t u3 h'.i.sp u4 h'.i.nr u5 h'.i.ap hw hr
theorem enc_pol (p : VPool) (u1 u2 : Value) (w : World) (hL : Laid w) (h : PolM w p u1 u2) : Calls Tryz.prog 8 #[.iface 32 (polA p u1 u2)] w (EncP polJ p w) :=
  enc_any polJ _ p w (chk8_of _ _ _ w (told_pool p u1 u2 w hL h.i)) fun _ _ _ _ _ hb hw hr => by
    have h' := h.below hb
    exact obj_pol p u1 h'.r u2 h'.t hw hr
theorem enc_clm (p : VClaim) (u : Value) (w : World) (h : ClmIn w p u) : Calls Tryz.prog 8 #[.iface 37 (clmA p u)] w (EncP clmJ p w) :=
  enc_any clmJ _ p w (chk8_of _ _ _ w (told_claim p u w h)) fun _ _ _ _ _ hb hw hr => by
    have h' := h.below hb
    exact obj_clm p u h'.ops hw hr
theorem enc_cmd (p : VCmd) (u1 u2 : Value) (w : World) (h : CmdIn w p u1 u2) : Calls Tryz.prog 8 #[.iface 40 (cmdA p u1 u2)] w (EncP cmdJ p w) :=
  enc_any cmdJ _ p w (chk8_of _ _ _ w (told_cmd p u1 u2 w h)) fun _ _ _ _ _ hb hw hr => by
    have h' := h.below hb
    exact obj_cmd p u1 h'.nd u2 h'.ops hw hr
theorem enc_cool (p : VCool) (w : World) (h : okO p.1) : Calls Tryz.prog 8 #[.iface 42 (.agg #[.string (bytesT p.1.1),.string (bytesT p.1.2.1),.string (bytesT p.1.2.2),.int .i64 p.2])] w (EncP coolJ p w) :=
  enc_any coolJ _ p w (chk8_of _ _ _ w (told_cool p w h)) fun _ _ _ _ _ _ hw hr => obj_cool p hw hr
theorem dec_cool (v : Value) (t : Txt) (w : World) (hv : Lst byteK w v t) : Calls Tryz.prog 11 #[.int .i64 5,v] w (DecP (decK coolJ t) VCoolI w) :=
  dec_any coolJ 5 101 VCoolI w v t hv (fun W => layout_5 W) (fun _ _ _ _ h => r_cool h) (fun _ _ _ h => ⟨_,_,h.1⟩) (enters_of Tryz.func101 (by kernel_rfl) rfl)
    (fun W _ x _ h => by obtain ⟨rfl,ho⟩ := h; exact chk8_of _ _ _ W (told_cool x W ho))
    (fun _ _ _ _ h _ => h)
set_option maxRecDepth 100000 in
set_option maxHeartbeats 8000000 in
theorem dec_none (kind : Int) (hk : ¬ kind = 1 /\ ¬ kind = 2 /\ ¬ kind = 3 /\ ¬ kind = 4 /\ ¬ kind = 5) (a : Option Addr) (n c : Nat) (w : World) : Calls Tryz.prog 11 #[.int .i64 kind,.slice a n c] w fun e w' => e = .returned (.tuple #[.nilIface,.int .i64 1]) /\ Below w.heap.size w w' := by
  have HK := hide (layout_0 kind hk w)
  clear hk
  go_enter Tryz.func11,Tryz.ntmps11
  go_wp2_with fail
  refine (unhide HK).mono ?_
  rintro e w1 ⟨rfl,hb⟩
  have HB := hide (hb.trans ((boxw (.cells #[.int .i64 0,.nilFunc] 80)).mono hb.size))
  clear hb HK
  go_wp2_with fail
  go_ret2
  exact ⟨rfl,unhide HB⟩
end Go.Proofs.YtfpfdnapamdhjaaGreatDoor

/- Layer 9: the chapter's examples hold (the laws' live). -/
namespace Go.Proofs.YtfpfdnapamdhjaaGreatDoor
open Go.RowKit Suf Val

/-- A row of bytes of the call's own,as a list. -/
theorem own_lst {w : World} {base : Nat} {v : Value} {n : Nat} {t : Txt} (h : w.ownsRow base 5 1 v n (u8s t)) (hl : t.length <= 1048576) : Lst byteK w v t := by
  have hn : n = t.length := by
    have := h.1
    rw [u8s_len] at this
    omega
  refine rows_lst (K := byteK) h ?_ hn (by omega)
  refine ⟨t.map fun c => [.int .u8 (c.toNat : Int)],?_,by rw [List.length_map],fun j h1 h2 => ?_⟩
  · unfold u8s
    clear h hn hl
    induction t with
    | nil => rfl
    | cons c t ih => rw [List.map_cons,List.map_cons,List.flatten_cons,ih]; rfl
  · rw [List.getElem_map]; rfl
def lvX : VCool := (([115],[97],[115,112,111,116]),5)
def lvB : Txt := [1,115,1,97,4,115,112,111,116,5,0,0,0,0,0,0,0]
theorem lv_chk : coolJ.chk lvX = 0 := by decide +kernel
theorem lv_w : coolJ.c.w lvX = lvB := by decide +kernel
theorem lv_dec : decK coolJ lvB = .ok lvX := by rw [<- lv_w]; exact dec_enc coolJ lv_chk
theorem lv_cut : decK coolJ (lvB.take 16) = .error 90 := by
  have := dec_cut coolJ lv_chk
  rw [lv_w] at this
  exact this
theorem lv_more : decK coolJ (lvB ++ [0]) = .error 20 := by
  obtain ⟨h1,_⟩ := coolJ.small lvX lv_chk
  have hb := coolJ.c.back [0] h1
  rw [lv_w] at hb
  unfold decK
  rw [if_neg (by decide),hb]
  rfl
theorem lv_same : ∀ W : World,(binOp .neq 20 (.iface 42 (.agg #[.string (bytesT lvX.1.1),.string (bytesT lvX.1.2.1),.string (bytesT lvX.1.2.2),.int .i64 lvX.2])) (.iface 42 (.agg #[.string ⟨#[115]⟩,.string ⟨#[97]⟩,.string ⟨#[115,112,111,116]⟩,.int .i64 5]))).run Tryz.prog W = .ok (.bool false) W := fun W => by kernel_rfl
theorem lv_text : (bytesT lvB).toList = [1,115,1,97,4,115,112,111,116,5,0,0,0,0,0,0,0] := by decide +kernel
/-- One byte appended to a row of the call's own. -/
theorem byte_more {w : World} {base : Nat} {v : Value} {n : Nat} {t : Txt} (hown : w.ownsRow base 5 1 v n (u8s t)) (hbase : base <= w.heap.size) {c : Int} {b : UInt8} (hc : c = (b.toNat : Int)) (hl : t.length <= 5000) {ops : Array Oper} {rest : List Oper} {o : Oper} {a : Act} {Q : Exit -> Act -> World -> Prop} (hgd : o.guard = none) (s x : Operand)
    (ho : o.op = .call { callee := .builtin .append,args := #[s,x],argTypes := #[46,46] }) (hs : a.eval s = v) (hx : a.eval x = .slice (some ⟨w.heap.size,0,none⟩) 1 1)
    (k : ∀ a' n' c' w2,Hid (Lst byteK w2 (.slice a' n' c') (t ++ [b])) -> Hid (w2.ownsRow base 5 1 (.slice a' n' c') n' (u8s (t ++ [b]))) -> Hid (∀ N W0,N <= base -> Below N W0 w -> Below N W0 w2) -> wpList Tryz.prog ops Q rest (a.put o.dst (.slice a' n' c')) w2) : wpList Tryz.prog ops Q (o :: rest) a (w.alloc (.cells #[.int .u8 c] 5)) := by
  have hn : n = t.length := by
    have := hown.1
    rw [u8s_len] at this
    omega
  obtain ⟨v',w',hr,h4,h5,_⟩ := run_byte (hown.alloc (.cells #[.int .u8 c] 5)) (Nat.le_trans hbase (by simp)) o.type (g := w.heap.size) (u := .int .u8 c) (by simp [go_sem]) rfl (by omega)
  rw [byte_val hc,<- u8s_app] at h4
  obtain ⟨a',n',c',rfl⟩ := owns_form h4
  have hn' : n' = n + 1 := by
    rcases h4.2 with ⟨e,h1⟩ | ⟨_,_,_,e,_⟩
    · omega
    · injection e
  subst hn'
  refine wpList_plain hgd fun K hK => ?_
  unfold Oper.wp execOp
  simp only [ho,resolve,invoke,builtin,Sem.run_bind,Sem.run_pure,Result.andThen_ok,List.map_toArray,List.map_cons,List.map_nil,hs,hx,hr]
  refine hK _ _ (k a' _ c' w' (hide (own_lst h4 (by rw [List.length_append,List.length_singleton]; omega))) (hide h4) (hide fun N W0 hN hb => ?_))
  have hb2 : Below N W0 (w.alloc (.cells #[.int .u8 c] 5)) := hb.trans ((boxw _).mono (Nat.le_trans hN hbase))
  exact hb2.grown h5 (Nat.le_trans hN (Nat.le_trans hbase (by simp))) fun k hk => Nat.le_trans hN (hown.lt k hk).1
set_option maxRecDepth 100000 in
set_option maxHeartbeats 16000000 in
theorem live9_any (w : World) : Calls Tryz.prog 7 #[] w fun e w' => e = .returned (.bool true) /\ Below w.heap.size w w' := by
  have hq := lv_text
  have hsame := lv_same
  have HE : ∀ W,Calls Tryz.prog 8 #[.iface 42 (.agg #[.string ⟨#[115]⟩,.string ⟨#[97]⟩,.string ⟨#[115,112,111,116]⟩,.int .i64 5])] W (EncP coolJ lvX W) := fun W => enc_cool lvX W ⟨by unfold short; decide,by unfold short; decide,by unfold short; decide⟩
  replace HE := hide HE
  have B0 := hide (boxw (w := w) (.cells #[.string ⟨#[115]⟩,.string ⟨#[97]⟩,.string ⟨#[115,112,111,116]⟩,.int .i64 5] 42))
  go_enter Tryz.func7,Tryz.ntmps7
  go_wp2_with fail
  refine (unhide HE _).mono ?_
  rintro e w1 ⟨hb,hp⟩
  rcases hp with ⟨_,a,n,c,rfl,hn,ho⟩ | ⟨hno,_⟩
  · rw [lv_w] at hn ho
    have h17 : n = 17 := hn.trans (by decide)
    clear hn
    subst h17
    have x0 := cell_kept hb (p := ⟨w.heap.size,0,none⟩) (v := .string ⟨#[115]⟩) (by simp [go_sem])
    have x1 := cell_kept hb (p := ⟨w.heap.size,1,none⟩) (v := .string ⟨#[97]⟩) (by simp [go_sem])
    have x2 := cell_kept hb (p := ⟨w.heap.size,2,none⟩) (v := .string ⟨#[115,112,111,116]⟩) (by simp [go_sem])
    have x3 := cell_kept hb (p := ⟨w.heap.size,3,none⟩) (v := .int .i64 5) (by simp [go_sem])
    have HX := hide (And.intro x0 (And.intro x1 (And.intro x2 x3)))
    have B1 := hide ((unhide B0).trans (hb.mono (unhide B0).size))
    have S1 := hide hb.size
    have HO := hide ho
    have HL := hide (own_lst ho (by decide))
    clear hb ho x0 x1 x2 x3 HE B0
    go_wp2_with fail
    refine (dec_cool _ lvB w1 (unhide HL)).mono ?_
    rintro e w2 ⟨hb,hp⟩
    rw [lv_dec] at hp
    obtain ⟨I,rfl,rfl,_⟩ := hp
    have HL2 := hide ((unhide HL).below hb)
    have S2 := hide (Nat.le_trans (unhide S1) hb.size)
    have hcv := conv_lst (unhide HL) hb
    have x0 := cell_kept hb (unhide HX).1
    have x1 := cell_kept hb (unhide HX).2.1
    have x2 := cell_kept hb (unhide HX).2.2.1
    have x3 := cell_kept hb (unhide HX).2.2.2
    have B2 := hide ((unhide B1).trans (hb.mono (unhide B1).size))
    have HO2 := hide (grow_below (unhide HO) hb)
    have hc17 : 17 <= c := (unhide HL).cap.2
    clear hb HL HX B1 HO
    go_wp2_with fail
    have HC := hide ((unhide HL2).take (k := 16) (by decide))
    refine (dec_cool _ (lvB.take 16) w2 (unhide HC)).mono ?_
    rintro e w3 ⟨hb,hp⟩
    rw [lv_cut] at hp
    obtain rfl := hp
    have HO3 := hide (grow_below (unhide HO2) hb)
    have S3 := hide (Nat.le_trans (unhide S2) hb.size)
    have B3 := hide ((unhide B2).trans (hb.mono (unhide B2).size))
    clear hb x0 x1 x2 x3 hcv HC
    go_wp2_with (at_builtin; refine byte_more (unhide HO3) (unhide S3) (b := 0) (by rfl) (by decide) (by rfl) _ _ (by rfl) (by rfl) (by rfl) ?_; intro a' n' c' w4 hL hO hB; go_frame)
    have B4 := hide (unhide hB w.heap.size w (by simp) (unhide B3))
    refine (dec_cool _ _ w4 (unhide hL)).mono ?_
    rintro e w5 ⟨hb,hp⟩
    rw [lv_more] at hp
    obtain rfl := hp
    have B5 := hide ((unhide B4).trans (hb.mono (unhide B4).size))
    clear hb hL hO hB B4 HO3 S3
    go_wp2_with fail
    refine (dec_none 6 (by decide) none 0 0 w5).mono ?_
    rintro e w6 ⟨rfl,hb⟩
    have B6 := hide ((unhide B5).trans (hb.mono (unhide B5).size))
    clear hb
    go_wp2_with fail
    go_ret
    exact ⟨rfl,unhide B6⟩
  · exact absurd lv_chk hno
end Go.Proofs.YtfpfdnapamdhjaaGreatDoor
