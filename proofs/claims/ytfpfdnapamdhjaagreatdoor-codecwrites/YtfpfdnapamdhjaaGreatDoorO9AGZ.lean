/- Layer 9: the parts of an object of any kind,as one value -/
import Derived.Test.YtfpfdnapamdhjaaGreatDoorO8UGZ
import Derived.Test.YtfpfdnapamdhjaaGreatDoorDcAGZ
import Derived.SizedLaws
import Derived.Test.YtfpfdnapamdhjaaGreatDoorO8YGZ
import Derived.Test.YtfpfdnapamdhjaaGreatDoorO8NGZ
import Derived.Test.YtfpfdnapamdhjaaGreatDoorWrDGZ
namespace Go.Proofs.YtfpfdnapamdhjaaGreatDoor
open Go.RowKit Suf Val
def anyA (x : VAny) (u1 u2 u3 u4 u5 p1 p2 c1 d1 d2 : Value) : Value := .agg #[.int .i64 x.kind,.string (bytesT x.pod.name),.string (bytesT x.pod.app),.int .i64 x.pod.need.1,.int .i64 x.pod.need.2,.int .i64 x.pod.prio,u1,u2,u3,u4,u5,.int .i64 x.pod.since,.string (bytesT x.pod.on),.string (bytesT x.pool.name),.int .i64 x.pool.weight,.int .i64 x.pool.limit.1,.int .i64 x.pool.limit.2,p1,p2,.int .i64 x.pool.gen,.int .i64 x.pool.expire,.int .i64 x.pool.budget,.int .i64 x.pool.merge,.string (bytesT x.claim.name),.string (bytesT x.claim.pool),.int .i64 x.claim.gen,.string (bytesT x.claim.offer.1),.string (bytesT x.claim.offer.2.1),.string (bytesT x.claim.offer.2.2),.int .i64 x.claim.price,.int .i64 x.claim.cap.1,.int .i64 x.claim.cap.2,c1,.int .i64 x.claim.tryN,.string (bytesT x.claim.id),.int .i64 x.claim.phase,.int .i64 x.claim.born,.bool x.claim.marked,.int .i64 x.cmd.cause,d1,.int .i64 x.cmd.step,.int .i64 x.cmd.til,.string (bytesT x.cmd.fresh),.string (bytesT x.cmd.pool),d2,.bool x.cmd.made,.string (bytesT x.cool.1.1),.string (bytesT x.cool.1.2.1),.string (bytesT x.cool.1.2.2),.int .i64 x.cool.2]
end Go.Proofs.YtfpfdnapamdhjaaGreatDoor

/- Layer 9: an object of any kind: Of,Encode,the document's Encode -/
namespace Go.Proofs.YtfpfdnapamdhjaaGreatDoor
open Go.RowKit Suf Val

def zA (x : VAny) : Int := if x.kind = 1 then podR x.pod else if x.kind = 2 then poolR x.pool else if x.kind = 3 then claimR x.claim else if x.kind = 4 then cmdR x.cmd else if x.kind = 5 then coolR [x.cool] else 1
def tA (x : VAny) : Txt := if x.kind = 1 then podC.w x.pod else if x.kind = 2 then polC.w x.pool else if x.kind = 3 then clmC.w x.claim else if x.kind = 4 then cmdC.w x.cmd else if x.kind = 5 then coolC.w x.cool else []
theorem room_of {T : Txt} (h : T.length <= 4096) : Room ([] ++ T) := by
  rw [List.nil_append]; unfold Room; omega
set_option maxRecDepth 100000 in
set_option maxHeartbeats 8000000 in
theorem enc_err (I : Value) (z : Int) (T : Txt) (w : World) (hz : ¬ z = 0) (hC : Calls Tryz.prog 15 #[I] w fun e w' => e = .returned (.int .i64 z) /\ Below w.heap.size w w') :
    Calls Tryz.prog 8 #[I] w (EncQ z T w) := by
  have HC := hide hC
  have HZ := hide hz
  have hb0 := bne_iff_ne.2 hz
  clear hC hz
  go_enter Tryz.func8,Tryz.ntmps8
  go_wp2_with fail
  refine (unhide HC).mono ?_
  rintro e w1 ⟨rfl,hb⟩
  have HB := hide hb
  clear hb HC
  go_wp2_with fail
  go_ret2
  exact ⟨unhide HB,.inr ⟨unhide HZ,rfl⟩⟩
/-- An object of any kind in memory,with all that writing and judging ask. -/
structure AnyM (w : World) (x : VAny) (u1 u2 u3 u4 u5 p1 p2 c1 d1 d2 : Value) : Prop where
  h1 : PodM w x.pod u1 u2 u3 u4 u5
  h2 : PolM w x.pool p1 p2
  h3 : ClmIn w x.claim c1
  h4 : CmdIn w x.cmd d1 d2
  h5 : okO x.cool.1
theorem AnyM.below {w w' : World} {x : VAny} {u1 u2 u3 u4 u5 p1 p2 c1 d1 d2 : Value} (h : AnyM w x u1 u2 u3 u4 u5 p1 p2 c1 d1 d2) (hb : Below w.heap.size w w') : AnyM w' x u1 u2 u3 u4 u5 p1 p2 c1 d1 d2 := ⟨h.h1.below hb,h.h2.below hb,h.h3.below hb,h.h4.below hb,h.h5⟩
set_option maxRecDepth 100000 in
set_option maxHeartbeats 16000000 in
theorem renc_any (x : VAny) (u1 u2 u3 u4 u5 p1 p2 c1 d1 d2 : Value) (w : World) (h : AnyM w x u1 u2 u3 u4 u5 p1 p2 c1 d1 d2) :
    Calls Tryz.prog 10 #[anyA x u1 u2 u3 u4 u5 p1 p2 c1 d1 d2] w (EncQ (zA x) (tA x) w) := by
  unfold anyA
  by_cases k1 : x.kind = 1
  · have ez : zA x = podR x.pod := by unfold zA; rw [if_pos k1]
    have et : tA x = podC.w x.pod := by unfold tA; rw [if_pos k1]
    rw [ez,et,k1]
    exact renc_1 _ _ _ _ _ _ _ _ _ _ _ _ _ _ _ _ _ _ _ _ _ _ _ _ _ _ _ _ _ _ _ _ _ _ _ _ _ _ _ _ _ _ _ _ _ _ _ _ _ (podR x.pod) (podC.w x.pod) w (fun V1 hb1 => rck_1 _ _ _ _ _ _ _ _ _ _ _ _ _ _ _ _ _ _ _ _ _ _ _ _ _ _ _ _ _ _ _ _ _ _ _ _ _ _ _ _ _ _ _ _ _ _ _ _ _ (podR x.pod) V1 (fun V2 hb2 => rpod_any x.pod u1 u2 u3 u4 u5 V2 (h.h1.i.below (chain hb1 hb2)))) (fun W0 B xs cs W hb1 hw hr => let g := h.h1.below hb1; dw_pod x.pod u1 g.r u2 g.t u3 g.i.sp u4 g.i.nr u5 g.i.ap hw hr) (fun hz => room_of (pod_small x.pod hz).2)
  by_cases k2 : x.kind = 2
  · have ez : zA x = poolR x.pool := by unfold zA; rw [if_neg k1,if_pos k2]
    have et : tA x = polC.w x.pool := by unfold tA; rw [if_neg k1,if_pos k2]
    rw [ez,et,k2]
    exact renc_2 _ _ _ _ _ _ _ _ _ _ _ _ _ _ _ _ _ _ _ _ _ _ _ _ _ _ _ _ _ _ _ _ _ _ _ _ _ _ _ _ _ _ _ _ _ _ _ _ _ (poolR x.pool) (polC.w x.pool) w (fun V1 hb1 => rck_2 _ _ _ _ _ _ _ _ _ _ _ _ _ _ _ _ _ _ _ _ _ _ _ _ _ _ _ _ _ _ _ _ _ _ _ _ _ _ _ _ _ _ _ _ _ _ _ _ _ (poolR x.pool) V1 (fun V2 hb2 => rpool_any x.pool p1 p2 V2 (h.h2.i.below (chain hb1 hb2)))) (fun W0 B xs cs W hb1 hw hr => let g := h.h2.below hb1; dw_pol x.pool p1 g.r p2 g.t hw hr) (fun hz => room_of (pol_small x.pool hz).2)
  by_cases k3 : x.kind = 3
  · have ez : zA x = claimR x.claim := by unfold zA; rw [if_neg k1,if_neg k2,if_pos k3]
    have et : tA x = clmC.w x.claim := by unfold tA; rw [if_neg k1,if_neg k2,if_pos k3]
    rw [ez,et,k3]
    exact renc_3 _ _ _ _ _ _ _ _ _ _ _ _ _ _ _ _ _ _ _ _ _ _ _ _ _ _ _ _ _ _ _ _ _ _ _ _ _ _ _ _ _ _ _ _ _ _ _ _ _ (claimR x.claim) (clmC.w x.claim) w (fun V1 hb1 => rck_3 _ _ _ _ _ _ _ _ _ _ _ _ _ _ _ _ _ _ _ _ _ _ _ _ _ _ _ _ _ _ _ _ _ _ _ _ _ _ _ _ _ _ _ _ _ _ _ _ _ (claimR x.claim) V1 (fun V2 hb2 => rclaim_any x.claim c1 V2 (h.h3.below (chain hb1 hb2)))) (fun W0 B xs cs W hb1 hw hr => let g := h.h3.below hb1; dw_clm x.claim c1 g.ops hw hr) (fun hz => room_of (clm_small x.claim hz).2)
  by_cases k4 : x.kind = 4
  · have ez : zA x = cmdR x.cmd := by unfold zA; rw [if_neg k1,if_neg k2,if_neg k3,if_pos k4]
    have et : tA x = cmdC.w x.cmd := by unfold tA; rw [if_neg k1,if_neg k2,if_neg k3,if_pos k4]
    rw [ez,et,k4]
    exact renc_4 _ _ _ _ _ _ _ _ _ _ _ _ _ _ _ _ _ _ _ _ _ _ _ _ _ _ _ _ _ _ _ _ _ _ _ _ _ _ _ _ _ _ _ _ _ _ _ _ _ (cmdR x.cmd) (cmdC.w x.cmd) w (fun V1 hb1 => rck_4 _ _ _ _ _ _ _ _ _ _ _ _ _ _ _ _ _ _ _ _ _ _ _ _ _ _ _ _ _ _ _ _ _ _ _ _ _ _ _ _ _ _ _ _ _ _ _ _ _ (cmdR x.cmd) V1 (fun V2 hb2 => rcmd_any x.cmd d1 d2 V2 (h.h4.below (chain hb1 hb2)))) (fun W0 B xs cs W hb1 hw hr => let g := h.h4.below hb1; dw_cmd x.cmd d1 g.nd d2 g.ops hw hr) (fun hz => room_of (cmd_small x.cmd hz).2)
  by_cases k5 : x.kind = 5
  · have ez : zA x = coolR [x.cool] := by unfold zA; rw [if_neg k1,if_neg k2,if_neg k3,if_neg k4,if_pos k5]
    have et : tA x = coolC.w x.cool := by unfold tA; rw [if_neg k1,if_neg k2,if_neg k3,if_neg k4,if_pos k5]
    rw [ez,et,k5]
    have hC : ∀ (V : World) (B : Nat),V.cell? ⟨B,0,none⟩ = some (.string (bytesT x.cool.1.1)) -> V.cell? ⟨B,1,none⟩ = some (.string (bytesT x.cool.1.2.1)) -> V.cell? ⟨B,2,none⟩ = some (.string (bytesT x.cool.1.2.2)) -> V.cell? ⟨B,3,none⟩ = some (.int .i64 x.cool.2) -> Calls Tryz.prog 42 #[.slice (some ⟨B,0,none⟩) 1 1] V fun e w' => e = .returned (.int .i64 (coolR [x.cool])) /\ Below V.heap.size V w' :=
      fun V B g0 g1 g2 g3 => rcheck7_any _ [x.cool] V (cool1 h.h5 g0 g1 g2 g3)
    exact renc_5 _ _ _ _ _ _ _ _ _ _ _ _ _ _ _ _ _ _ _ _ _ _ _ _ _ _ _ _ _ _ _ _ _ _ _ _ _ _ _ _ _ _ _ _ _ _ _ _ _ (coolR [x.cool]) (offC.w x.cool.1) (numC.w x.cool.2) w (fun V1 hb1 => rck_5 _ _ _ _ _ _ _ _ _ _ _ _ _ _ _ _ _ _ _ _ _ _ _ _ _ _ _ _ _ _ _ _ _ _ _ _ _ _ _ _ _ _ _ _ _ _ _ _ _ (coolR [x.cool]) V1 hC) (fun W0 B xs cs W hb1 hw hr => dw_off x.cool.1 hw (by unfold Room at *; rw [List.length_append] at hr; omega)) (fun W0 B xs cs W hb1 hw hr => dw_num x.cool.2 hw hr) (fun hz => room_of (cool_small x.cool hz).2)
  have hk : ¬ x.kind = 1 /\ ¬ x.kind = 2 /\ ¬ x.kind = 3 /\ ¬ x.kind = 4 /\ ¬ x.kind = 5 := ⟨k1,k2,k3,k4,k5⟩
  have ez : zA x = 1 := by unfold zA; rw [if_neg k1,if_neg k2,if_neg k3,if_neg k4,if_neg k5]
  rw [ez]
  exact renc_0 x.kind _ _ _ _ _ _ _ _ _ _ _ _ _ _ _ _ _ _ _ _ _ _ _ _ _ _ _ _ _ _ _ _ _ _ _ _ _ _ _ _ _ _ _ _ _ _ _ _ _ 1 (tA x) w hk (by decide) (fun V1 hb1 => rck_0 x.kind hk _ _ _ _ _ _ _ _ _ _ _ _ _ _ _ _ _ _ _ _ _ _ _ _ _ _ _ _ _ _ _ _ _ _ _ _ _ _ _ _ _ _ _ _ _ _ _ _ _ V1)
set_option maxRecDepth 100000 in
set_option maxHeartbeats 16000000 in
theorem any9 (x : VAny) (u1 u2 u3 u4 u5 p1 p2 c1 d1 d2 : Value) (w : World) (hL : Laid w) (h : AnyM w x u1 u2 u3 u4 u5 p1 p2 c1 d1 d2) :
    ∃ I,(∀ V,Below w.heap.size w V -> Calls Tryz.prog 9 #[anyA x u1 u2 u3 u4 u5 p1 p2 c1 d1 d2] V fun e w' => e = .returned I /\ Below V.heap.size V w') /\
      (∀ V,Below w.heap.size w V -> Calls Tryz.prog 8 #[I] V (EncQ (zA x) (tA x) V)) /\ (zA x = 0 -> (tA x).length <= 4096) := by
  unfold anyA
  by_cases k1 : x.kind = 1
  · have ez : zA x = podR x.pod := by unfold zA; rw [if_pos k1]
    have et : tA x = podC.w x.pod := by unfold tA; rw [if_pos k1]
    rw [ez,et,k1]
    exact ⟨_,fun V _ => of_1 _ _ _ _ _ _ _ _ _ _ _ _ _ _ _ _ _ _ _ _ _ _ _ _ _ _ _ _ _ _ _ _ _ _ _ _ _ _ _ _ _ _ _ _ _ _ _ _ _ V,fun V hb => enc_pod x.pod u1 u2 u3 u4 u5 V (hL.below hb) (h.h1.below hb),fun hz => (pod_small x.pod hz).2⟩
  by_cases k2 : x.kind = 2
  · have ez : zA x = poolR x.pool := by unfold zA; rw [if_neg k1,if_pos k2]
    have et : tA x = polC.w x.pool := by unfold tA; rw [if_neg k1,if_pos k2]
    rw [ez,et,k2]
    exact ⟨_,fun V _ => of_2 _ _ _ _ _ _ _ _ _ _ _ _ _ _ _ _ _ _ _ _ _ _ _ _ _ _ _ _ _ _ _ _ _ _ _ _ _ _ _ _ _ _ _ _ _ _ _ _ _ V,fun V hb => enc_pol x.pool p1 p2 V (hL.below hb) (h.h2.below hb),fun hz => (pol_small x.pool hz).2⟩
  by_cases k3 : x.kind = 3
  · have ez : zA x = claimR x.claim := by unfold zA; rw [if_neg k1,if_neg k2,if_pos k3]
    have et : tA x = clmC.w x.claim := by unfold tA; rw [if_neg k1,if_neg k2,if_pos k3]
    rw [ez,et,k3]
    exact ⟨_,fun V _ => of_3 _ _ _ _ _ _ _ _ _ _ _ _ _ _ _ _ _ _ _ _ _ _ _ _ _ _ _ _ _ _ _ _ _ _ _ _ _ _ _ _ _ _ _ _ _ _ _ _ _ V,fun V hb => enc_clm x.claim c1 V (h.h3.below hb),fun hz => (clm_small x.claim hz).2⟩
  by_cases k4 : x.kind = 4
  · have ez : zA x = cmdR x.cmd := by unfold zA; rw [if_neg k1,if_neg k2,if_neg k3,if_pos k4]
    have et : tA x = cmdC.w x.cmd := by unfold tA; rw [if_neg k1,if_neg k2,if_neg k3,if_pos k4]
    rw [ez,et,k4]
    exact ⟨_,fun V _ => of_4 _ _ _ _ _ _ _ _ _ _ _ _ _ _ _ _ _ _ _ _ _ _ _ _ _ _ _ _ _ _ _ _ _ _ _ _ _ _ _ _ _ _ _ _ _ _ _ _ _ V,fun V hb => enc_cmd x.cmd d1 d2 V (h.h4.below hb),fun hz => (cmd_small x.cmd hz).2⟩
  by_cases k5 : x.kind = 5
  · have ez : zA x = coolR [x.cool] := by unfold zA; rw [if_neg k1,if_neg k2,if_neg k3,if_neg k4,if_pos k5]
    have et : tA x = coolC.w x.cool := by unfold tA; rw [if_neg k1,if_neg k2,if_neg k3,if_neg k4,if_pos k5]
    rw [ez,et,k5]
    exact ⟨_,fun V _ => of_5 _ _ _ _ _ _ _ _ _ _ _ _ _ _ _ _ _ _ _ _ _ _ _ _ _ _ _ _ _ _ _ _ _ _ _ _ _ _ _ _ _ _ _ _ _ _ _ _ _ V,fun V hb => enc_cool x.cool V h.h5,fun hz => (cool_small x.cool hz).2⟩
  have hk : ¬ x.kind = 1 /\ ¬ x.kind = 2 /\ ¬ x.kind = 3 /\ ¬ x.kind = 4 /\ ¬ x.kind = 5 := ⟨k1,k2,k3,k4,k5⟩
  have ez : zA x = 1 := by unfold zA; rw [if_neg k1,if_neg k2,if_neg k3,if_neg k4,if_neg k5]
  rw [ez]
  have ht : ∀ V,Calls Tryz.prog 32 #[.iface 3 (.int .i64 x.kind)] V fun e w' => e = .returned (.tuple #[.string ⟨#[]⟩,.int .i64 1]) /\ Below V.heap.size V w' := fun V => (told_int x.kind V).mono fun e w' h => ⟨h.1,by rw [h.2]; exact Below.refl _ _⟩
  exact ⟨_,fun V _ => of_0 x.kind hk _ _ _ _ _ _ _ _ _ _ _ _ _ _ _ _ _ _ _ _ _ _ _ _ _ _ _ _ _ _ _ _ _ _ _ _ _ _ _ _ _ _ _ _ _ _ _ _ _ V,fun V hb => enc_err _ 1 _ V (by decide) (chk8_of _ _ _ V (ht V)),fun hz => absurd hz (by decide)⟩
end Go.Proofs.YtfpfdnapamdhjaaGreatDoor
