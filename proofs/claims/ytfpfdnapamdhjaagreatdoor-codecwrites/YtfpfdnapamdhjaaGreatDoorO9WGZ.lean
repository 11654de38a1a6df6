/- Layer 9: an object of any kind opened,with all that writing asks -/
import Derived.Test.YtfpfdnapamdhjaaGreatDoorO9AGZ
import Derived.SizedLaws
namespace Go.Proofs.YtfpfdnapamdhjaaGreatDoor
open Go.ChangeShapes Go.WideShapes Go.ChangeAt Go.RowKit Suf Val

section
variable {H : Type} {enc : TypeId × Value -> H} {W : World} {base : Nat} {spare : Nat -> Bool} {held : Bool}
set_option maxRecDepth 100000 in
theorem open_any9 {v : Value} {d : DataW H} {p : List MemPlace} {r : Reach} {b0 : Nat} (hv : Value.okWide Tryz.prog W r b0 44 v) (h : DataW.Trod enc Tryz.prog W base spare held 44 v d p) (hz : ∀ k ∈ d.weights Tryz.prog 44,k <= reachBytes) :
    ∃ (x : VAny) (u1 u2 u3 u4 u5 p1 p2 c1 d1 d2 : Value),v = anyA x u1 u2 u3 u4 u5 p1 p2 c1 d1 d2 /\ PodM W x.pod u1 u2 u3 u4 u5 /\ PolM W x.pool p1 p2 /\ ClmIn W x.claim c1 /\ CmdIn W x.cmd d1 d2 /\ okO x.cool.1 := by
  obtain ⟨cs,rfl,hsz⟩ := okWide_struct Tryz.underlying44 hv
  obtain ⟨fuel,hf⟩ := h
  obtain ⟨x,hx⟩ := opens_any8 _ _ _ hf hz
  obtain ⟨_,_,e0,rfl,_,_,rfl,⟨_,_,rfl,⟨rfl,s1_0⟩,_,_,rfl,⟨rfl,s1_1⟩,_,_,rfl,⟨_,_,rfl,rfl,rfl⟩,_,_,rfl,rfl,_,_,rfl,⟨v1_4,rfl,l1_4,b1_4⟩,_,_,rfl,⟨v1_5,rfl,l1_5,b1_5⟩,_,_,rfl,⟨v1_6,rfl,l1_6,b1_6⟩,_,_,rfl,⟨v1_7,rfl,l1_7,b1_7⟩,_,_,rfl,⟨v1_8,rfl,l1_8,b1_8⟩,_,_,rfl,rfl,⟨rfl,s1_10⟩⟩,_,_,rfl,⟨_,_,rfl,⟨rfl,s2_0⟩,_,_,rfl,rfl,_,_,rfl,⟨_,_,rfl,rfl,rfl⟩,_,_,rfl,⟨v2_3,rfl,l2_3,b2_3⟩,_,_,rfl,⟨v2_4,rfl,l2_4,b2_4⟩,_,_,rfl,rfl,_,_,rfl,rfl,_,_,rfl,rfl,rfl⟩,_,_,rfl,⟨_,_,rfl,⟨rfl,s3_0⟩,_,_,rfl,⟨rfl,s3_1⟩,_,_,rfl,rfl,_,_,rfl,⟨_,_,rfl,⟨rfl,s3_3_0⟩,_,_,rfl,⟨rfl,s3_3_1⟩,⟨rfl,s3_3_2⟩⟩,_,_,rfl,rfl,_,_,rfl,⟨_,_,rfl,rfl,rfl⟩,_,_,rfl,⟨v3_6,rfl,l3_6,b3_6⟩,_,_,rfl,rfl,_,_,rfl,⟨rfl,s3_8⟩,_,_,rfl,rfl,_,_,rfl,rfl,rfl⟩,_,_,rfl,⟨_,_,rfl,rfl,_,_,rfl,⟨v4_1,rfl,l4_1⟩,_,_,rfl,rfl,_,_,rfl,rfl,_,_,rfl,⟨rfl,s4_4⟩,_,_,rfl,⟨rfl,s4_5⟩,_,_,rfl,⟨v4_6,rfl,l4_6,b4_6⟩,rfl⟩,_,_,rfl,⟨_,_,rfl,⟨rfl,s5_0_0⟩,_,_,rfl,⟨rfl,s5_0_1⟩,⟨rfl,s5_0_2⟩⟩,rfl⟩ := hx
  refine ⟨x,v1_4,v1_5,v1_6,v1_7,v1_8,v2_3,v2_4,v3_6,v4_1,v4_6,?_,⟨⟨s1_0,s1_1,s1_10,lst_reqs l1_4 b1_4,lst_tols l1_5 b1_5,l1_6,l1_7,l1_8⟩,l1_4,l1_5⟩,⟨⟨s2_0,lst_reqs l2_3 b2_3,lst_labs l2_4 b2_4⟩,l2_3,l2_4⟩,⟨s3_0,s3_1,⟨s3_3_0,s3_3_1,s3_3_2⟩,l3_6,s3_8⟩,⟨s4_4,s4_5,l4_1,l4_6⟩,s5_0_0,s5_0_1,s5_0_2⟩
  have hc : cs.toList = [.int .i64 x.kind,.string (bytesT x.pod.name),.string (bytesT x.pod.app),.int .i64 x.pod.need.1,.int .i64 x.pod.need.2,.int .i64 x.pod.prio,v1_4,v1_5,v1_6,v1_7,v1_8,.int .i64 x.pod.since,.string (bytesT x.pod.on),.string (bytesT x.pool.name),.int .i64 x.pool.weight,.int .i64 x.pool.limit.1,.int .i64 x.pool.limit.2,v2_3,v2_4,.int .i64 x.pool.gen,.int .i64 x.pool.expire,.int .i64 x.pool.budget,.int .i64 x.pool.merge,.string (bytesT x.claim.name),.string (bytesT x.claim.pool),.int .i64 x.claim.gen,.string (bytesT x.claim.offer.1),.string (bytesT x.claim.offer.2.1),.string (bytesT x.claim.offer.2.2),.int .i64 x.claim.price,.int .i64 x.claim.cap.1,.int .i64 x.claim.cap.2,v3_6,.int .i64 x.claim.tryN,.string (bytesT x.claim.id),.int .i64 x.claim.phase,.int .i64 x.claim.born,.bool x.claim.marked,.int .i64 x.cmd.cause,v4_1,.int .i64 x.cmd.step,.int .i64 x.cmd.til,.string (bytesT x.cmd.fresh),.string (bytesT x.cmd.pool),v4_6,.bool x.cmd.made,.string (bytesT x.cool.1.1),.string (bytesT x.cool.1.2.1),.string (bytesT x.cool.1.2.2),.int .i64 x.cool.2] := e0
  have : cs = #[.int .i64 x.kind,.string (bytesT x.pod.name),.string (bytesT x.pod.app),.int .i64 x.pod.need.1,.int .i64 x.pod.need.2,.int .i64 x.pod.prio,v1_4,v1_5,v1_6,v1_7,v1_8,.int .i64 x.pod.since,.string (bytesT x.pod.on),.string (bytesT x.pool.name),.int .i64 x.pool.weight,.int .i64 x.pool.limit.1,.int .i64 x.pool.limit.2,v2_3,v2_4,.int .i64 x.pool.gen,.int .i64 x.pool.expire,.int .i64 x.pool.budget,.int .i64 x.pool.merge,.string (bytesT x.claim.name),.string (bytesT x.claim.pool),.int .i64 x.claim.gen,.string (bytesT x.claim.offer.1),.string (bytesT x.claim.offer.2.1),.string (bytesT x.claim.offer.2.2),.int .i64 x.claim.price,.int .i64 x.claim.cap.1,.int .i64 x.claim.cap.2,v3_6,.int .i64 x.claim.tryN,.string (bytesT x.claim.id),.int .i64 x.claim.phase,.int .i64 x.claim.born,.bool x.claim.marked,.int .i64 x.cmd.cause,v4_1,.int .i64 x.cmd.step,.int .i64 x.cmd.til,.string (bytesT x.cmd.fresh),.string (bytesT x.cmd.pool),v4_6,.bool x.cmd.made,.string (bytesT x.cool.1.1),.string (bytesT x.cool.1.2.1),.string (bytesT x.cool.1.2.2),.int .i64 x.cool.2] := by
    apply Array.toList_inj.1
    exact hc
  rw [this]; rfl
end
end Go.Proofs.YtfpfdnapamdhjaaGreatDoor
