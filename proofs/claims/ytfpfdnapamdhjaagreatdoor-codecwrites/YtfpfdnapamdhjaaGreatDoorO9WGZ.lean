/- Layer 9: an object of any kind opened,with all that writing asks -/
import Derived.Test.YtfpfdnapamdhjaaGreatDoorO9AGZ
import Derived.SizedLaws
import Derived.Test.YtfpfdnapamdhjaaGreatDoorCWritesWGZ
import Derived.Test.YtfpfdnapamdhjaaGreatDoorTie
import Derived.Test.YtfpfdnapamdhjaaGreatDoorCards
import Derived.SevenTiedAt
import Derived.Lay
namespace Go.Proofs.YtfpfdnapamdhjaaGreatDoor
open Go.ChangeShapes Go.WideShapes Go.ChangeAt Go.RowKit Suf Val

section
variable {H : Type} {enc : TypeId × Value -> H} {W : World} {base : Nat} {spare : Nat -> Bool} {held : Bool}
set_option maxRecDepth 100000 in
theorem open_any9 {v : Value} {d : DataW H} {p : List MemPlace} {r : Reach} {b0 : Nat} (hv : Value.okWide Tryz.prog W r b0 44 v) (h : DataW.Trod enc Tryz.prog W base spare held 44 v d p) (hz : ∀ k ∈ d.weights Tryz.prog 44,k <= reachBytes) :
    ∃ (x : VAny) (u1 u2 u3 u4 u5 p1 p2 c1 d1 d2 : Value),v = anyA x u1 u2 u3 u4 u5 p1 p2 c1 d1 d2 /\ PodM W x.pod u1 u2 u3 u4 u5 /\ PolM W x.pool p1 p2 /\ ClmIn W x.claim c1 /\ CmdIn W x.cmd d1 d2 /\ okO x.cool.1 := by
  obtain ⟨cs,rfl,hsz⟩ := okWide_struct Tryz.underlying44 hv
  obtain ⟨fuel,hf⟩ := h
  obtain ⟨x,hx⟩ := opens_any8 _ _ _ hf hz
  obtain ⟨_,_,e0,rfl,_,_,rfl,⟨_,_,rfl,⟨rfl,s1_0⟩,_,_,rfl,⟨rfl,s1_1⟩,_,_,rfl,⟨_,_,rfl,rfl,rfl⟩,_,_,rfl,rfl,_,_,rfl,⟨v1_4,rfl,l1_4,b1_4⟩,_,_,rfl,⟨v1_5,rfl,l1_5,b1_5⟩,_,_,rfl,⟨v1_6,rfl,l1_6,b1_6⟩,_,_,rfl,⟨v1_7,rfl,l1_7,b1_7⟩,_,_,rfl,⟨v1_8,rfl,l1_8,b1_8⟩,_,_,rfl,rfl,⟨rfl,s1_10⟩⟩,_,_,rfl,⟨_,_,rfl,⟨rfl,s2_0⟩,_,_,rfl,rfl,_,_,rfl,⟨_,_,rfl,rfl,rfl⟩,_,_,rfl,⟨v2_3,rfl,l2_3,b2_3⟩,_,_,rfl,⟨v2_4,rfl,l2_4,b2_4⟩,_,_,rfl,rfl,_,_,rfl,rfl,_,_,rfl,rfl,rfl⟩,_,_,rfl,⟨_,_,rfl,⟨rfl,s3_0⟩,_,_,rfl,⟨rfl,s3_1⟩,_,_,rfl,rfl,_,_,rfl,⟨_,_,rfl,⟨rfl,s3_3_0⟩,_,_,rfl,⟨rfl,s3_3_1⟩,⟨rfl,s3_3_2⟩⟩,_,_,rfl,rfl,_,_,rfl,⟨_,_,rfl,rfl,rfl⟩,_,_,rfl,⟨v3_6,rfl,l3_6,b3_6⟩,_,_,rfl,rfl,_,_,rfl,⟨rfl,s3_8⟩,_,_,rfl,rfl,_,_,rfl,rfl,rfl⟩,_,_,rfl,⟨_,_,rfl,rfl,_,_,rfl,⟨v4_1,rfl,l4_1⟩,_,_,rfl,rfl,_,_,rfl,rfl,_,_,rfl,⟨rfl,s4_4⟩,_,_,rfl,⟨rfl,s4_5⟩,_,_,rfl,⟨v4_6,rfl,l4_6,b4_6⟩,rfl⟩,_,_,rfl,⟨_,_,rfl,⟨rfl,s5_0_0⟩,_,_,rfl,⟨rfl,s5_0_1⟩,⟨rfl,s5_0_2⟩⟩,rfl⟩ := hx
  refine ⟨x,v1_4,v1_5,v1_6,v1_7,v1_8,v2_3,v2_4,v3_6,v4_1,v4_6,?_,⟨⟨s1_0,s1_1,s1_10,lst_reqs l1_4 b1_4,lst_tols l1_5 b1_5,l1_6,l1_7,l1_8⟩,l1_4,l1_5⟩,⟨⟨s2_0,lst_reqs l2_3 b2_3,lst_labs l2_4 b2_4⟩,l2_3,l2_4⟩,⟨s3_0,s3_1,⟨s3_3_0,s3_3_1,s3_3_2⟩,l3_6,s3_8⟩,⟨s4_4,s4_5,l4_1,l4_6⟩,s5_0_0,s5_0_1,s5_0_2⟩
  have hc : cs.toList = [.int .i64 x.kind,.string (bytesT x.pod.name),.string (bytesT x.pod.app),.int .i64 x.pod.need.1,.int .i64 x.pod.need.2,.int .i64 x.pod.prio,v1_4,v1_5,v1_6,v1_7,v1_8,.int .i64 x.pod.since,.string (bytesT x.pod.on),.string (bytesT x.pool.name),.int .i64 x.pool.weight,.int .i64 x.pool.limit.1,.int .i64 x.pool.limit.2,v2_3,v2_4,.int .i64 x.pool.gen,.int .i64 x.pool.expire,.int .i64 x.pool.budget,.int .i64 x.pool.merge,.string (bytesT x.claim.name),.string (bytesT x.claim.pool),.int .i64 x.claim.gen,.string (bytesT x.claim.offer.1),.string (bytesT x.claim.offer.2.1),.string (bytesT x.claim.offer.2.2),.int .i64 x.claim.price,.int .i64 x.claim.cap.1,.int .i64 x.claim.cap.2,v3_6,.int .i64 x.claim.tryN,.string (bytesT x.claim.id),.int .i64 x.claim.phase,.int .i64 x.claim.born,.bool x.claim.marked,.int .i64 x.cmd.cause,v4_1,.int .i64 x.cmd.step,.int .i64 x.cmd.til,.string (bytesT x.cmd.fresh),.string (bytesT x.cmd.pool),v4_6,.bool x.cmd.made,.string (bytesT x.cool.1.1),.string (bytesT x.cool.1.2.1),.string (bytesT x.cool.1.2.2),.int .i64 x.cool.2] := e0
  have : cs = #[.int .i64 x.kind,.string (bytesT x.pod.name),.string (bytesT x.pod.app),.int .i64 x.pod.need.1,.int .i64 x.pod.need.2,.int .i64 x.pod.prio,v1_4,v1_5,v1_6,v1_7,v1_8,.int .i64 x.pod.since,.string (bytesT x.pod.on),.string (bytesT x.pool.name),.int .i64 x.pool.weight,.int .i64 x.pool.limit.1,.int .i64 x.pool.limit.2,v2_3,v2_4,.int .i64 x.pool.gen,.int .i64 x.pool.expire,.int .i64 x.pool.budget,.int .i64 x.pool.merge,.string (bytesT x.claim.name),.string (bytesT x.claim.pool),.int .i64 x.claim.gen,.string (bytesT x.claim.offer.1),.string (bytesT x.claim.offer.2.1),.string (bytesT x.claim.offer.2.2),.int .i64 x.claim.price,.int .i64 x.claim.cap.1,.int .i64 x.claim.cap.2,v3_6,.int .i64 x.claim.tryN,.string (bytesT x.claim.id),.int .i64 x.claim.phase,.int .i64 x.claim.born,.bool x.claim.marked,.int .i64 x.cmd.cause,v4_1,.int .i64 x.cmd.step,.int .i64 x.cmd.til,.string (bytesT x.cmd.fresh),.string (bytesT x.cmd.pool),v4_6,.bool x.cmd.made,.string (bytesT x.cool.1.1),.string (bytesT x.cool.1.2.1),.string (bytesT x.cool.1.2.2),.int .i64 x.cool.2] := by
    apply Array.toList_inj.1
    exact hc
  rw [this]; rfl
end
end Go.Proofs.YtfpfdnapamdhjaaGreatDoor

/- Proved: CodecWrites returns true for every input. No condition but what the card's own print says of the listed variables. -/
namespace Go.Proofs.YtfpfdnapamdhjaaGreatDoor.codecWrites
open Go.ChangeShapes Go.WideShapes Go.ChangeAt Go.RowKit Suf Val

set_option maxRecDepth 100000 in
theorem lifted (os : Os) (started : os.Started) (H : Type) (enc : TypeId × Value -> H) :
    ReturnsInHanded {} Tryz.checked os 3 .any (fun w args => (Rows.codecWritesSpec.pre enc Tryz.prog Tryz.f3 Rows.codecWritesRow.domain false w args /\ laidMetH Tryz.prog laidL w) /\ sizedMet enc Tryz.prog Tryz.f3 (OpenSpec.ofChange Rows.codecWritesSpec) false w args)
      (Rows.codecWritesSpec.post enc Tryz.prog Tryz.f3 false true false false) := by
  refine returnsInHanded_of_change_and (C := Tryz.checked) (X := fun w _ => laidMetH Tryz.prog laidL w) (fun _ _ _ hh h => h.of_heap hh) own started (by kernel_rfl) Tryz.func3
    (ChangeSpec.witness_shaped (enc := enc) (C := Tryz.checked) (os := os) (X := fun w _ => laidMetH Tryz.prog laidL w) false (World.laidAll Tryz.prog os laidL) #[.agg #[.int .i64 0,.string ⟨#[]⟩,.string ⟨#[]⟩,.int .i64 0,.int .i64 0,.int .i64 0,.slice none 0 0,.slice none 0 0,.slice none 0 0,.slice none 0 0,.slice none 0 0,.int .i64 0,.string ⟨#[]⟩,.string ⟨#[]⟩,.int .i64 0,.int .i64 0,.int .i64 0,.slice none 0 0,.slice none 0 0,.int .i64 0,.int .i64 0,.int .i64 0,.int .i64 0,.string ⟨#[]⟩,.string ⟨#[]⟩,.int .i64 0,.string ⟨#[]⟩,.string ⟨#[]⟩,.string ⟨#[]⟩,.int .i64 0,.int .i64 0,.int .i64 0,.slice none 0 0,.int .i64 0,.string ⟨#[]⟩,.int .i64 0,.int .i64 0,.bool false,.int .i64 0,.slice none 0 0,.int .i64 0,.int .i64 0,.string ⟨#[]⟩,.string ⟨#[]⟩,.slice none 0 0,.bool false,.string ⟨#[]⟩,.string ⟨#[]⟩,.string ⟨#[]⟩,.int .i64 0]] 8 (World.laidAll_os _ _ _)
      (World.shaped_of_ZipB (by kernel_rfl) (by kernel_rfl)) (by kernel_rfl) (by kernel_rfl) (by kernel_rfl)
      (by rw [MakeChecks.laidMetH_plain _ _ _ (by kernel_rfl)]; exact laidMet_laidAll _ (by kernel_rfl) (by kernel_rfl))) ?_
  intro W base args ds gs before hval0 hW hcnd hsz hL _
  have hval : ∀ (j : Nat) t v,Tryz.f3.params[j]? = some t -> args[j]? = some v -> Value.okWide Tryz.prog W .any base t v := hval0
  have hW' := hW
  obtain ⟨p,q,hA0,hV,rfl,hfz,hnd⟩ := hW
  have hA : DataW.TrodAll enc Tryz.prog W 0 (fun _ => true) true Tryz.f3.params.toList args.toList ds p := hA0
  rw [Tryz.params3] at hA hval
  obtain ⟨v0,vs0,d0,ds0,p0,q0,hargs,rfl,rfl,h0,r0⟩ := trodAll_cons hA
  obtain ⟨rfl,rfl,rfl⟩ := trodAll_nil r0
  obtain rfl : args = #[v0] := by cases args; simp_all
  obtain ⟨rfl,rfl⟩ := trodVars_none hV
  rw [Tryz.params3] at hsz
  have lt0 := places_lt h0
  have hh0 := h0
  obtain ⟨x,u1,u2,u3,u4,u5,p1,p2,c1,d1,d2,rfl,hx1,hx2,hx3,hx4,hx5⟩ := open_any9 (hval 0 44 v0 rfl rfl) hh0 (fun k hk => by simpa using List.all_eq_true.1 hsz k (DataW.weights_mem_each (j := 0) rfl rfl k hk))
  clear hA0 hval0
  refine (walk x u1 u2 u3 u4 u5 p1 p2 c1 d1 d2 W ⟨hx1,hx2,hx3,hx4,hx5⟩ (of_laid hL)).mono fun e W' ⟨he,bel⟩ => ?_
  subst he
  exact ⟨_,rfl,_,_,_,[],_,[],hW',trodAll_mk1 (shut_bool Tryz.underlying4 _),(trodAll_cons_mk (Below.trod laidOut (by kernel_rfl) (of_decide_eq_true (by kernel_rfl)) h0 bel lt0) trodAll_mk0),rfl,bel.frame _,fun h => by cases h⟩

theorem proved : Rows.CodecWritesSaid :=
  OpenClaim.holds_of_wide 3 Tryz.f3 rfl rfl rfl rfl rfl rfl rfl ⟨rfl,rfl,rfl,rfl,rfl⟩ rfl rfl rfl rfl rfl (by kernel_rfl) Tryz.func3 (by kernel_rfl)
    (of_decide_eq_true (by kernel_rfl)) (by unfold Func.isWrapper; first | (rw [if_pos (by decide +kernel)]; kernel_rfl) | (rw [if_neg (by decide +kernel)]; exact ⟨rfl,rfl⟩))
    (fun os started H enc _ => lifted os started H enc)
theorem card : Rows.CodecWritesCardSaid :=
  Claim7.holds_tied_plain_at .later [] [.data,.data,.data,.sentinel,.sentinel] true Rows.codecWritesCard.stood.harness Rows.codecWritesCard.stood.looks
    proved (fun _ h => by cases h) (by kernel_rfl) (fun _ h => by cases h) codecWrites_row_tie rfl ⟨rfl,rfl⟩ (by kernel_rfl) rfl
    (fun f fn hf hfn => by
      obtain rfl : f = 3 := Option.some.inj ((show Tryz.prog.funcNamed Rows.codecWritesRow.func = some 3 by kernel_rfl).symm.trans hf) |>.symm
      obtain rfl : fn = Tryz.f3 := (Option.some.inj (Tryz.func3.symm.trans hfn)).symm
      exact ⟨by kernel_rfl,fun j t ht => by
        rw [Tryz.params3] at ht
        have hm : t ∈ [44] := by simpa using Array.mem_of_getElem? ht
        have hall : ([44].all fun u => !Tryz.prog.wantsStandIn u) = true := by kernel_rfl
        exact (show Tryz.prog.wantsStandIn t = false by simpa using List.all_eq_true.1 hall t hm)⟩)
    (by kernel_rfl)
end Go.Proofs.YtfpfdnapamdhjaaGreatDoor.codecWrites
namespace Go.Proofs.YtfpfdnapamdhjaaGreatDoor
theorem codecWritesCard_holds : Rows.CodecWritesCardSaid := codecWrites.card
#print axioms codecWritesCard_holds
end Go.Proofs.YtfpfdnapamdhjaaGreatDoor
