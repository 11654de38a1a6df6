/- Layer 8: the program's Claim,one way of four -/
import Derived.Test.YtfpfdnapamdhjaaGreatDoorO8EGZ
namespace Go.Proofs.YtfpfdnapamdhjaaGreatDoor
open Go.RowKit Suf Val

set_option maxRecDepth 100000 in
set_option maxHeartbeats 64000000 in
theorem pclaim_A (p : VClaim) (u1 : Value) (w : World) (h : ClmIn w p u1) (hA : (nameB p.name && nameB p.pool) = true) (hB : timeB p.gen = true) :
    Calls Tryz.prog 65 #[clmA p u1] w fun e w' => e = .returned (.int .i64 (claimR p)) /\ Below w.heap.size w w' := by
  have hR : Hid (claimR p = orE [unl ((nameB p.name && nameB p.pool) && namedO p.offer) 7,Am.chk p.price,Am.chkA p.cap.1 p.cap.2,offsR8 p.opts,unl (btwB 1 p.tryN 32) 1,unl (decide (p.id.length <= 16)) 2,unl (btwB 1 p.phase 4) 1,unl (timeB p.gen && timeB p.born) 1]) := rfl
  obtain ⟨R,hRR⟩ : ∃ R,R = claimR p := ⟨_,rfl⟩
  rw [<- hRR,hA,hB] at hR
  rw [<- hRR]
  clear hRR
  have cNm := hide (names2 p.name p.pool h.n1 h.n2)
  rw [hA] at cNm
  have kO := hide (poffer_any p.offer · h.of)
  have k2 := hide (Am.check_any p.price)
  have k3 := hide (Am.checkAll_any p.cap.1 p.cap.2)
  have kT : Hid (∀ V vv,vv = .int .i64 p.gen -> Calls Tryz.prog 111 #[vv] V fun e w' => e = .returned (.bool true) /\ w' = V) := fun V vv e => by rw [e,<- hB]; exact time_any _ V
  have kB : Hid (∀ V vv,vv = .int .i64 p.born -> Calls Tryz.prog 111 #[vv] V fun e w' => e = .returned (.bool (timeB p.born)) /\ w' = V) := fun V vv e => by rw [e]; exact time_any _ V
  have hlen : p.id.length = (bytesT p.id).size := (bytesT_size p.id).symm
  have hq1 := h.ops
  obtain ⟨a1,c1,hu1⟩ := h.ops.val
  obtain ⟨n1,hn1⟩ : ∃ n,n = p.opts.length := ⟨_,rfl⟩
  unfold clmA
  rw [hu1]
  rw [hu1,<- hn1] at hq1
  rw [<- hn1]
  clear hu1 h hA hB
  obtain ⟨z2,hz2⟩ : ∃ z,z = Am.chk p.price := ⟨_,rfl⟩
  obtain ⟨z3,hz3⟩ : ∃ z,z = Am.chkA p.cap.1 p.cap.2 := ⟨_,rfl⟩
  obtain ⟨z4,hz4⟩ : ∃ z,z = offsR8 p.opts := ⟨_,rfl⟩
  obtain ⟨qo,hqo⟩ : ∃ z,z = namedO p.offer := ⟨_,rfl⟩
  obtain ⟨qb,hqb⟩ : ∃ z,z = timeB p.born := ⟨_,rfl⟩
  obtain ⟨X0,hX0⟩ : ∃ z,z = bytesT p.name := ⟨_,rfl⟩
  obtain ⟨X1,hX1⟩ : ∃ z,z = bytesT p.pool := ⟨_,rfl⟩
  obtain ⟨X2,hX2⟩ : ∃ z,z = bytesT p.id := ⟨_,rfl⟩
  obtain ⟨Y0,hY0⟩ : ∃ z,z = bytesT p.offer.1 := ⟨_,rfl⟩
  obtain ⟨Y1,hY1⟩ : ∃ z,z = bytesT p.offer.2.1 := ⟨_,rfl⟩
  obtain ⟨Y2,hY2⟩ : ∃ z,z = bytesT p.offer.2.2 := ⟨_,rfl⟩
  obtain ⟨N0,hN0⟩ : ∃ z,z = p.cap.1 := ⟨_,rfl⟩
  obtain ⟨N1,hN1⟩ : ∃ z,z = p.cap.2 := ⟨_,rfl⟩
  obtain ⟨P0,hP0⟩ : ∃ z,z = p.price := ⟨_,rfl⟩
  obtain ⟨G0,hG0⟩ : ∃ z,z = p.gen := ⟨_,rfl⟩
  obtain ⟨B0,hB0⟩ : ∃ z,z = p.born := ⟨_,rfl⟩
  obtain ⟨T0,hT0⟩ : ∃ z,z = p.tryN := ⟨_,rfl⟩
  obtain ⟨H0,hH0⟩ : ∃ z,z = p.phase := ⟨_,rfl⟩
  obtain ⟨D0,hD0⟩ : ∃ z,z = p.marked := ⟨_,rfl⟩
  rw [<- hz2,<- hz3,<- hz4,<- hqo,<- hqb,<- hT0,<- hH0,hlen,<- hX2] at hR
  unfold offA at kO
  rw [<- hX0,<- hX1] at cNm
  rw [<- hqo,<- hY0,<- hY1,<- hY2] at kO
  rw [<- hz2,<- hP0] at k2
  rw [<- hz3,<- hN0,<- hN1] at k3
  rw [<- hG0] at kT
  rw [<- hqb,<- hB0] at kB
  rw [<- hX0,<- hX1,<- hX2,<- hY0,<- hY1,<- hY2,<- hP0,<- hN0,<- hN1,<- hG0,<- hT0,<- hH0,<- hB0,<- hD0]
  obtain ⟨z1,hz1⟩ : ∃ z,z = unl (true && qo) 7 := ⟨_,rfl⟩
  obtain ⟨z5,hz5⟩ : ∃ z,z = unl (btwB 1 T0 32) 1 := ⟨_,rfl⟩
  obtain ⟨z6,hz6⟩ : ∃ z,z = unl (decide (X2.size <= 16)) 2 := ⟨_,rfl⟩
  obtain ⟨z7,hz7⟩ : ∃ z,z = unl (btwB 1 H0 4) 1 := ⟨_,rfl⟩
  obtain ⟨z8,hz8⟩ : ∃ z,z = unl (true && qb) 1 := ⟨_,rfl⟩
  rw [<- hz1,<- hz5,<- hz6,<- hz7,<- hz8] at hR
  have cU1 : Hid (∀ V bb ee,bb = .bool qo -> ee = .int .i64 7 -> Calls Tryz.prog 103 #[bb,ee] V fun r w' => r = .returned (.int .i64 z1) /\ w' = V) := fun V bb ee e1 e2 => by rw [e1,e2,hz1]; exact unless_any qo 7 V
  have cU8 : Hid (∀ V bb ee,bb = .bool qb -> ee = .int .i64 1 -> Calls Tryz.prog 103 #[bb,ee] V fun r w' => r = .returned (.int .i64 z8) /\ w' = V) := fun V bb ee e1 e2 => by rw [e1,e2,hz8]; exact unless_any qb 1 V
  have cU6 : Hid (∀ V bb ee,bb = .bool (decide ((X2.size : Int) <= 16)) -> ee = .int .i64 2 -> Calls Tryz.prog 103 #[bb,ee] V fun r w' => r = .returned (.int .i64 z6) /\ w' = V) := fun V bb ee e1 e2 => by
    rw [e1,e2,hz6,show decide ((X2.size : Int) <= 16) = decide (X2.size <= 16) by rw [decide_eq_decide]; omega]
    exact unless_any _ 2 V
  have cU5 : Hid (∀ V bb ee,bb = .bool (btwB 1 T0 32) -> ee = .int .i64 1 -> Calls Tryz.prog 103 #[bb,ee] V fun r w' => r = .returned (.int .i64 z5) /\ w' = V) := fun V bb ee e1 e2 => by rw [e1,e2,hz5]; exact unless_any (btwB 1 T0 32) 1 V
  have cU7 : Hid (∀ V bb ee,bb = .bool (btwB 1 H0 4) -> ee = .int .i64 1 -> Calls Tryz.prog 103 #[bb,ee] V fun r w' => r = .returned (.int .i64 z7) /\ w' = V) := fun V bb ee e1 e2 => by rw [e1,e2,hz7]; exact unless_any (btwB 1 H0 4) 1 V
  have cOr : Hid (∀ V B,V.cell? ⟨B,0,none⟩ = some (.int .i64 z1) -> V.cell? ⟨B,1,none⟩ = some (.int .i64 z2) -> V.cell? ⟨B,2,none⟩ = some (.int .i64 z3) -> V.cell? ⟨B,3,none⟩ = some (.int .i64 z4) -> V.cell? ⟨B,4,none⟩ = some (.int .i64 z5) -> V.cell? ⟨B,5,none⟩ = some (.int .i64 z6) -> V.cell? ⟨B,6,none⟩ = some (.int .i64 z7) -> V.cell? ⟨B,7,none⟩ = some (.int .i64 z8) -> Calls Tryz.prog 102 #[.slice (some ⟨B,0,none⟩) 8 8] V fun r w' => r = .returned (.int .i64 R) /\ w' = V) := fun V B g0 g1 g2 g3 g4 g5 g6 g7 => by rw [unhide hR]; exact or8_8 z1 z2 z3 z4 z5 z6 z7 z8 g0 g1 g2 g3 g4 g5 g6 g7
  have G (V : World) (h : HeldS w [(⟨w.heap.size,0,none⟩,.string X0),(⟨w.heap.size,1,none⟩,.string X1),(⟨w.heap.size,2,none⟩,.int .i64 G0),(⟨w.heap.size,3,none⟩,.string Y0),(⟨w.heap.size,4,none⟩,.string Y1),(⟨w.heap.size,5,none⟩,.string Y2),(⟨w.heap.size,6,none⟩,.int .i64 P0),(⟨w.heap.size,7,none⟩,.int .i64 N0),(⟨w.heap.size,8,none⟩,.int .i64 N1),(⟨w.heap.size,9,none⟩,.slice a1 n1 c1),(⟨w.heap.size,10,none⟩,.int .i64 T0),(⟨w.heap.size,11,none⟩,.string X2),(⟨w.heap.size,12,none⟩,.int .i64 H0),(⟨w.heap.size,13,none⟩,.int .i64 B0),(⟨w.heap.size,14,none⟩,.bool D0)] V) : Below w.heap.size w V := h.gr
  have k4 : Hid (∀ V,(Hid (HeldS w [(⟨w.heap.size,0,none⟩,.string X0),(⟨w.heap.size,1,none⟩,.string X1),(⟨w.heap.size,2,none⟩,.int .i64 G0),(⟨w.heap.size,3,none⟩,.string Y0),(⟨w.heap.size,4,none⟩,.string Y1),(⟨w.heap.size,5,none⟩,.string Y2),(⟨w.heap.size,6,none⟩,.int .i64 P0),(⟨w.heap.size,7,none⟩,.int .i64 N0),(⟨w.heap.size,8,none⟩,.int .i64 N1),(⟨w.heap.size,9,none⟩,.slice a1 n1 c1),(⟨w.heap.size,10,none⟩,.int .i64 T0),(⟨w.heap.size,11,none⟩,.string X2),(⟨w.heap.size,12,none⟩,.int .i64 H0),(⟨w.heap.size,13,none⟩,.int .i64 B0),(⟨w.heap.size,14,none⟩,.bool D0)] V) /\ V.cell? ⟨w.heap.size,0,none⟩ = some (.string X0) /\ V.cell? ⟨w.heap.size,1,none⟩ = some (.string X1) /\ V.cell? ⟨w.heap.size,2,none⟩ = some (.int .i64 G0) /\ V.cell? ⟨w.heap.size,3,none⟩ = some (.string Y0) /\ V.cell? ⟨w.heap.size,4,none⟩ = some (.string Y1) /\ V.cell? ⟨w.heap.size,5,none⟩ = some (.string Y2) /\ V.cell? ⟨w.heap.size,6,none⟩ = some (.int .i64 P0) /\ V.cell? ⟨w.heap.size,7,none⟩ = some (.int .i64 N0) /\ V.cell? ⟨w.heap.size,8,none⟩ = some (.int .i64 N1) /\ V.cell? ⟨w.heap.size,9,none⟩ = some (.slice a1 n1 c1) /\ V.cell? ⟨w.heap.size,10,none⟩ = some (.int .i64 T0) /\ V.cell? ⟨w.heap.size,11,none⟩ = some (.string X2) /\ V.cell? ⟨w.heap.size,12,none⟩ = some (.int .i64 H0) /\ V.cell? ⟨w.heap.size,13,none⟩ = some (.int .i64 B0) /\ V.cell? ⟨w.heap.size,14,none⟩ = some (.bool D0)) -> Calls Tryz.prog 117 #[.slice a1 n1 c1] V fun e w' => e = .returned (.int .i64 z4) /\ Below V.heap.size V w') := fun V hs => by rw [hz4]; exact poffers_any _ _ V (hq1.below (G V (unhide hs.1)))
  clear hn1 hz2 hz3 hz4 hqo hqb hX0 hX1 hX2 hY0 hY1 hY2 hN0 hN1 hP0 hG0 hB0 hT0 hH0 hD0 hz1 hz5 hz6 hz7 hz8 hq1 G hR hlen
  have sall : Hid (∀ V,HeldS w [(⟨w.heap.size,0,none⟩,.string X0),(⟨w.heap.size,1,none⟩,.string X1),(⟨w.heap.size,2,none⟩,.int .i64 G0),(⟨w.heap.size,3,none⟩,.string Y0),(⟨w.heap.size,4,none⟩,.string Y1),(⟨w.heap.size,5,none⟩,.string Y2),(⟨w.heap.size,6,none⟩,.int .i64 P0),(⟨w.heap.size,7,none⟩,.int .i64 N0),(⟨w.heap.size,8,none⟩,.int .i64 N1),(⟨w.heap.size,9,none⟩,.slice a1 n1 c1),(⟨w.heap.size,10,none⟩,.int .i64 T0),(⟨w.heap.size,11,none⟩,.string X2),(⟨w.heap.size,12,none⟩,.int .i64 H0),(⟨w.heap.size,13,none⟩,.int .i64 B0),(⟨w.heap.size,14,none⟩,.bool D0)] V -> Hid (HeldS w [(⟨w.heap.size,0,none⟩,.string X0),(⟨w.heap.size,1,none⟩,.string X1),(⟨w.heap.size,2,none⟩,.int .i64 G0),(⟨w.heap.size,3,none⟩,.string Y0),(⟨w.heap.size,4,none⟩,.string Y1),(⟨w.heap.size,5,none⟩,.string Y2),(⟨w.heap.size,6,none⟩,.int .i64 P0),(⟨w.heap.size,7,none⟩,.int .i64 N0),(⟨w.heap.size,8,none⟩,.int .i64 N1),(⟨w.heap.size,9,none⟩,.slice a1 n1 c1),(⟨w.heap.size,10,none⟩,.int .i64 T0),(⟨w.heap.size,11,none⟩,.string X2),(⟨w.heap.size,12,none⟩,.int .i64 H0),(⟨w.heap.size,13,none⟩,.int .i64 B0),(⟨w.heap.size,14,none⟩,.bool D0)] V) /\ V.cell? ⟨w.heap.size,0,none⟩ = some (.string X0) /\ V.cell? ⟨w.heap.size,1,none⟩ = some (.string X1) /\ V.cell? ⟨w.heap.size,2,none⟩ = some (.int .i64 G0) /\ V.cell? ⟨w.heap.size,3,none⟩ = some (.string Y0) /\ V.cell? ⟨w.heap.size,4,none⟩ = some (.string Y1) /\ V.cell? ⟨w.heap.size,5,none⟩ = some (.string Y2) /\ V.cell? ⟨w.heap.size,6,none⟩ = some (.int .i64 P0) /\ V.cell? ⟨w.heap.size,7,none⟩ = some (.int .i64 N0) /\ V.cell? ⟨w.heap.size,8,none⟩ = some (.int .i64 N1) /\ V.cell? ⟨w.heap.size,9,none⟩ = some (.slice a1 n1 c1) /\ V.cell? ⟨w.heap.size,10,none⟩ = some (.int .i64 T0) /\ V.cell? ⟨w.heap.size,11,none⟩ = some (.string X2) /\ V.cell? ⟨w.heap.size,12,none⟩ = some (.int .i64 H0) /\ V.cell? ⟨w.heap.size,13,none⟩ = some (.int .i64 B0) /\ V.cell? ⟨w.heap.size,14,none⟩ = some (.bool D0)) := fun V h => ⟨h,h.at 0 rfl,h.at 1 rfl,h.at 2 rfl,h.at 3 rfl,h.at 4 rfl,h.at 5 rfl,h.at 6 rfl,h.at 7 rfl,h.at 8 rfl,h.at 9 rfl,h.at 10 rfl,h.at 11 rfl,h.at 12 rfl,h.at 13 rfl,h.at 14 rfl⟩
  have kdrew : Hid (∀ V,(Hid (HeldS w [(⟨w.heap.size,0,none⟩,.string X0),(⟨w.heap.size,1,none⟩,.string X1),(⟨w.heap.size,2,none⟩,.int .i64 G0),(⟨w.heap.size,3,none⟩,.string Y0),(⟨w.heap.size,4,none⟩,.string Y1),(⟨w.heap.size,5,none⟩,.string Y2),(⟨w.heap.size,6,none⟩,.int .i64 P0),(⟨w.heap.size,7,none⟩,.int .i64 N0),(⟨w.heap.size,8,none⟩,.int .i64 N1),(⟨w.heap.size,9,none⟩,.slice a1 n1 c1),(⟨w.heap.size,10,none⟩,.int .i64 T0),(⟨w.heap.size,11,none⟩,.string X2),(⟨w.heap.size,12,none⟩,.int .i64 H0),(⟨w.heap.size,13,none⟩,.int .i64 B0),(⟨w.heap.size,14,none⟩,.bool D0)] V) /\ V.cell? ⟨w.heap.size,0,none⟩ = some (.string X0) /\ V.cell? ⟨w.heap.size,1,none⟩ = some (.string X1) /\ V.cell? ⟨w.heap.size,2,none⟩ = some (.int .i64 G0) /\ V.cell? ⟨w.heap.size,3,none⟩ = some (.string Y0) /\ V.cell? ⟨w.heap.size,4,none⟩ = some (.string Y1) /\ V.cell? ⟨w.heap.size,5,none⟩ = some (.string Y2) /\ V.cell? ⟨w.heap.size,6,none⟩ = some (.int .i64 P0) /\ V.cell? ⟨w.heap.size,7,none⟩ = some (.int .i64 N0) /\ V.cell? ⟨w.heap.size,8,none⟩ = some (.int .i64 N1) /\ V.cell? ⟨w.heap.size,9,none⟩ = some (.slice a1 n1 c1) /\ V.cell? ⟨w.heap.size,10,none⟩ = some (.int .i64 T0) /\ V.cell? ⟨w.heap.size,11,none⟩ = some (.string X2) /\ V.cell? ⟨w.heap.size,12,none⟩ = some (.int .i64 H0) /\ V.cell? ⟨w.heap.size,13,none⟩ = some (.int .i64 B0) /\ V.cell? ⟨w.heap.size,14,none⟩ = some (.bool D0)) -> Hid (HeldS w [(⟨w.heap.size,0,none⟩,.string X0),(⟨w.heap.size,1,none⟩,.string X1),(⟨w.heap.size,2,none⟩,.int .i64 G0),(⟨w.heap.size,3,none⟩,.string Y0),(⟨w.heap.size,4,none⟩,.string Y1),(⟨w.heap.size,5,none⟩,.string Y2),(⟨w.heap.size,6,none⟩,.int .i64 P0),(⟨w.heap.size,7,none⟩,.int .i64 N0),(⟨w.heap.size,8,none⟩,.int .i64 N1),(⟨w.heap.size,9,none⟩,.slice a1 n1 c1),(⟨w.heap.size,10,none⟩,.int .i64 T0),(⟨w.heap.size,11,none⟩,.string X2),(⟨w.heap.size,12,none⟩,.int .i64 H0),(⟨w.heap.size,13,none⟩,.int .i64 B0),(⟨w.heap.size,14,none⟩,.bool D0)] V.drew) /\ V.drew.cell? ⟨w.heap.size,0,none⟩ = some (.string X0) /\ V.drew.cell? ⟨w.heap.size,1,none⟩ = some (.string X1) /\ V.drew.cell? ⟨w.heap.size,2,none⟩ = some (.int .i64 G0) /\ V.drew.cell? ⟨w.heap.size,3,none⟩ = some (.string Y0) /\ V.drew.cell? ⟨w.heap.size,4,none⟩ = some (.string Y1) /\ V.drew.cell? ⟨w.heap.size,5,none⟩ = some (.string Y2) /\ V.drew.cell? ⟨w.heap.size,6,none⟩ = some (.int .i64 P0) /\ V.drew.cell? ⟨w.heap.size,7,none⟩ = some (.int .i64 N0) /\ V.drew.cell? ⟨w.heap.size,8,none⟩ = some (.int .i64 N1) /\ V.drew.cell? ⟨w.heap.size,9,none⟩ = some (.slice a1 n1 c1) /\ V.drew.cell? ⟨w.heap.size,10,none⟩ = some (.int .i64 T0) /\ V.drew.cell? ⟨w.heap.size,11,none⟩ = some (.string X2) /\ V.drew.cell? ⟨w.heap.size,12,none⟩ = some (.int .i64 H0) /\ V.drew.cell? ⟨w.heap.size,13,none⟩ = some (.int .i64 B0) /\ V.drew.cell? ⟨w.heap.size,14,none⟩ = some (.bool D0)) := fun V h => unhide sall _ (unhide h.1).drew
  have kalloc : Hid (∀ V o,(Hid (HeldS w [(⟨w.heap.size,0,none⟩,.string X0),(⟨w.heap.size,1,none⟩,.string X1),(⟨w.heap.size,2,none⟩,.int .i64 G0),(⟨w.heap.size,3,none⟩,.string Y0),(⟨w.heap.size,4,none⟩,.string Y1),(⟨w.heap.size,5,none⟩,.string Y2),(⟨w.heap.size,6,none⟩,.int .i64 P0),(⟨w.heap.size,7,none⟩,.int .i64 N0),(⟨w.heap.size,8,none⟩,.int .i64 N1),(⟨w.heap.size,9,none⟩,.slice a1 n1 c1),(⟨w.heap.size,10,none⟩,.int .i64 T0),(⟨w.heap.size,11,none⟩,.string X2),(⟨w.heap.size,12,none⟩,.int .i64 H0),(⟨w.heap.size,13,none⟩,.int .i64 B0),(⟨w.heap.size,14,none⟩,.bool D0)] V) /\ V.cell? ⟨w.heap.size,0,none⟩ = some (.string X0) /\ V.cell? ⟨w.heap.size,1,none⟩ = some (.string X1) /\ V.cell? ⟨w.heap.size,2,none⟩ = some (.int .i64 G0) /\ V.cell? ⟨w.heap.size,3,none⟩ = some (.string Y0) /\ V.cell? ⟨w.heap.size,4,none⟩ = some (.string Y1) /\ V.cell? ⟨w.heap.size,5,none⟩ = some (.string Y2) /\ V.cell? ⟨w.heap.size,6,none⟩ = some (.int .i64 P0) /\ V.cell? ⟨w.heap.size,7,none⟩ = some (.int .i64 N0) /\ V.cell? ⟨w.heap.size,8,none⟩ = some (.int .i64 N1) /\ V.cell? ⟨w.heap.size,9,none⟩ = some (.slice a1 n1 c1) /\ V.cell? ⟨w.heap.size,10,none⟩ = some (.int .i64 T0) /\ V.cell? ⟨w.heap.size,11,none⟩ = some (.string X2) /\ V.cell? ⟨w.heap.size,12,none⟩ = some (.int .i64 H0) /\ V.cell? ⟨w.heap.size,13,none⟩ = some (.int .i64 B0) /\ V.cell? ⟨w.heap.size,14,none⟩ = some (.bool D0)) -> Hid (HeldS w [(⟨w.heap.size,0,none⟩,.string X0),(⟨w.heap.size,1,none⟩,.string X1),(⟨w.heap.size,2,none⟩,.int .i64 G0),(⟨w.heap.size,3,none⟩,.string Y0),(⟨w.heap.size,4,none⟩,.string Y1),(⟨w.heap.size,5,none⟩,.string Y2),(⟨w.heap.size,6,none⟩,.int .i64 P0),(⟨w.heap.size,7,none⟩,.int .i64 N0),(⟨w.heap.size,8,none⟩,.int .i64 N1),(⟨w.heap.size,9,none⟩,.slice a1 n1 c1),(⟨w.heap.size,10,none⟩,.int .i64 T0),(⟨w.heap.size,11,none⟩,.string X2),(⟨w.heap.size,12,none⟩,.int .i64 H0),(⟨w.heap.size,13,none⟩,.int .i64 B0),(⟨w.heap.size,14,none⟩,.bool D0)] (V.alloc o)) /\ (V.alloc o).cell? ⟨w.heap.size,0,none⟩ = some (.string X0) /\ (V.alloc o).cell? ⟨w.heap.size,1,none⟩ = some (.string X1) /\ (V.alloc o).cell? ⟨w.heap.size,2,none⟩ = some (.int .i64 G0) /\ (V.alloc o).cell? ⟨w.heap.size,3,none⟩ = some (.string Y0) /\ (V.alloc o).cell? ⟨w.heap.size,4,none⟩ = some (.string Y1) /\ (V.alloc o).cell? ⟨w.heap.size,5,none⟩ = some (.string Y2) /\ (V.alloc o).cell? ⟨w.heap.size,6,none⟩ = some (.int .i64 P0) /\ (V.alloc o).cell? ⟨w.heap.size,7,none⟩ = some (.int .i64 N0) /\ (V.alloc o).cell? ⟨w.heap.size,8,none⟩ = some (.int .i64 N1) /\ (V.alloc o).cell? ⟨w.heap.size,9,none⟩ = some (.slice a1 n1 c1) /\ (V.alloc o).cell? ⟨w.heap.size,10,none⟩ = some (.int .i64 T0) /\ (V.alloc o).cell? ⟨w.heap.size,11,none⟩ = some (.string X2) /\ (V.alloc o).cell? ⟨w.heap.size,12,none⟩ = some (.int .i64 H0) /\ (V.alloc o).cell? ⟨w.heap.size,13,none⟩ = some (.int .i64 B0) /\ (V.alloc o).cell? ⟨w.heap.size,14,none⟩ = some (.bool D0)) := fun V o h => unhide sall _ ((unhide h.1).alloc o)
  have kcall : Hid (∀ V V',(Hid (HeldS w [(⟨w.heap.size,0,none⟩,.string X0),(⟨w.heap.size,1,none⟩,.string X1),(⟨w.heap.size,2,none⟩,.int .i64 G0),(⟨w.heap.size,3,none⟩,.string Y0),(⟨w.heap.size,4,none⟩,.string Y1),(⟨w.heap.size,5,none⟩,.string Y2),(⟨w.heap.size,6,none⟩,.int .i64 P0),(⟨w.heap.size,7,none⟩,.int .i64 N0),(⟨w.heap.size,8,none⟩,.int .i64 N1),(⟨w.heap.size,9,none⟩,.slice a1 n1 c1),(⟨w.heap.size,10,none⟩,.int .i64 T0),(⟨w.heap.size,11,none⟩,.string X2),(⟨w.heap.size,12,none⟩,.int .i64 H0),(⟨w.heap.size,13,none⟩,.int .i64 B0),(⟨w.heap.size,14,none⟩,.bool D0)] V) /\ V.cell? ⟨w.heap.size,0,none⟩ = some (.string X0) /\ V.cell? ⟨w.heap.size,1,none⟩ = some (.string X1) /\ V.cell? ⟨w.heap.size,2,none⟩ = some (.int .i64 G0) /\ V.cell? ⟨w.heap.size,3,none⟩ = some (.string Y0) /\ V.cell? ⟨w.heap.size,4,none⟩ = some (.string Y1) /\ V.cell? ⟨w.heap.size,5,none⟩ = some (.string Y2) /\ V.cell? ⟨w.heap.size,6,none⟩ = some (.int .i64 P0) /\ V.cell? ⟨w.heap.size,7,none⟩ = some (.int .i64 N0) /\ V.cell? ⟨w.heap.size,8,none⟩ = some (.int .i64 N1) /\ V.cell? ⟨w.heap.size,9,none⟩ = some (.slice a1 n1 c1) /\ V.cell? ⟨w.heap.size,10,none⟩ = some (.int .i64 T0) /\ V.cell? ⟨w.heap.size,11,none⟩ = some (.string X2) /\ V.cell? ⟨w.heap.size,12,none⟩ = some (.int .i64 H0) /\ V.cell? ⟨w.heap.size,13,none⟩ = some (.int .i64 B0) /\ V.cell? ⟨w.heap.size,14,none⟩ = some (.bool D0)) -> Below V.heap.size V V' -> Hid (HeldS w [(⟨w.heap.size,0,none⟩,.string X0),(⟨w.heap.size,1,none⟩,.string X1),(⟨w.heap.size,2,none⟩,.int .i64 G0),(⟨w.heap.size,3,none⟩,.string Y0),(⟨w.heap.size,4,none⟩,.string Y1),(⟨w.heap.size,5,none⟩,.string Y2),(⟨w.heap.size,6,none⟩,.int .i64 P0),(⟨w.heap.size,7,none⟩,.int .i64 N0),(⟨w.heap.size,8,none⟩,.int .i64 N1),(⟨w.heap.size,9,none⟩,.slice a1 n1 c1),(⟨w.heap.size,10,none⟩,.int .i64 T0),(⟨w.heap.size,11,none⟩,.string X2),(⟨w.heap.size,12,none⟩,.int .i64 H0),(⟨w.heap.size,13,none⟩,.int .i64 B0),(⟨w.heap.size,14,none⟩,.bool D0)] V') /\ V'.cell? ⟨w.heap.size,0,none⟩ = some (.string X0) /\ V'.cell? ⟨w.heap.size,1,none⟩ = some (.string X1) /\ V'.cell? ⟨w.heap.size,2,none⟩ = some (.int .i64 G0) /\ V'.cell? ⟨w.heap.size,3,none⟩ = some (.string Y0) /\ V'.cell? ⟨w.heap.size,4,none⟩ = some (.string Y1) /\ V'.cell? ⟨w.heap.size,5,none⟩ = some (.string Y2) /\ V'.cell? ⟨w.heap.size,6,none⟩ = some (.int .i64 P0) /\ V'.cell? ⟨w.heap.size,7,none⟩ = some (.int .i64 N0) /\ V'.cell? ⟨w.heap.size,8,none⟩ = some (.int .i64 N1) /\ V'.cell? ⟨w.heap.size,9,none⟩ = some (.slice a1 n1 c1) /\ V'.cell? ⟨w.heap.size,10,none⟩ = some (.int .i64 T0) /\ V'.cell? ⟨w.heap.size,11,none⟩ = some (.string X2) /\ V'.cell? ⟨w.heap.size,12,none⟩ = some (.int .i64 H0) /\ V'.cell? ⟨w.heap.size,13,none⟩ = some (.int .i64 B0) /\ V'.cell? ⟨w.heap.size,14,none⟩ = some (.bool D0)) := fun V V' h hb => unhide sall _ ((unhide h.1).below hb)
  have hS : Hid (HeldS w [(⟨w.heap.size,0,none⟩,.string X0),(⟨w.heap.size,1,none⟩,.string X1),(⟨w.heap.size,2,none⟩,.int .i64 G0),(⟨w.heap.size,3,none⟩,.string Y0),(⟨w.heap.size,4,none⟩,.string Y1),(⟨w.heap.size,5,none⟩,.string Y2),(⟨w.heap.size,6,none⟩,.int .i64 P0),(⟨w.heap.size,7,none⟩,.int .i64 N0),(⟨w.heap.size,8,none⟩,.int .i64 N1),(⟨w.heap.size,9,none⟩,.slice a1 n1 c1),(⟨w.heap.size,10,none⟩,.int .i64 T0),(⟨w.heap.size,11,none⟩,.string X2),(⟨w.heap.size,12,none⟩,.int .i64 H0),(⟨w.heap.size,13,none⟩,.int .i64 B0),(⟨w.heap.size,14,none⟩,.bool D0)] (w.alloc (.cells #[.string X0,.string X1,.int .i64 G0,.string Y0,.string Y1,.string Y2,.int .i64 P0,.int .i64 N0,.int .i64 N1,.slice a1 n1 c1,.int .i64 T0,.string X2,.int .i64 H0,.int .i64 B0,.bool D0] 37))) /\ (w.alloc (.cells #[.string X0,.string X1,.int .i64 G0,.string Y0,.string Y1,.string Y2,.int .i64 P0,.int .i64 N0,.int .i64 N1,.slice a1 n1 c1,.int .i64 T0,.string X2,.int .i64 H0,.int .i64 B0,.bool D0] 37)).cell? ⟨w.heap.size,0,none⟩ = some (.string X0) /\ (w.alloc (.cells #[.string X0,.string X1,.int .i64 G0,.string Y0,.string Y1,.string Y2,.int .i64 P0,.int .i64 N0,.int .i64 N1,.slice a1 n1 c1,.int .i64 T0,.string X2,.int .i64 H0,.int .i64 B0,.bool D0] 37)).cell? ⟨w.heap.size,1,none⟩ = some (.string X1) /\ (w.alloc (.cells #[.string X0,.string X1,.int .i64 G0,.string Y0,.string Y1,.string Y2,.int .i64 P0,.int .i64 N0,.int .i64 N1,.slice a1 n1 c1,.int .i64 T0,.string X2,.int .i64 H0,.int .i64 B0,.bool D0] 37)).cell? ⟨w.heap.size,2,none⟩ = some (.int .i64 G0) /\ (w.alloc (.cells #[.string X0,.string X1,.int .i64 G0,.string Y0,.string Y1,.string Y2,.int .i64 P0,.int .i64 N0,.int .i64 N1,.slice a1 n1 c1,.int .i64 T0,.string X2,.int .i64 H0,.int .i64 B0,.bool D0] 37)).cell? ⟨w.heap.size,3,none⟩ = some (.string Y0) /\ (w.alloc (.cells #[.string X0,.string X1,.int .i64 G0,.string Y0,.string Y1,.string Y2,.int .i64 P0,.int .i64 N0,.int .i64 N1,.slice a1 n1 c1,.int .i64 T0,.string X2,.int .i64 H0,.int .i64 B0,.bool D0] 37)).cell? ⟨w.heap.size,4,none⟩ = some (.string Y1) /\ (w.alloc (.cells #[.string X0,.string X1,.int .i64 G0,.string Y0,.string Y1,.string Y2,.int .i64 P0,.int .i64 N0,.int .i64 N1,.slice a1 n1 c1,.int .i64 T0,.string X2,.int .i64 H0,.int .i64 B0,.bool D0] 37)).cell? ⟨w.heap.size,5,none⟩ = some (.string Y2) /\ (w.alloc (.cells #[.string X0,.string X1,.int .i64 G0,.string Y0,.string Y1,.string Y2,.int .i64 P0,.int .i64 N0,.int .i64 N1,.slice a1 n1 c1,.int .i64 T0,.string X2,.int .i64 H0,.int .i64 B0,.bool D0] 37)).cell? ⟨w.heap.size,6,none⟩ = some (.int .i64 P0) /\ (w.alloc (.cells #[.string X0,.string X1,.int .i64 G0,.string Y0,.string Y1,.string Y2,.int .i64 P0,.int .i64 N0,.int .i64 N1,.slice a1 n1 c1,.int .i64 T0,.string X2,.int .i64 H0,.int .i64 B0,.bool D0] 37)).cell? ⟨w.heap.size,7,none⟩ = some (.int .i64 N0) /\ (w.alloc (.cells #[.string X0,.string X1,.int .i64 G0,.string Y0,.string Y1,.string Y2,.int .i64 P0,.int .i64 N0,.int .i64 N1,.slice a1 n1 c1,.int .i64 T0,.string X2,.int .i64 H0,.int .i64 B0,.bool D0] 37)).cell? ⟨w.heap.size,8,none⟩ = some (.int .i64 N1) /\ (w.alloc (.cells #[.string X0,.string X1,.int .i64 G0,.string Y0,.string Y1,.string Y2,.int .i64 P0,.int .i64 N0,.int .i64 N1,.slice a1 n1 c1,.int .i64 T0,.string X2,.int .i64 H0,.int .i64 B0,.bool D0] 37)).cell? ⟨w.heap.size,9,none⟩ = some (.slice a1 n1 c1) /\ (w.alloc (.cells #[.string X0,.string X1,.int .i64 G0,.string Y0,.string Y1,.string Y2,.int .i64 P0,.int .i64 N0,.int .i64 N1,.slice a1 n1 c1,.int .i64 T0,.string X2,.int .i64 H0,.int .i64 B0,.bool D0] 37)).cell? ⟨w.heap.size,10,none⟩ = some (.int .i64 T0) /\ (w.alloc (.cells #[.string X0,.string X1,.int .i64 G0,.string Y0,.string Y1,.string Y2,.int .i64 P0,.int .i64 N0,.int .i64 N1,.slice a1 n1 c1,.int .i64 T0,.string X2,.int .i64 H0,.int .i64 B0,.bool D0] 37)).cell? ⟨w.heap.size,11,none⟩ = some (.string X2) /\ (w.alloc (.cells #[.string X0,.string X1,.int .i64 G0,.string Y0,.string Y1,.string Y2,.int .i64 P0,.int .i64 N0,.int .i64 N1,.slice a1 n1 c1,.int .i64 T0,.string X2,.int .i64 H0,.int .i64 B0,.bool D0] 37)).cell? ⟨w.heap.size,12,none⟩ = some (.int .i64 H0) /\ (w.alloc (.cells #[.string X0,.string X1,.int .i64 G0,.string Y0,.string Y1,.string Y2,.int .i64 P0,.int .i64 N0,.int .i64 N1,.slice a1 n1 c1,.int .i64 T0,.string X2,.int .i64 H0,.int .i64 B0,.bool D0] 37)).cell? ⟨w.heap.size,13,none⟩ = some (.int .i64 B0) /\ (w.alloc (.cells #[.string X0,.string X1,.int .i64 G0,.string Y0,.string Y1,.string Y2,.int .i64 P0,.int .i64 N0,.int .i64 N1,.slice a1 n1 c1,.int .i64 T0,.string X2,.int .i64 H0,.int .i64 B0,.bool D0] 37)).cell? ⟨w.heap.size,14,none⟩ = some (.bool D0) := unhide sall _ ⟨boxb _,fun x hx => by simp only [List.mem_cons,List.not_mem_nil,or_false] at hx; rcases hx with rfl | rfl | rfl | rfl | rfl | rfl | rfl | rfl | rfl | rfl | rfl | rfl | rfl | rfl | rfl <;> simp [go_sem]⟩
  clear sall
  go_enter Tryz.func65,Tryz.ntmps65
  go_wp2_with fail
  refine wp_region_noPanic ?_
  refine wp_region_held_drew (S := fun V => Hid (HeldS w [(⟨w.heap.size,0,none⟩,.string X0),(⟨w.heap.size,1,none⟩,.string X1),(⟨w.heap.size,2,none⟩,.int .i64 G0),(⟨w.heap.size,3,none⟩,.string Y0),(⟨w.heap.size,4,none⟩,.string Y1),(⟨w.heap.size,5,none⟩,.string Y2),(⟨w.heap.size,6,none⟩,.int .i64 P0),(⟨w.heap.size,7,none⟩,.int .i64 N0),(⟨w.heap.size,8,none⟩,.int .i64 N1),(⟨w.heap.size,9,none⟩,.slice a1 n1 c1),(⟨w.heap.size,10,none⟩,.int .i64 T0),(⟨w.heap.size,11,none⟩,.string X2),(⟨w.heap.size,12,none⟩,.int .i64 H0),(⟨w.heap.size,13,none⟩,.int .i64 B0),(⟨w.heap.size,14,none⟩,.bool D0)] V) /\ V.cell? ⟨w.heap.size,0,none⟩ = some (.string X0) /\ V.cell? ⟨w.heap.size,1,none⟩ = some (.string X1) /\ V.cell? ⟨w.heap.size,2,none⟩ = some (.int .i64 G0) /\ V.cell? ⟨w.heap.size,3,none⟩ = some (.string Y0) /\ V.cell? ⟨w.heap.size,4,none⟩ = some (.string Y1) /\ V.cell? ⟨w.heap.size,5,none⟩ = some (.string Y2) /\ V.cell? ⟨w.heap.size,6,none⟩ = some (.int .i64 P0) /\ V.cell? ⟨w.heap.size,7,none⟩ = some (.int .i64 N0) /\ V.cell? ⟨w.heap.size,8,none⟩ = some (.int .i64 N1) /\ V.cell? ⟨w.heap.size,9,none⟩ = some (.slice a1 n1 c1) /\ V.cell? ⟨w.heap.size,10,none⟩ = some (.int .i64 T0) /\ V.cell? ⟨w.heap.size,11,none⟩ = some (.string X2) /\ V.cell? ⟨w.heap.size,12,none⟩ = some (.int .i64 H0) /\ V.cell? ⟨w.heap.size,13,none⟩ = some (.int .i64 B0) /\ V.cell? ⟨w.heap.size,14,none⟩ = some (.bool D0)) (by kernel_rfl) (unhide kdrew _ hS) (fun hHeld0 => ?_)
  refine takeH6 (i := 0) (d := 3) (v := ?_) rfl rfl (by kernel_rfl) (by kernel_rfl) (by kernel_rfl) (fun _ _ _ h => h) (Or.inl ⟨by rfl,?_⟩) (by assumption) ?_
  rotate_left
  · (intro W hSW; (try dsimp only at hSW); go_simp; try (with_reducible rfl))
  try simp only [Act.put,List.setIfInBounds_toArray,List.set_cons_zero,List.set_cons_succ]
  refine takeH6 (i := 1) (d := 4) (v := ?_) rfl rfl (by kernel_rfl) (by kernel_rfl) (by kernel_rfl) (fun _ _ _ h => h) (Or.inl ⟨by rfl,?_⟩) (by assumption) ?_
  rotate_left
  · (intro W hSW; (try dsimp only at hSW); go_simp; try (with_reducible rfl))
  try simp only [Act.put,List.setIfInBounds_toArray,List.set_cons_zero,List.set_cons_succ]
  refine takeH6 (i := 2) (d := 5) (v := ?_) rfl rfl (by kernel_rfl) (by kernel_rfl) (by kernel_rfl) (fun _ _ _ h => h) (Or.inl ⟨by rfl,?_⟩) (by assumption) ?_
  rotate_left
  · (intro W hSW; (try dsimp only at hSW); go_simp; try (with_reducible rfl))
  try simp only [Act.put,List.setIfInBounds_toArray,List.set_cons_zero,List.set_cons_succ]
  refine takeH6 (i := 3) (d := 6) (v := ?_) rfl rfl (by kernel_rfl) (by kernel_rfl) (by kernel_rfl) (fun _ _ _ h => h) (Or.inl ⟨by rfl,?_⟩) (by assumption) ?_
  rotate_left
  · (intro W hSW; (try dsimp only at hSW); go_simp; try (with_reducible rfl))
  try simp only [Act.put,List.setIfInBounds_toArray,List.set_cons_zero,List.set_cons_succ]
  refine takeH6 (i := 12) (d := 15) (v := ?_) rfl rfl (by kernel_rfl) (by kernel_rfl) (by kernel_rfl) (fun _ _ _ h => h) (Or.inl ⟨by rfl,?_⟩) (by assumption) ?_
  rotate_left
  · (intro W hSW; (try dsimp only at hSW); go_simp; try (with_reducible rfl))
  try simp only [Act.put,List.setIfInBounds_toArray,List.set_cons_zero,List.set_cons_succ]
  refine takeH6 (i := 13) (d := 16) (v := ?_) rfl rfl (by kernel_rfl) (by kernel_rfl) (by kernel_rfl) (fun _ _ _ h => h) (Or.inl ⟨by rfl,?_⟩) (by assumption) ?_
  rotate_left
  · (intro W hSW; (try dsimp only at hSW); go_simp; try (with_reducible rfl))
  try simp only [Act.put,List.setIfInBounds_toArray,List.set_cons_zero,List.set_cons_succ]
  refine takeH6 (i := 15) (d := 18) (v := ?_) rfl rfl (by kernel_rfl) (by kernel_rfl) (by kernel_rfl) (fun _ _ _ h => h) (Or.inl ⟨by rfl,?_⟩) (by assumption) ?_
  rotate_left
  · (intro W hSW; (try dsimp only at hSW); go_simp; try (with_reducible rfl))
  try simp only [Act.put,List.setIfInBounds_toArray,List.set_cons_zero,List.set_cons_succ]
  refine takeH6 (i := 16) (d := 19) (v := ?_) rfl rfl (by kernel_rfl) (by kernel_rfl) (by kernel_rfl) (fun _ _ _ h => h) (Or.inl ⟨by rfl,?_⟩) (by assumption) ?_
  rotate_left
  · (intro W hSW; (try dsimp only at hSW); go_simp; try (with_reducible rfl))
  try simp only [Act.put,List.setIfInBounds_toArray,List.set_cons_zero,List.set_cons_succ]
  refine takeH6 (i := 18) (d := 21) (v := ?_) rfl rfl (by kernel_rfl) (by kernel_rfl) (by kernel_rfl) (fun _ _ _ h => h) (Or.inl ⟨by rfl,?_⟩) (by assumption) ?_
  rotate_left
  · (intro W hSW; (try dsimp only at hSW); go_simp; try (with_reducible rfl))
  try simp only [Act.put,List.setIfInBounds_toArray,List.set_cons_zero,List.set_cons_succ]
  refine takeH6 (i := 19) (d := 22) (v := ?_) rfl rfl (by kernel_rfl) (by kernel_rfl) (by kernel_rfl) (fun _ _ _ h => h) (Or.inl ⟨by rfl,?_⟩) (by assumption) ?_
  rotate_left
  · (intro W hSW; (try dsimp only at hSW); go_simp; try (with_reducible rfl))
  try simp only [Act.put,List.setIfInBounds_toArray,List.set_cons_zero,List.set_cons_succ]
  refine takeH6 (i := 21) (d := 24) (v := ?_) rfl rfl (by kernel_rfl) (by kernel_rfl) (by kernel_rfl) (fun _ _ _ h => h) (Or.inl ⟨by rfl,?_⟩) (by assumption) ?_
  rotate_left
  · (intro W hSW; (try dsimp only at hSW); go_simp; try (with_reducible rfl))
  try simp only [Act.put,List.setIfInBounds_toArray,List.set_cons_zero,List.set_cons_succ]
  refine takeH6 (i := 22) (d := 25) (v := ?_) rfl rfl (by kernel_rfl) (by kernel_rfl) (by kernel_rfl) (fun _ _ _ h => h) (Or.inl ⟨by rfl,?_⟩) (by assumption) ?_
  rotate_left
  · (intro W hSW; (try dsimp only at hSW); go_simp; try (with_reducible rfl))
  try simp only [Act.put,List.setIfInBounds_toArray,List.set_cons_zero,List.set_cons_succ]
  refine takeH6 (i := 25) (d := 28) (v := ?_) rfl rfl (by kernel_rfl) (by kernel_rfl) (by kernel_rfl) (fun _ _ _ h => h) (Or.inl ⟨by rfl,?_⟩) (by assumption) ?_
  rotate_left
  · (intro W hSW; (try dsimp only at hSW); go_simp; try (with_reducible rfl))
  try simp only [Act.put,List.setIfInBounds_toArray,List.set_cons_zero,List.set_cons_succ]
  refine takeH6 (i := 26) (d := 29) (v := ?_) rfl rfl (by kernel_rfl) (by kernel_rfl) (by kernel_rfl) (fun _ _ _ h => h) (Or.inl ⟨by rfl,?_⟩) (by assumption) ?_
  rotate_left
  · (intro W hSW; (try dsimp only at hSW); go_simp; try (with_reducible rfl))
  try simp only [Act.put,List.setIfInBounds_toArray,List.set_cons_zero,List.set_cons_succ]
  refine takeH6 (i := 27) (d := 30) (v := ?_) rfl rfl (by kernel_rfl) (by kernel_rfl) (by kernel_rfl) (fun _ _ _ h => h) (Or.inl ⟨by rfl,?_⟩) (by assumption) ?_
  rotate_left
  · (intro W hSW; (try dsimp only at hSW); go_simp; try (with_reducible rfl))
  try simp only [Act.put,List.setIfInBounds_toArray,List.set_cons_zero,List.set_cons_succ]
  refine takeH6 (i := 28) (d := 31) (v := ?_) rfl rfl (by kernel_rfl) (by kernel_rfl) (by kernel_rfl) (fun _ _ _ h => h) (Or.inl ⟨by rfl,?_⟩) (by assumption) ?_
  rotate_left
  · (intro W hSW; (try dsimp only at hSW); go_simp; try (with_reducible rfl))
  try simp only [Act.put,List.setIfInBounds_toArray,List.set_cons_zero,List.set_cons_succ]
  refine takeH6 (i := 30) (d := 33) (v := ?_) rfl rfl (by kernel_rfl) (by kernel_rfl) (by kernel_rfl) (fun _ _ _ h => h) (Or.inl ⟨by rfl,?_⟩) (by assumption) ?_
  rotate_left
  · (intro W hSW; (try dsimp only at hSW); go_simp; try (with_reducible rfl))
  try simp only [Act.put,List.setIfInBounds_toArray,List.set_cons_zero,List.set_cons_succ]
  refine takeH6 (i := 31) (d := 34) (v := ?_) rfl rfl (by kernel_rfl) (by kernel_rfl) (by kernel_rfl) (fun _ _ _ h => h) (Or.inl ⟨by rfl,?_⟩) (by assumption) ?_
  rotate_left
  · (intro W hSW; (try dsimp only at hSW); go_simp; try (with_reducible rfl))
  try simp only [Act.put,List.setIfInBounds_toArray,List.set_cons_zero,List.set_cons_succ]
  refine takeH6 (i := 34) (d := 37) (v := ?_) rfl rfl (by kernel_rfl) (by kernel_rfl) (by kernel_rfl) (fun _ _ _ h => h) (Or.inl ⟨by rfl,?_⟩) (by assumption) ?_
  rotate_left
  · (intro W hSW; (try dsimp only at hSW); go_simp; try (with_reducible rfl))
  try simp only [Act.put,List.setIfInBounds_toArray,List.set_cons_zero,List.set_cons_succ]
  refine takeH6 (i := 35) (d := 38) (v := ?_) rfl rfl (by kernel_rfl) (by kernel_rfl) (by kernel_rfl) (fun _ _ _ h => h) (Or.inl ⟨by rfl,?_⟩) (by assumption) ?_
  rotate_left
  · (intro W hSW; (try dsimp only at hSW); go_simp; try (with_reducible rfl))
  try simp only [Act.put,List.setIfInBounds_toArray,List.set_cons_zero,List.set_cons_succ]
  refine wpAnyH_ready (rs := [4]) (by kernel_rfl) (by simp) ?_
  refine AllReadyH.cons (o := _) rfl (fun K hK => ?_) AllReadyH.nil
  go_simp
  refine hK.out _ _ ?_ (fun hHeld1 => ?_)
  · (try dsimp only)
    (first | (with_reducible exact hS) | (with_reducible assumption) | (with_reducible refine unhide kdrew _ ?_; with_reducible assumption) | (with_reducible refine unhide kalloc _ _ ?_; with_reducible assumption) | (refine unhide kcall _ _ ?_ (by assumption); with_reducible assumption) | (with_reducible refine unhide kdrew _ (unhide kalloc _ _ ?_); with_reducible assumption) | (with_reducible refine unhide kalloc _ _ (unhide kdrew _ ?_); with_reducible assumption))
  clear hK K hHeld0
  try simp only [Act.put,List.setIfInBounds_toArray,List.set_cons_zero,List.set_cons_succ]
  refine wpAnyH_ready (rs := [5]) (by kernel_rfl) (by simp) ?_
  refine AllReadyH.cons (o := _) rfl (fun K hK => ?_) AllReadyH.nil
  go_simp
  (go_at_call 104; refine (unhide cNm _ _ (by simp [go_sem]) (by simp [go_sem])).mono ?_; rintro e w9 ⟨rfl,rfl⟩)
  refine hK.out _ _ ?_ (fun hHeld2 => ?_)
  · (try dsimp only)
    (first | (with_reducible exact hS) | (with_reducible assumption) | (with_reducible refine unhide kdrew _ ?_; with_reducible assumption) | (with_reducible refine unhide kalloc _ _ ?_; with_reducible assumption) | (refine unhide kcall _ _ ?_ (by assumption); with_reducible assumption) | (with_reducible refine unhide kdrew _ (unhide kalloc _ _ ?_); with_reducible assumption) | (with_reducible refine unhide kalloc _ _ (unhide kdrew _ ?_); with_reducible assumption))
  clear hK K hHeld1
  try simp only [Act.put,List.setIfInBounds_toArray,List.set_cons_zero,List.set_cons_succ]
  refine takeH6 (i := 6) (d := 9) (v := ?_) rfl rfl (by kernel_rfl) (by kernel_rfl) (by kernel_rfl) (fun _ _ _ h => h) (Or.inl ⟨by rfl,?_⟩) (by assumption) ?_
  rotate_left
  · (intro W hSW; (try dsimp only at hSW); go_simp; try (with_reducible rfl))
  try simp only [Act.put,List.setIfInBounds_toArray,List.set_cons_zero,List.set_cons_succ]
  refine takeH6 (i := 7) (d := 10) (v := ?_) rfl rfl (by kernel_rfl) (by kernel_rfl) (by kernel_rfl) (fun _ _ _ h => h) (Or.inl ⟨by rfl,?_⟩) (by assumption) ?_
  rotate_left
  · (intro W hSW; (try dsimp only at hSW); go_simp; try (with_reducible rfl))
  try simp only [Act.put,List.setIfInBounds_toArray,List.set_cons_zero,List.set_cons_succ]
  refine takeH6 (i := 8) (d := 11) (v := ?_) rfl rfl (by kernel_rfl) (by kernel_rfl) (by kernel_rfl) (fun _ _ _ h => h) (Or.inl ⟨by rfl,?_⟩) (by assumption) ?_
  rotate_left
  · (intro W hSW; (try dsimp only at hSW); go_simp; try (with_reducible rfl))
  try simp only [Act.put,List.setIfInBounds_toArray,List.set_cons_zero,List.set_cons_succ]
  refine wpAnyH_ready (rs := [9]) (by kernel_rfl) (by simp) ?_
  refine AllReadyH.cons (o := _) rfl (fun K hK => ?_) AllReadyH.nil
  go_simp
  (go_at_call 115; refine (unhide kO _).mono ?_; rintro e w9 ⟨rfl,hw9⟩)
  refine hK.out _ _ ?_ (fun hHeld3 => ?_)
  · (try dsimp only)
    (first | (with_reducible exact hS) | (with_reducible assumption) | (with_reducible refine unhide kdrew _ ?_; with_reducible assumption) | (with_reducible refine unhide kalloc _ _ ?_; with_reducible assumption) | (refine unhide kcall _ _ ?_ (by assumption); with_reducible assumption) | (with_reducible refine unhide kdrew _ (unhide kalloc _ _ ?_); with_reducible assumption) | (with_reducible refine unhide kalloc _ _ (unhide kdrew _ ?_); with_reducible assumption))
  clear hK K hHeld2 hw9
  try simp only [Act.put,List.setIfInBounds_toArray,List.set_cons_zero,List.set_cons_succ]
  refine takeH6 (i := 10) (d := 13) (v := ?_) rfl rfl (by kernel_rfl) (by kernel_rfl) (by kernel_rfl) (fun _ _ _ h => h) (Or.inl ⟨by rfl,?_⟩) (by assumption) ?_
  rotate_left
  · (intro W hSW; (try dsimp only at hSW); go_simp; try (with_reducible rfl))
  try simp only [Act.put,List.setIfInBounds_toArray,List.set_cons_zero,List.set_cons_succ]
  refine wpAnyH_ready (rs := [11]) (by kernel_rfl) (by simp) ?_
  refine AllReadyH.cons (o := _) rfl (fun K hK => ?_) AllReadyH.nil
  go_simp
  (go_at_call 103; refine (unhide cU1 _ _ _ (by rfl) (by rfl)).mono ?_; rintro e w9 ⟨rfl,rfl⟩)
  refine hK.out _ _ ?_ (fun hHeld4 => ?_)
  · (try dsimp only)
    (first | (with_reducible exact hS) | (with_reducible assumption) | (with_reducible refine unhide kdrew _ ?_; with_reducible assumption) | (with_reducible refine unhide kalloc _ _ ?_; with_reducible assumption) | (refine unhide kcall _ _ ?_ (by assumption); with_reducible assumption) | (with_reducible refine unhide kdrew _ (unhide kalloc _ _ ?_); with_reducible assumption) | (with_reducible refine unhide kalloc _ _ (unhide kdrew _ ?_); with_reducible assumption))
  clear hK K hHeld3
  try simp only [Act.put,List.setIfInBounds_toArray,List.set_cons_zero,List.set_cons_succ]
  refine wpAnyH_ready (rs := [14]) (by kernel_rfl) (by simp) ?_
  refine AllReadyH.cons (o := _) rfl (fun K hK => ?_) AllReadyH.nil
  go_simp
  (go_at_call 116; refine (unhide k2 _).mono ?_; rintro e w9 ⟨rfl,rfl⟩)
  refine hK.out _ _ ?_ (fun hHeld5 => ?_)
  · (try dsimp only)
    (first | (with_reducible exact hS) | (with_reducible assumption) | (with_reducible refine unhide kdrew _ ?_; with_reducible assumption) | (with_reducible refine unhide kalloc _ _ ?_; with_reducible assumption) | (refine unhide kcall _ _ ?_ (by assumption); with_reducible assumption) | (with_reducible refine unhide kdrew _ (unhide kalloc _ _ ?_); with_reducible assumption) | (with_reducible refine unhide kalloc _ _ (unhide kdrew _ ?_); with_reducible assumption))
  clear hK K hHeld4
  try simp only [Act.put,List.setIfInBounds_toArray,List.set_cons_zero,List.set_cons_succ]
  refine wpAnyH_ready (rs := [17]) (by kernel_rfl) (by simp) ?_
  refine AllReadyH.cons (o := _) rfl (fun K hK => ?_) AllReadyH.nil
  go_simp
  (go_at_call 105; refine (unhide k3 _).mono ?_; rintro e w9 ⟨rfl,hw9⟩)
  refine hK.out _ _ ?_ (fun hHeld6 => ?_)
  · (try dsimp only)
    (first | (with_reducible exact hS) | (with_reducible assumption) | (with_reducible refine unhide kdrew _ ?_; with_reducible assumption) | (with_reducible refine unhide kalloc _ _ ?_; with_reducible assumption) | (refine unhide kcall _ _ ?_ (by assumption); with_reducible assumption) | (with_reducible refine unhide kdrew _ (unhide kalloc _ _ ?_); with_reducible assumption) | (with_reducible refine unhide kalloc _ _ (unhide kdrew _ ?_); with_reducible assumption))
  clear hK K hHeld5 hw9
  try simp only [Act.put,List.setIfInBounds_toArray,List.set_cons_zero,List.set_cons_succ]
  refine wpAnyH_ready (rs := [20]) (by kernel_rfl) (by simp) ?_
  refine AllReadyH.cons (o := _) rfl (fun K hK => ?_) AllReadyH.nil
  go_simp
  (go_at_call 117; with_reducible refine (unhide k4 _ ?_).mono ?_; with_reducible assumption; rintro e w9 ⟨rfl,hw9⟩)
  refine hK.out _ _ ?_ (fun hHeld7 => ?_)
  · (try dsimp only)
    (first | (with_reducible exact hS) | (with_reducible assumption) | (with_reducible refine unhide kdrew _ ?_; with_reducible assumption) | (with_reducible refine unhide kalloc _ _ ?_; with_reducible assumption) | (refine unhide kcall _ _ ?_ (by assumption); with_reducible assumption) | (with_reducible refine unhide kdrew _ (unhide kalloc _ _ ?_); with_reducible assumption) | (with_reducible refine unhide kalloc _ _ (unhide kdrew _ ?_); with_reducible assumption))
  clear hK K hHeld6 hw9
  try simp only [Act.put,List.setIfInBounds_toArray,List.set_cons_zero,List.set_cons_succ]
  refine wpAnyH_ready (rs := [23]) (by kernel_rfl) (by simp) ?_
  refine AllReadyH.cons (o := _) rfl (fun K hK => ?_) AllReadyH.nil
  go_simp
  (go_at_call 106; refine (btw_any _ _ _ _).mono ?_; rintro e w9 ⟨rfl,rfl⟩)
  refine hK.out _ _ ?_ (fun hHeld8 => ?_)
  · (try dsimp only)
    (first | (with_reducible exact hS) | (with_reducible assumption) | (with_reducible refine unhide kdrew _ ?_; with_reducible assumption) | (with_reducible refine unhide kalloc _ _ ?_; with_reducible assumption) | (refine unhide kcall _ _ ?_ (by assumption); with_reducible assumption) | (with_reducible refine unhide kdrew _ (unhide kalloc _ _ ?_); with_reducible assumption) | (with_reducible refine unhide kalloc _ _ (unhide kdrew _ ?_); with_reducible assumption))
  clear hK K hHeld7
  try simp only [Act.put,List.setIfInBounds_toArray,List.set_cons_zero,List.set_cons_succ]
  refine wpAnyH_ready (rs := [24]) (by kernel_rfl) (by simp) ?_
  refine AllReadyH.cons (o := _) rfl (fun K hK => ?_) AllReadyH.nil
  go_simp
  (go_at_call 103; refine (unhide cU5 _ _ _ (by rfl) (by rfl)).mono ?_; rintro e w9 ⟨rfl,rfl⟩)
  refine hK.out _ _ ?_ (fun hHeld9 => ?_)
  · (try dsimp only)
    (first | (with_reducible exact hS) | (with_reducible assumption) | (with_reducible refine unhide kdrew _ ?_; with_reducible assumption) | (with_reducible refine unhide kalloc _ _ ?_; with_reducible assumption) | (refine unhide kcall _ _ ?_ (by assumption); with_reducible assumption) | (with_reducible refine unhide kdrew _ (unhide kalloc _ _ ?_); with_reducible assumption) | (with_reducible refine unhide kalloc _ _ (unhide kdrew _ ?_); with_reducible assumption))
  clear hK K hHeld8
  try simp only [Act.put,List.setIfInBounds_toArray,List.set_cons_zero,List.set_cons_succ]
  refine wpAnyH_ready (rs := [29]) (by kernel_rfl) (by simp) ?_
  refine AllReadyH.cons (o := _) rfl (fun K hK => ?_) AllReadyH.nil
  go_simp
  (go_at_call 103; refine (unhide cU6 _ _ _ (by rfl) (by rfl)).mono ?_; rintro e w9 ⟨rfl,rfl⟩)
  refine hK.out _ _ ?_ (fun hHeld10 => ?_)
  · (try dsimp only)
    (first | (with_reducible exact hS) | (with_reducible assumption) | (with_reducible refine unhide kdrew _ ?_; with_reducible assumption) | (with_reducible refine unhide kalloc _ _ ?_; with_reducible assumption) | (refine unhide kcall _ _ ?_ (by assumption); with_reducible assumption) | (with_reducible refine unhide kdrew _ (unhide kalloc _ _ ?_); with_reducible assumption) | (with_reducible refine unhide kalloc _ _ (unhide kdrew _ ?_); with_reducible assumption))
  clear hK K hHeld9
  try simp only [Act.put,List.setIfInBounds_toArray,List.set_cons_zero,List.set_cons_succ]
  refine wpAnyH_ready (rs := [32]) (by kernel_rfl) (by simp) ?_
  refine AllReadyH.cons (o := _) rfl (fun K hK => ?_) AllReadyH.nil
  go_simp
  (go_at_call 106; refine (btw_any _ _ _ _).mono ?_; rintro e w9 ⟨rfl,rfl⟩)
  refine hK.out _ _ ?_ (fun hHeld11 => ?_)
  · (try dsimp only)
    (first | (with_reducible exact hS) | (with_reducible assumption) | (with_reducible refine unhide kdrew _ ?_; with_reducible assumption) | (with_reducible refine unhide kalloc _ _ ?_; with_reducible assumption) | (refine unhide kcall _ _ ?_ (by assumption); with_reducible assumption) | (with_reducible refine unhide kdrew _ (unhide kalloc _ _ ?_); with_reducible assumption) | (with_reducible refine unhide kalloc _ _ (unhide kdrew _ ?_); with_reducible assumption))
  clear hK K hHeld10
  try simp only [Act.put,List.setIfInBounds_toArray,List.set_cons_zero,List.set_cons_succ]
  refine wpAnyH_ready (rs := [33]) (by kernel_rfl) (by simp) ?_
  refine AllReadyH.cons (o := _) rfl (fun K hK => ?_) AllReadyH.nil
  go_simp
  (go_at_call 103; refine (unhide cU7 _ _ _ (by rfl) (by rfl)).mono ?_; rintro e w9 ⟨rfl,rfl⟩)
  refine hK.out _ _ ?_ (fun hHeld12 => ?_)
  · (try dsimp only)
    (first | (with_reducible exact hS) | (with_reducible assumption) | (with_reducible refine unhide kdrew _ ?_; with_reducible assumption) | (with_reducible refine unhide kalloc _ _ ?_; with_reducible assumption) | (refine unhide kcall _ _ ?_ (by assumption); with_reducible assumption) | (with_reducible refine unhide kdrew _ (unhide kalloc _ _ ?_); with_reducible assumption) | (with_reducible refine unhide kalloc _ _ (unhide kdrew _ ?_); with_reducible assumption))
  clear hK K hHeld11
  try simp only [Act.put,List.setIfInBounds_toArray,List.set_cons_zero,List.set_cons_succ]
  refine wpAnyH_ready (rs := [36]) (by kernel_rfl) (by simp) ?_
  refine AllReadyH.cons (o := _) rfl (fun K hK => ?_) AllReadyH.nil
  go_simp
  (go_at_call 111; refine (unhide kT _ _ (by rfl)).mono ?_; rintro e w9 ⟨rfl,rfl⟩)
  refine hK.out _ _ ?_ (fun hHeld13 => ?_)
  · (try dsimp only)
    (first | (with_reducible exact hS) | (with_reducible assumption) | (with_reducible refine unhide kdrew _ ?_; with_reducible assumption) | (with_reducible refine unhide kalloc _ _ ?_; with_reducible assumption) | (refine unhide kcall _ _ ?_ (by assumption); with_reducible assumption) | (with_reducible refine unhide kdrew _ (unhide kalloc _ _ ?_); with_reducible assumption) | (with_reducible refine unhide kalloc _ _ (unhide kdrew _ ?_); with_reducible assumption))
  clear hK K hHeld12
  try simp only [Act.put,List.setIfInBounds_toArray,List.set_cons_zero,List.set_cons_succ]
  refine takeH6 (i := 37) (d := 40) (v := ?_) rfl rfl (by kernel_rfl) (by kernel_rfl) (by kernel_rfl) (fun _ _ _ h => h) (Or.inl ⟨by rfl,?_⟩) (by assumption) ?_
  rotate_left
  · (intro W hSW; (try dsimp only at hSW); go_simp; try (with_reducible rfl))
  try simp only [Act.put,List.setIfInBounds_toArray,List.set_cons_zero,List.set_cons_succ]
  refine takeH6 (i := 38) (d := 41) (v := ?_) rfl rfl (by kernel_rfl) (by kernel_rfl) (by kernel_rfl) (fun _ _ _ h => h) (Or.inl ⟨by rfl,?_⟩) (by assumption) ?_
  rotate_left
  · (intro W hSW; (try dsimp only at hSW); go_simp; try (with_reducible rfl))
  try simp only [Act.put,List.setIfInBounds_toArray,List.set_cons_zero,List.set_cons_succ]
  refine takeH6 (i := 39) (d := 42) (v := ?_) rfl rfl (by kernel_rfl) (by kernel_rfl) (by kernel_rfl) (fun _ _ _ h => h) (Or.inl ⟨by rfl,?_⟩) (by assumption) ?_
  rotate_left
  · (intro W hSW; (try dsimp only at hSW); go_simp; try (with_reducible rfl))
  try simp only [Act.put,List.setIfInBounds_toArray,List.set_cons_zero,List.set_cons_succ]
  refine wpAnyH_ready (rs := [40]) (by kernel_rfl) (by simp) ?_
  refine AllReadyH.cons (o := _) rfl (fun K hK => ?_) AllReadyH.nil
  go_simp
  (go_at_call 111; refine (unhide kB _ _ (by rfl)).mono ?_; rintro e w9 ⟨rfl,rfl⟩)
  refine hK.out _ _ ?_ (fun hHeld14 => ?_)
  · (try dsimp only)
    (first | (with_reducible exact hS) | (with_reducible assumption) | (with_reducible refine unhide kdrew _ ?_; with_reducible assumption) | (with_reducible refine unhide kalloc _ _ ?_; with_reducible assumption) | (refine unhide kcall _ _ ?_ (by assumption); with_reducible assumption) | (with_reducible refine unhide kdrew _ (unhide kalloc _ _ ?_); with_reducible assumption) | (with_reducible refine unhide kalloc _ _ (unhide kdrew _ ?_); with_reducible assumption))
  clear hK K hHeld13
  try simp only [Act.put,List.setIfInBounds_toArray,List.set_cons_zero,List.set_cons_succ]
  refine takeH6 (i := 41) (d := 44) (v := ?_) rfl rfl (by kernel_rfl) (by kernel_rfl) (by kernel_rfl) (fun _ _ _ h => h) (Or.inl ⟨by rfl,?_⟩) (by assumption) ?_
  rotate_left
  · (intro W hSW; (try dsimp only at hSW); go_simp; try (with_reducible rfl))
  try simp only [Act.put,List.setIfInBounds_toArray,List.set_cons_zero,List.set_cons_succ]
  refine wpAnyH_ready (rs := [42]) (by kernel_rfl) (by simp) ?_
  refine AllReadyH.cons (o := _) rfl (fun K hK => ?_) AllReadyH.nil
  go_simp
  (go_at_call 103; refine (unhide cU8 _ _ _ (by rfl) (by rfl)).mono ?_; rintro e w9 ⟨rfl,rfl⟩)
  refine hK.out _ _ ?_ (fun hHeld15 => ?_)
  · (try dsimp only)
    (first | (with_reducible exact hS) | (with_reducible assumption) | (with_reducible refine unhide kdrew _ ?_; with_reducible assumption) | (with_reducible refine unhide kalloc _ _ ?_; with_reducible assumption) | (refine unhide kcall _ _ ?_ (by assumption); with_reducible assumption) | (with_reducible refine unhide kdrew _ (unhide kalloc _ _ ?_); with_reducible assumption) | (with_reducible refine unhide kalloc _ _ (unhide kdrew _ ?_); with_reducible assumption))
  clear hK K hHeld14
  try simp only [Act.put,List.setIfInBounds_toArray,List.set_cons_zero,List.set_cons_succ]
  refine wpAnyH_ready (rs := [43]) (by kernel_rfl) (by simp) ?_
  refine AllReadyH.cons (o := _) rfl (fun K hK => ?_) AllReadyH.nil
  go_simp
  refine hK.out _ _ ?_ (fun hHeld16 => ?_)
  · (try dsimp only)
    (first | (with_reducible exact hS) | (with_reducible assumption) | (with_reducible refine unhide kdrew _ ?_; with_reducible assumption) | (with_reducible refine unhide kalloc _ _ ?_; with_reducible assumption) | (refine unhide kcall _ _ ?_ (by assumption); with_reducible assumption) | (with_reducible refine unhide kdrew _ (unhide kalloc _ _ ?_); with_reducible assumption) | (with_reducible refine unhide kalloc _ _ (unhide kdrew _ ?_); with_reducible assumption))
  clear hK K hHeld15
  try simp only [Act.put,List.setIfInBounds_toArray,List.set_cons_zero,List.set_cons_succ]
  refine wpAnyH_ready (rs := [44]) (by kernel_rfl) (by simp) ?_
  refine AllReadyH.cons (o := _) rfl (fun K hK => ?_) AllReadyH.nil
  go_simp
  (go_at_call 102; refine (unhide cOr _ _ (by simp [go_sem]) (by simp [go_sem]) (by simp [go_sem]) (by simp [go_sem]) (by simp [go_sem]) (by simp [go_sem]) (by simp [go_sem]) (by simp [go_sem])).mono ?_; rintro e w9 ⟨rfl,rfl⟩)
  refine hK.out _ _ ?_ (fun hHeld17 => ?_)
  · (try dsimp only)
    (first | (with_reducible exact hS) | (with_reducible assumption) | (with_reducible refine unhide kdrew _ ?_; with_reducible assumption) | (with_reducible refine unhide kalloc _ _ ?_; with_reducible assumption) | (refine unhide kcall _ _ ?_ (by assumption); with_reducible assumption) | (with_reducible refine unhide kdrew _ (unhide kalloc _ _ ?_); with_reducible assumption) | (with_reducible refine unhide kalloc _ _ (unhide kdrew _ ?_); with_reducible assumption))
  clear hK K hHeld16
  try simp only [Act.put,List.setIfInBounds_toArray,List.set_cons_zero,List.set_cons_succ]
  refine takeH6 (i := 45) (d := 2) (v := ?_) rfl rfl (by kernel_rfl) (by kernel_rfl) (by kernel_rfl) (fun _ _ _ h => h) (Or.inl ⟨by rfl,?_⟩) (by assumption) ?_
  rotate_left
  · (intro W hSW; (try dsimp only at hSW); go_simp; try (with_reducible rfl))
  try simp only [Act.put,List.setIfInBounds_toArray,List.set_cons_zero,List.set_cons_succ]
  refine wpAnyH_done (by kernel_rfl) ?_ _
  refine NoPanic.normal ?_
  have hHeld := hHeld17
  clear hHeld17

  go_wp2_with fail
  go_ret
  exact ⟨rfl,(unhide hHeld.1).gr⟩
end Go.Proofs.YtfpfdnapamdhjaaGreatDoor

/- Layer 8: the program's Claim,one way of four -/
namespace Go.Proofs.YtfpfdnapamdhjaaGreatDoor
open Go.RowKit Suf Val

set_option maxRecDepth 100000 in
set_option maxHeartbeats 64000000 in
theorem pclaim_B (p : VClaim) (u1 : Value) (w : World) (h : ClmIn w p u1) (hA : (nameB p.name && nameB p.pool) = true) (hB : timeB p.gen = false) :
    Calls Tryz.prog 65 #[clmA p u1] w fun e w' => e = .returned (.int .i64 (claimR p)) /\ Below w.heap.size w w' := by
  have hR : Hid (claimR p = orE [unl ((nameB p.name && nameB p.pool) && namedO p.offer) 7,Am.chk p.price,Am.chkA p.cap.1 p.cap.2,offsR8 p.opts,unl (btwB 1 p.tryN 32) 1,unl (decide (p.id.length <= 16)) 2,unl (btwB 1 p.phase 4) 1,unl (timeB p.gen && timeB p.born) 1]) := rfl
  obtain ⟨R,hRR⟩ : ∃ R,R = claimR p := ⟨_,rfl⟩
  rw [<- hRR,hA,hB] at hR
  rw [<- hRR]
  clear hRR
  have cNm := hide (names2 p.name p.pool h.n1 h.n2)
  rw [hA] at cNm
  have kO := hide (poffer_any p.offer · h.of)
  have k2 := hide (Am.check_any p.price)
  have k3 := hide (Am.checkAll_any p.cap.1 p.cap.2)
  have kT : Hid (∀ V vv,vv = .int .i64 p.gen -> Calls Tryz.prog 111 #[vv] V fun e w' => e = .returned (.bool false) /\ w' = V) := fun V vv e => by rw [e,<- hB]; exact time_any _ V
  have kB : Hid (∀ V vv,vv = .int .i64 p.born -> Calls Tryz.prog 111 #[vv] V fun e w' => e = .returned (.bool (timeB p.born)) /\ w' = V) := fun V vv e => by rw [e]; exact time_any _ V
  have hlen : p.id.length = (bytesT p.id).size := (bytesT_size p.id).symm
  have hq1 := h.ops
  obtain ⟨a1,c1,hu1⟩ := h.ops.val
  obtain ⟨n1,hn1⟩ : ∃ n,n = p.opts.length := ⟨_,rfl⟩
  unfold clmA
  rw [hu1]
  rw [hu1,<- hn1] at hq1
  rw [<- hn1]
  clear hu1 h hA hB
  obtain ⟨z2,hz2⟩ : ∃ z,z = Am.chk p.price := ⟨_,rfl⟩
  obtain ⟨z3,hz3⟩ : ∃ z,z = Am.chkA p.cap.1 p.cap.2 := ⟨_,rfl⟩
  obtain ⟨z4,hz4⟩ : ∃ z,z = offsR8 p.opts := ⟨_,rfl⟩
  obtain ⟨qo,hqo⟩ : ∃ z,z = namedO p.offer := ⟨_,rfl⟩
  obtain ⟨qb,hqb⟩ : ∃ z,z = timeB p.born := ⟨_,rfl⟩
  obtain ⟨X0,hX0⟩ : ∃ z,z = bytesT p.name := ⟨_,rfl⟩
  obtain ⟨X1,hX1⟩ : ∃ z,z = bytesT p.pool := ⟨_,rfl⟩
  obtain ⟨X2,hX2⟩ : ∃ z,z = bytesT p.id := ⟨_,rfl⟩
  obtain ⟨Y0,hY0⟩ : ∃ z,z = bytesT p.offer.1 := ⟨_,rfl⟩
  obtain ⟨Y1,hY1⟩ : ∃ z,z = bytesT p.offer.2.1 := ⟨_,rfl⟩
  obtain ⟨Y2,hY2⟩ : ∃ z,z = bytesT p.offer.2.2 := ⟨_,rfl⟩
  obtain ⟨N0,hN0⟩ : ∃ z,z = p.cap.1 := ⟨_,rfl⟩
  obtain ⟨N1,hN1⟩ : ∃ z,z = p.cap.2 := ⟨_,rfl⟩
  obtain ⟨P0,hP0⟩ : ∃ z,z = p.price := ⟨_,rfl⟩
  obtain ⟨G0,hG0⟩ : ∃ z,z = p.gen := ⟨_,rfl⟩
  obtain ⟨B0,hB0⟩ : ∃ z,z = p.born := ⟨_,rfl⟩
  obtain ⟨T0,hT0⟩ : ∃ z,z = p.tryN := ⟨_,rfl⟩
  obtain ⟨H0,hH0⟩ : ∃ z,z = p.phase := ⟨_,rfl⟩
  obtain ⟨D0,hD0⟩ : ∃ z,z = p.marked := ⟨_,rfl⟩
  rw [<- hz2,<- hz3,<- hz4,<- hqo,<- hqb,<- hT0,<- hH0,hlen,<- hX2] at hR
  unfold offA at kO
  rw [<- hX0,<- hX1] at cNm
  rw [<- hqo,<- hY0,<- hY1,<- hY2] at kO
  rw [<- hz2,<- hP0] at k2
  rw [<- hz3,<- hN0,<- hN1] at k3
  rw [<- hG0] at kT
  rw [<- hqb,<- hB0] at kB
  rw [<- hX0,<- hX1,<- hX2,<- hY0,<- hY1,<- hY2,<- hP0,<- hN0,<- hN1,<- hG0,<- hT0,<- hH0,<- hB0,<- hD0]
  obtain ⟨z1,hz1⟩ : ∃ z,z = unl (true && qo) 7 := ⟨_,rfl⟩
  obtain ⟨z5,hz5⟩ : ∃ z,z = unl (btwB 1 T0 32) 1 := ⟨_,rfl⟩
  obtain ⟨z6,hz6⟩ : ∃ z,z = unl (decide (X2.size <= 16)) 2 := ⟨_,rfl⟩
  obtain ⟨z7,hz7⟩ : ∃ z,z = unl (btwB 1 H0 4) 1 := ⟨_,rfl⟩
  obtain ⟨z8,hz8⟩ : ∃ z,z = unl (false && qb) 1 := ⟨_,rfl⟩
  rw [<- hz1,<- hz5,<- hz6,<- hz7,<- hz8] at hR
  have cU1 : Hid (∀ V bb ee,bb = .bool qo -> ee = .int .i64 7 -> Calls Tryz.prog 103 #[bb,ee] V fun r w' => r = .returned (.int .i64 z1) /\ w' = V) := fun V bb ee e1 e2 => by rw [e1,e2,hz1]; exact unless_any qo 7 V
  have cU8 : Hid (∀ V bb ee,bb = .bool false -> ee = .int .i64 1 -> Calls Tryz.prog 103 #[bb,ee] V fun r w' => r = .returned (.int .i64 z8) /\ w' = V) := fun V bb ee e1 e2 => by rw [e1,e2,hz8]; exact unless_any false 1 V
  have cU6 : Hid (∀ V bb ee,bb = .bool (decide ((X2.size : Int) <= 16)) -> ee = .int .i64 2 -> Calls Tryz.prog 103 #[bb,ee] V fun r w' => r = .returned (.int .i64 z6) /\ w' = V) := fun V bb ee e1 e2 => by
    rw [e1,e2,hz6,show decide ((X2.size : Int) <= 16) = decide (X2.size <= 16) by rw [decide_eq_decide]; omega]
    exact unless_any _ 2 V
  have cU5 : Hid (∀ V bb ee,bb = .bool (btwB 1 T0 32) -> ee = .int .i64 1 -> Calls Tryz.prog 103 #[bb,ee] V fun r w' => r = .returned (.int .i64 z5) /\ w' = V) := fun V bb ee e1 e2 => by rw [e1,e2,hz5]; exact unless_any (btwB 1 T0 32) 1 V
  have cU7 : Hid (∀ V bb ee,bb = .bool (btwB 1 H0 4) -> ee = .int .i64 1 -> Calls Tryz.prog 103 #[bb,ee] V fun r w' => r = .returned (.int .i64 z7) /\ w' = V) := fun V bb ee e1 e2 => by rw [e1,e2,hz7]; exact unless_any (btwB 1 H0 4) 1 V
  have cOr : Hid (∀ V B,V.cell? ⟨B,0,none⟩ = some (.int .i64 z1) -> V.cell? ⟨B,1,none⟩ = some (.int .i64 z2) -> V.cell? ⟨B,2,none⟩ = some (.int .i64 z3) -> V.cell? ⟨B,3,none⟩ = some (.int .i64 z4) -> V.cell? ⟨B,4,none⟩ = some (.int .i64 z5) -> V.cell? ⟨B,5,none⟩ = some (.int .i64 z6) -> V.cell? ⟨B,6,none⟩ = some (.int .i64 z7) -> V.cell? ⟨B,7,none⟩ = some (.int .i64 z8) -> Calls Tryz.prog 102 #[.slice (some ⟨B,0,none⟩) 8 8] V fun r w' => r = .returned (.int .i64 R) /\ w' = V) := fun V B g0 g1 g2 g3 g4 g5 g6 g7 => by rw [unhide hR]; exact or8_8 z1 z2 z3 z4 z5 z6 z7 z8 g0 g1 g2 g3 g4 g5 g6 g7
  have G (V : World) (h : HeldS w [(⟨w.heap.size,0,none⟩,.string X0),(⟨w.heap.size,1,none⟩,.string X1),(⟨w.heap.size,2,none⟩,.int .i64 G0),(⟨w.heap.size,3,none⟩,.string Y0),(⟨w.heap.size,4,none⟩,.string Y1),(⟨w.heap.size,5,none⟩,.string Y2),(⟨w.heap.size,6,none⟩,.int .i64 P0),(⟨w.heap.size,7,none⟩,.int .i64 N0),(⟨w.heap.size,8,none⟩,.int .i64 N1),(⟨w.heap.size,9,none⟩,.slice a1 n1 c1),(⟨w.heap.size,10,none⟩,.int .i64 T0),(⟨w.heap.size,11,none⟩,.string X2),(⟨w.heap.size,12,none⟩,.int .i64 H0),(⟨w.heap.size,13,none⟩,.int .i64 B0),(⟨w.heap.size,14,none⟩,.bool D0)] V) : Below w.heap.size w V := h.gr
  have k4 : Hid (∀ V,(Hid (HeldS w [(⟨w.heap.size,0,none⟩,.string X0),(⟨w.heap.size,1,none⟩,.string X1),(⟨w.heap.size,2,none⟩,.int .i64 G0),(⟨w.heap.size,3,none⟩,.string Y0),(⟨w.heap.size,4,none⟩,.string Y1),(⟨w.heap.size,5,none⟩,.string Y2),(⟨w.heap.size,6,none⟩,.int .i64 P0),(⟨w.heap.size,7,none⟩,.int .i64 N0),(⟨w.heap.size,8,none⟩,.int .i64 N1),(⟨w.heap.size,9,none⟩,.slice a1 n1 c1),(⟨w.heap.size,10,none⟩,.int .i64 T0),(⟨w.heap.size,11,none⟩,.string X2),(⟨w.heap.size,12,none⟩,.int .i64 H0),(⟨w.heap.size,13,none⟩,.int .i64 B0),(⟨w.heap.size,14,none⟩,.bool D0)] V) /\ V.cell? ⟨w.heap.size,0,none⟩ = some (.string X0) /\ V.cell? ⟨w.heap.size,1,none⟩ = some (.string X1) /\ V.cell? ⟨w.heap.size,2,none⟩ = some (.int .i64 G0) /\ V.cell? ⟨w.heap.size,3,none⟩ = some (.string Y0) /\ V.cell? ⟨w.heap.size,4,none⟩ = some (.string Y1) /\ V.cell? ⟨w.heap.size,5,none⟩ = some (.string Y2) /\ V.cell? ⟨w.heap.size,6,none⟩ = some (.int .i64 P0) /\ V.cell? ⟨w.heap.size,7,none⟩ = some (.int .i64 N0) /\ V.cell? ⟨w.heap.size,8,none⟩ = some (.int .i64 N1) /\ V.cell? ⟨w.heap.size,9,none⟩ = some (.slice a1 n1 c1) /\ V.cell? ⟨w.heap.size,10,none⟩ = some (.int .i64 T0) /\ V.cell? ⟨w.heap.size,11,none⟩ = some (.string X2) /\ V.cell? ⟨w.heap.size,12,none⟩ = some (.int .i64 H0) /\ V.cell? ⟨w.heap.size,13,none⟩ = some (.int .i64 B0) /\ V.cell? ⟨w.heap.size,14,none⟩ = some (.bool D0)) -> Calls Tryz.prog 117 #[.slice a1 n1 c1] V fun e w' => e = .returned (.int .i64 z4) /\ Below V.heap.size V w') := fun V hs => by rw [hz4]; exact poffers_any _ _ V (hq1.below (G V (unhide hs.1)))
  clear hn1 hz2 hz3 hz4 hqo hqb hX0 hX1 hX2 hY0 hY1 hY2 hN0 hN1 hP0 hG0 hB0 hT0 hH0 hD0 hz1 hz5 hz6 hz7 hz8 hq1 G hR hlen
  have sall : Hid (∀ V,HeldS w [(⟨w.heap.size,0,none⟩,.string X0),(⟨w.heap.size,1,none⟩,.string X1),(⟨w.heap.size,2,none⟩,.int .i64 G0),(⟨w.heap.size,3,none⟩,.string Y0),(⟨w.heap.size,4,none⟩,.string Y1),(⟨w.heap.size,5,none⟩,.string Y2),(⟨w.heap.size,6,none⟩,.int .i64 P0),(⟨w.heap.size,7,none⟩,.int .i64 N0),(⟨w.heap.size,8,none⟩,.int .i64 N1),(⟨w.heap.size,9,none⟩,.slice a1 n1 c1),(⟨w.heap.size,10,none⟩,.int .i64 T0),(⟨w.heap.size,11,none⟩,.string X2),(⟨w.heap.size,12,none⟩,.int .i64 H0),(⟨w.heap.size,13,none⟩,.int .i64 B0),(⟨w.heap.size,14,none⟩,.bool D0)] V -> Hid (HeldS w [(⟨w.heap.size,0,none⟩,.string X0),(⟨w.heap.size,1,none⟩,.string X1),(⟨w.heap.size,2,none⟩,.int .i64 G0),(⟨w.heap.size,3,none⟩,.string Y0),(⟨w.heap.size,4,none⟩,.string Y1),(⟨w.heap.size,5,none⟩,.string Y2),(⟨w.heap.size,6,none⟩,.int .i64 P0),(⟨w.heap.size,7,none⟩,.int .i64 N0),(⟨w.heap.size,8,none⟩,.int .i64 N1),(⟨w.heap.size,9,none⟩,.slice a1 n1 c1),(⟨w.heap.size,10,none⟩,.int .i64 T0),(⟨w.heap.size,11,none⟩,.string X2),(⟨w.heap.size,12,none⟩,.int .i64 H0),(⟨w.heap.size,13,none⟩,.int .i64 B0),(⟨w.heap.size,14,none⟩,.bool D0)] V) /\ V.cell? ⟨w.heap.size,0,none⟩ = some (.string X0) /\ V.cell? ⟨w.heap.size,1,none⟩ = some (.string X1) /\ V.cell? ⟨w.heap.size,2,none⟩ = some (.int .i64 G0) /\ V.cell? ⟨w.heap.size,3,none⟩ = some (.string Y0) /\ V.cell? ⟨w.heap.size,4,none⟩ = some (.string Y1) /\ V.cell? ⟨w.heap.size,5,none⟩ = some (.string Y2) /\ V.cell? ⟨w.heap.size,6,none⟩ = some (.int .i64 P0) /\ V.cell? ⟨w.heap.size,7,none⟩ = some (.int .i64 N0) /\ V.cell? ⟨w.heap.size,8,none⟩ = some (.int .i64 N1) /\ V.cell? ⟨w.heap.size,9,none⟩ = some (.slice a1 n1 c1) /\ V.cell? ⟨w.heap.size,10,none⟩ = some (.int .i64 T0) /\ V.cell? ⟨w.heap.size,11,none⟩ = some (.string X2) /\ V.cell? ⟨w.heap.size,12,none⟩ = some (.int .i64 H0) /\ V.cell? ⟨w.heap.size,13,none⟩ = some (.int .i64 B0) /\ V.cell? ⟨w.heap.size,14,none⟩ = some (.bool D0)) := fun V h => ⟨h,h.at 0 rfl,h.at 1 rfl,h.at 2 rfl,h.at 3 rfl,h.at 4 rfl,h.at 5 rfl,h.at 6 rfl,h.at 7 rfl,h.at 8 rfl,h.at 9 rfl,h.at 10 rfl,h.at 11 rfl,h.at 12 rfl,h.at 13 rfl,h.at 14 rfl⟩
  have kdrew : Hid (∀ V,(Hid (HeldS w [(⟨w.heap.size,0,none⟩,.string X0),(⟨w.heap.size,1,none⟩,.string X1),(⟨w.heap.size,2,none⟩,.int .i64 G0),(⟨w.heap.size,3,none⟩,.string Y0),(⟨w.heap.size,4,none⟩,.string Y1),(⟨w.heap.size,5,none⟩,.string Y2),(⟨w.heap.size,6,none⟩,.int .i64 P0),(⟨w.heap.size,7,none⟩,.int .i64 N0),(⟨w.heap.size,8,none⟩,.int .i64 N1),(⟨w.heap.size,9,none⟩,.slice a1 n1 c1),(⟨w.heap.size,10,none⟩,.int .i64 T0),(⟨w.heap.size,11,none⟩,.string X2),(⟨w.heap.size,12,none⟩,.int .i64 H0),(⟨w.heap.size,13,none⟩,.int .i64 B0),(⟨w.heap.size,14,none⟩,.bool D0)] V) /\ V.cell? ⟨w.heap.size,0,none⟩ = some (.string X0) /\ V.cell? ⟨w.heap.size,1,none⟩ = some (.string X1) /\ V.cell? ⟨w.heap.size,2,none⟩ = some (.int .i64 G0) /\ V.cell? ⟨w.heap.size,3,none⟩ = some (.string Y0) /\ V.cell? ⟨w.heap.size,4,none⟩ = some (.string Y1) /\ V.cell? ⟨w.heap.size,5,none⟩ = some (.string Y2) /\ V.cell? ⟨w.heap.size,6,none⟩ = some (.int .i64 P0) /\ V.cell? ⟨w.heap.size,7,none⟩ = some (.int .i64 N0) /\ V.cell? ⟨w.heap.size,8,none⟩ = some (.int .i64 N1) /\ V.cell? ⟨w.heap.size,9,none⟩ = some (.slice a1 n1 c1) /\ V.cell? ⟨w.heap.size,10,none⟩ = some (.int .i64 T0) /\ V.cell? ⟨w.heap.size,11,none⟩ = some (.string X2) /\ V.cell? ⟨w.heap.size,12,none⟩ = some (.int .i64 H0) /\ V.cell? ⟨w.heap.size,13,none⟩ = some (.int .i64 B0) /\ V.cell? ⟨w.heap.size,14,none⟩ = some (.bool D0)) -> Hid (HeldS w [(⟨w.heap.size,0,none⟩,.string X0),(⟨w.heap.size,1,none⟩,.string X1),(⟨w.heap.size,2,none⟩,.int .i64 G0),(⟨w.heap.size,3,none⟩,.string Y0),(⟨w.heap.size,4,none⟩,.string Y1),(⟨w.heap.size,5,none⟩,.string Y2),(⟨w.heap.size,6,none⟩,.int .i64 P0),(⟨w.heap.size,7,none⟩,.int .i64 N0),(⟨w.heap.size,8,none⟩,.int .i64 N1),(⟨w.heap.size,9,none⟩,.slice a1 n1 c1),(⟨w.heap.size,10,none⟩,.int .i64 T0),(⟨w.heap.size,11,none⟩,.string X2),(⟨w.heap.size,12,none⟩,.int .i64 H0),(⟨w.heap.size,13,none⟩,.int .i64 B0),(⟨w.heap.size,14,none⟩,.bool D0)] V.drew) /\ V.drew.cell? ⟨w.heap.size,0,none⟩ = some (.string X0) /\ V.drew.cell? ⟨w.heap.size,1,none⟩ = some (.string X1) /\ V.drew.cell? ⟨w.heap.size,2,none⟩ = some (.int .i64 G0) /\ V.drew.cell? ⟨w.heap.size,3,none⟩ = some (.string Y0) /\ V.drew.cell? ⟨w.heap.size,4,none⟩ = some (.string Y1) /\ V.drew.cell? ⟨w.heap.size,5,none⟩ = some (.string Y2) /\ V.drew.cell? ⟨w.heap.size,6,none⟩ = some (.int .i64 P0) /\ V.drew.cell? ⟨w.heap.size,7,none⟩ = some (.int .i64 N0) /\ V.drew.cell? ⟨w.heap.size,8,none⟩ = some (.int .i64 N1) /\ V.drew.cell? ⟨w.heap.size,9,none⟩ = some (.slice a1 n1 c1) /\ V.drew.cell? ⟨w.heap.size,10,none⟩ = some (.int .i64 T0) /\ V.drew.cell? ⟨w.heap.size,11,none⟩ = some (.string X2) /\ V.drew.cell? ⟨w.heap.size,12,none⟩ = some (.int .i64 H0) /\ V.drew.cell? ⟨w.heap.size,13,none⟩ = some (.int .i64 B0) /\ V.drew.cell? ⟨w.heap.size,14,none⟩ = some (.bool D0)) := fun V h => unhide sall _ (unhide h.1).drew
  have kalloc : Hid (∀ V o,(Hid (HeldS w [(⟨w.heap.size,0,none⟩,.string X0),(⟨w.heap.size,1,none⟩,.string X1),(⟨w.heap.size,2,none⟩,.int .i64 G0),(⟨w.heap.size,3,none⟩,.string Y0),(⟨w.heap.size,4,none⟩,.string Y1),(⟨w.heap.size,5,none⟩,.string Y2),(⟨w.heap.size,6,none⟩,.int .i64 P0),(⟨w.heap.size,7,none⟩,.int .i64 N0),(⟨w.heap.size,8,none⟩,.int .i64 N1),(⟨w.heap.size,9,none⟩,.slice a1 n1 c1),(⟨w.heap.size,10,none⟩,.int .i64 T0),(⟨w.heap.size,11,none⟩,.string X2),(⟨w.heap.size,12,none⟩,.int .i64 H0),(⟨w.heap.size,13,none⟩,.int .i64 B0),(⟨w.heap.size,14,none⟩,.bool D0)] V) /\ V.cell? ⟨w.heap.size,0,none⟩ = some (.string X0) /\ V.cell? ⟨w.heap.size,1,none⟩ = some (.string X1) /\ V.cell? ⟨w.heap.size,2,none⟩ = some (.int .i64 G0) /\ V.cell? ⟨w.heap.size,3,none⟩ = some (.string Y0) /\ V.cell? ⟨w.heap.size,4,none⟩ = some (.string Y1) /\ V.cell? ⟨w.heap.size,5,none⟩ = some (.string Y2) /\ V.cell? ⟨w.heap.size,6,none⟩ = some (.int .i64 P0) /\ V.cell? ⟨w.heap.size,7,none⟩ = some (.int .i64 N0) /\ V.cell? ⟨w.heap.size,8,none⟩ = some (.int .i64 N1) /\ V.cell? ⟨w.heap.size,9,none⟩ = some (.slice a1 n1 c1) /\ V.cell? ⟨w.heap.size,10,none⟩ = some (.int .i64 T0) /\ V.cell? ⟨w.heap.size,11,none⟩ = some (.string X2) /\ V.cell? ⟨w.heap.size,12,none⟩ = some (.int .i64 H0) /\ V.cell? ⟨w.heap.size,13,none⟩ = some (.int .i64 B0) /\ V.cell? ⟨w.heap.size,14,none⟩ = some (.bool D0)) -> Hid (HeldS w [(⟨w.heap.size,0,none⟩,.string X0),(⟨w.heap.size,1,none⟩,.string X1),(⟨w.heap.size,2,none⟩,.int .i64 G0),(⟨w.heap.size,3,none⟩,.string Y0),(⟨w.heap.size,4,none⟩,.string Y1),(⟨w.heap.size,5,none⟩,.string Y2),(⟨w.heap.size,6,none⟩,.int .i64 P0),(⟨w.heap.size,7,none⟩,.int .i64 N0),(⟨w.heap.size,8,none⟩,.int .i64 N1),(⟨w.heap.size,9,none⟩,.slice a1 n1 c1),(⟨w.heap.size,10,none⟩,.int .i64 T0),(⟨w.heap.size,11,none⟩,.string X2),(⟨w.heap.size,12,none⟩,.int .i64 H0),(⟨w.heap.size,13,none⟩,.int .i64 B0),(⟨w.heap.size,14,none⟩,.bool D0)] (V.alloc o)) /\ (V.alloc o).cell? ⟨w.heap.size,0,none⟩ = some (.string X0) /\ (V.alloc o).cell? ⟨w.heap.size,1,none⟩ = some (.string X1) /\ (V.alloc o).cell? ⟨w.heap.size,2,none⟩ = some (.int .i64 G0) /\ (V.alloc o).cell? ⟨w.heap.size,3,none⟩ = some (.string Y0) /\ (V.alloc o).cell? ⟨w.heap.size,4,none⟩ = some (.string Y1) /\ (V.alloc o).cell? ⟨w.heap.size,5,none⟩ = some (.string Y2) /\ (V.alloc o).cell? ⟨w.heap.size,6,none⟩ = some (.int .i64 P0) /\ (V.alloc o).cell? ⟨w.heap.size,7,none⟩ = some (.int .i64 N0) /\ (V.alloc o).cell? ⟨w.heap.size,8,none⟩ = some (.int .i64 N1) /\ (V.alloc o).cell? ⟨w.heap.size,9,none⟩ = some (.slice a1 n1 c1) /\ (V.alloc o).cell? ⟨w.heap.size,10,none⟩ = some (.int .i64 T0) /\ (V.alloc o).cell? ⟨w.heap.size,11,none⟩ = some (.string X2) /\ (V.alloc o).cell? ⟨w.heap.size,12,none⟩ = some (.int .i64 H0) /\ (V.alloc o).cell? ⟨w.heap.size,13,none⟩ = some (.int .i64 B0) /\ (V.alloc o).cell? ⟨w.heap.size,14,none⟩ = some (.bool D0)) := fun V o h => unhide sall _ ((unhide h.1).alloc o)
  have kcall : Hid (∀ V V',(Hid (HeldS w [(⟨w.heap.size,0,none⟩,.string X0),(⟨w.heap.size,1,none⟩,.string X1),(⟨w.heap.size,2,none⟩,.int .i64 G0),(⟨w.heap.size,3,none⟩,.string Y0),(⟨w.heap.size,4,none⟩,.string Y1),(⟨w.heap.size,5,none⟩,.string Y2),(⟨w.heap.size,6,none⟩,.int .i64 P0),(⟨w.heap.size,7,none⟩,.int .i64 N0),(⟨w.heap.size,8,none⟩,.int .i64 N1),(⟨w.heap.size,9,none⟩,.slice a1 n1 c1),(⟨w.heap.size,10,none⟩,.int .i64 T0),(⟨w.heap.size,11,none⟩,.string X2),(⟨w.heap.size,12,none⟩,.int .i64 H0),(⟨w.heap.size,13,none⟩,.int .i64 B0),(⟨w.heap.size,14,none⟩,.bool D0)] V) /\ V.cell? ⟨w.heap.size,0,none⟩ = some (.string X0) /\ V.cell? ⟨w.heap.size,1,none⟩ = some (.string X1) /\ V.cell? ⟨w.heap.size,2,none⟩ = some (.int .i64 G0) /\ V.cell? ⟨w.heap.size,3,none⟩ = some (.string Y0) /\ V.cell? ⟨w.heap.size,4,none⟩ = some (.string Y1) /\ V.cell? ⟨w.heap.size,5,none⟩ = some (.string Y2) /\ V.cell? ⟨w.heap.size,6,none⟩ = some (.int .i64 P0) /\ V.cell? ⟨w.heap.size,7,none⟩ = some (.int .i64 N0) /\ V.cell? ⟨w.heap.size,8,none⟩ = some (.int .i64 N1) /\ V.cell? ⟨w.heap.size,9,none⟩ = some (.slice a1 n1 c1) /\ V.cell? ⟨w.heap.size,10,none⟩ = some (.int .i64 T0) /\ V.cell? ⟨w.heap.size,11,none⟩ = some (.string X2) /\ V.cell? ⟨w.heap.size,12,none⟩ = some (.int .i64 H0) /\ V.cell? ⟨w.heap.size,13,none⟩ = some (.int .i64 B0) /\ V.cell? ⟨w.heap.size,14,none⟩ = some (.bool D0)) -> Below V.heap.size V V' -> Hid (HeldS w [(⟨w.heap.size,0,none⟩,.string X0),(⟨w.heap.size,1,none⟩,.string X1),(⟨w.heap.size,2,none⟩,.int .i64 G0),(⟨w.heap.size,3,none⟩,.string Y0),(⟨w.heap.size,4,none⟩,.string Y1),(⟨w.heap.size,5,none⟩,.string Y2),(⟨w.heap.size,6,none⟩,.int .i64 P0),(⟨w.heap.size,7,none⟩,.int .i64 N0),(⟨w.heap.size,8,none⟩,.int .i64 N1),(⟨w.heap.size,9,none⟩,.slice a1 n1 c1),(⟨w.heap.size,10,none⟩,.int .i64 T0),(⟨w.heap.size,11,none⟩,.string X2),(⟨w.heap.size,12,none⟩,.int .i64 H0),(⟨w.heap.size,13,none⟩,.int .i64 B0),(⟨w.heap.size,14,none⟩,.bool D0)] V') /\ V'.cell? ⟨w.heap.size,0,none⟩ = some (.string X0) /\ V'.cell? ⟨w.heap.size,1,none⟩ = some (.string X1) /\ V'.cell? ⟨w.heap.size,2,none⟩ = some (.int .i64 G0) /\ V'.cell? ⟨w.heap.size,3,none⟩ = some (.string Y0) /\ V'.cell? ⟨w.heap.size,4,none⟩ = some (.string Y1) /\ V'.cell? ⟨w.heap.size,5,none⟩ = some (.string Y2) /\ V'.cell? ⟨w.heap.size,6,none⟩ = some (.int .i64 P0) /\ V'.cell? ⟨w.heap.size,7,none⟩ = some (.int .i64 N0) /\ V'.cell? ⟨w.heap.size,8,none⟩ = some (.int .i64 N1) /\ V'.cell? ⟨w.heap.size,9,none⟩ = some (.slice a1 n1 c1) /\ V'.cell? ⟨w.heap.size,10,none⟩ = some (.int .i64 T0) /\ V'.cell? ⟨w.heap.size,11,none⟩ = some (.string X2) /\ V'.cell? ⟨w.heap.size,12,none⟩ = some (.int .i64 H0) /\ V'.cell? ⟨w.heap.size,13,none⟩ = some (.int .i64 B0) /\ V'.cell? ⟨w.heap.size,14,none⟩ = some (.bool D0)) := fun V V' h hb => unhide sall _ ((unhide h.1).below hb)
  have hS : Hid (HeldS w [(⟨w.heap.size,0,none⟩,.string X0),(⟨w.heap.size,1,none⟩,.string X1),(⟨w.heap.size,2,none⟩,.int .i64 G0),(⟨w.heap.size,3,none⟩,.string Y0),(⟨w.heap.size,4,none⟩,.string Y1),(⟨w.heap.size,5,none⟩,.string Y2),(⟨w.heap.size,6,none⟩,.int .i64 P0),(⟨w.heap.size,7,none⟩,.int .i64 N0),(⟨w.heap.size,8,none⟩,.int .i64 N1),(⟨w.heap.size,9,none⟩,.slice a1 n1 c1),(⟨w.heap.size,10,none⟩,.int .i64 T0),(⟨w.heap.size,11,none⟩,.string X2),(⟨w.heap.size,12,none⟩,.int .i64 H0),(⟨w.heap.size,13,none⟩,.int .i64 B0),(⟨w.heap.size,14,none⟩,.bool D0)] (w.alloc (.cells #[.string X0,.string X1,.int .i64 G0,.string Y0,.string Y1,.string Y2,.int .i64 P0,.int .i64 N0,.int .i64 N1,.slice a1 n1 c1,.int .i64 T0,.string X2,.int .i64 H0,.int .i64 B0,.bool D0] 37))) /\ (w.alloc (.cells #[.string X0,.string X1,.int .i64 G0,.string Y0,.string Y1,.string Y2,.int .i64 P0,.int .i64 N0,.int .i64 N1,.slice a1 n1 c1,.int .i64 T0,.string X2,.int .i64 H0,.int .i64 B0,.bool D0] 37)).cell? ⟨w.heap.size,0,none⟩ = some (.string X0) /\ (w.alloc (.cells #[.string X0,.string X1,.int .i64 G0,.string Y0,.string Y1,.string Y2,.int .i64 P0,.int .i64 N0,.int .i64 N1,.slice a1 n1 c1,.int .i64 T0,.string X2,.int .i64 H0,.int .i64 B0,.bool D0] 37)).cell? ⟨w.heap.size,1,none⟩ = some (.string X1) /\ (w.alloc (.cells #[.string X0,.string X1,.int .i64 G0,.string Y0,.string Y1,.string Y2,.int .i64 P0,.int .i64 N0,.int .i64 N1,.slice a1 n1 c1,.int .i64 T0,.string X2,.int .i64 H0,.int .i64 B0,.bool D0] 37)).cell? ⟨w.heap.size,2,none⟩ = some (.int .i64 G0) /\ (w.alloc (.cells #[.string X0,.string X1,.int .i64 G0,.string Y0,.string Y1,.string Y2,.int .i64 P0,.int .i64 N0,.int .i64 N1,.slice a1 n1 c1,.int .i64 T0,.string X2,.int .i64 H0,.int .i64 B0,.bool D0] 37)).cell? ⟨w.heap.size,3,none⟩ = some (.string Y0) /\ (w.alloc (.cells #[.string X0,.string X1,.int .i64 G0,.string Y0,.string Y1,.string Y2,.int .i64 P0,.int .i64 N0,.int .i64 N1,.slice a1 n1 c1,.int .i64 T0,.string X2,.int .i64 H0,.int .i64 B0,.bool D0] 37)).cell? ⟨w.heap.size,4,none⟩ = some (.string Y1) /\ (w.alloc (.cells #[.string X0,.string X1,.int .i64 G0,.string Y0,.string Y1,.string Y2,.int .i64 P0,.int .i64 N0,.int .i64 N1,.slice a1 n1 c1,.int .i64 T0,.string X2,.int .i64 H0,.int .i64 B0,.bool D0] 37)).cell? ⟨w.heap.size,5,none⟩ = some (.string Y2) /\ (w.alloc (.cells #[.string X0,.string X1,.int .i64 G0,.string Y0,.string Y1,.string Y2,.int .i64 P0,.int .i64 N0,.int .i64 N1,.slice a1 n1 c1,.int .i64 T0,.string X2,.int .i64 H0,.int .i64 B0,.bool D0] 37)).cell? ⟨w.heap.size,6,none⟩ = some (.int .i64 P0) /\ (w.alloc (.cells #[.string X0,.string X1,.int .i64 G0,.string Y0,.string Y1,.string Y2,.int .i64 P0,.int .i64 N0,.int .i64 N1,.slice a1 n1 c1,.int .i64 T0,.string X2,.int .i64 H0,.int .i64 B0,.bool D0] 37)).cell? ⟨w.heap.size,7,none⟩ = some (.int .i64 N0) /\ (w.alloc (.cells #[.string X0,.string X1,.int .i64 G0,.string Y0,.string Y1,.string Y2,.int .i64 P0,.int .i64 N0,.int .i64 N1,.slice a1 n1 c1,.int .i64 T0,.string X2,.int .i64 H0,.int .i64 B0,.bool D0] 37)).cell? ⟨w.heap.size,8,none⟩ = some (.int .i64 N1) /\ (w.alloc (.cells #[.string X0,.string X1,.int .i64 G0,.string Y0,.string Y1,.string Y2,.int .i64 P0,.int .i64 N0,.int .i64 N1,.slice a1 n1 c1,.int .i64 T0,.string X2,.int .i64 H0,.int .i64 B0,.bool D0] 37)).cell? ⟨w.heap.size,9,none⟩ = some (.slice a1 n1 c1) /\ (w.alloc (.cells #[.string X0,.string X1,.int .i64 G0,.string Y0,.string Y1,.string Y2,.int .i64 P0,.int .i64 N0,.int .i64 N1,.slice a1 n1 c1,.int .i64 T0,.string X2,.int .i64 H0,.int .i64 B0,.bool D0] 37)).cell? ⟨w.heap.size,10,none⟩ = some (.int .i64 T0) /\ (w.alloc (.cells #[.string X0,.string X1,.int .i64 G0,.string Y0,.string Y1,.string Y2,.int .i64 P0,.int .i64 N0,.int .i64 N1,.slice a1 n1 c1,.int .i64 T0,.string X2,.int .i64 H0,.int .i64 B0,.bool D0] 37)).cell? ⟨w.heap.size,11,none⟩ = some (.string X2) /\ (w.alloc (.cells #[.string X0,.string X1,.int .i64 G0,.string Y0,.string Y1,.string Y2,.int .i64 P0,.int .i64 N0,.int .i64 N1,.slice a1 n1 c1,.int .i64 T0,.string X2,.int .i64 H0,.int .i64 B0,.bool D0] 37)).cell? ⟨w.heap.size,12,none⟩ = some (.int .i64 H0) /\ (w.alloc (.cells #[.string X0,.string X1,.int .i64 G0,.string Y0,.string Y1,.string Y2,.int .i64 P0,.int .i64 N0,.int .i64 N1,.slice a1 n1 c1,.int .i64 T0,.string X2,.int .i64 H0,.int .i64 B0,.bool D0] 37)).cell? ⟨w.heap.size,13,none⟩ = some (.int .i64 B0) /\ (w.alloc (.cells #[.string X0,.string X1,.int .i64 G0,.string Y0,.string Y1,.string Y2,.int .i64 P0,.int .i64 N0,.int .i64 N1,.slice a1 n1 c1,.int .i64 T0,.string X2,.int .i64 H0,.int .i64 B0,.bool D0] 37)).cell? ⟨w.heap.size,14,none⟩ = some (.bool D0) := unhide sall _ ⟨boxb _,fun x hx => by simp only [List.mem_cons,List.not_mem_nil,or_false] at hx; rcases hx with rfl | rfl | rfl | rfl | rfl | rfl | rfl | rfl | rfl | rfl | rfl | rfl | rfl | rfl | rfl <;> simp [go_sem]⟩
  clear sall
  go_enter Tryz.func65,Tryz.ntmps65
  go_wp2_with fail
  refine wp_region_noPanic ?_
  refine wp_region_held_drew (S := fun V => Hid (HeldS w [(⟨w.heap.size,0,none⟩,.string X0),(⟨w.heap.size,1,none⟩,.string X1),(⟨w.heap.size,2,none⟩,.int .i64 G0),(⟨w.heap.size,3,none⟩,.string Y0),(⟨w.heap.size,4,none⟩,.string Y1),(⟨w.heap.size,5,none⟩,.string Y2),(⟨w.heap.size,6,none⟩,.int .i64 P0),(⟨w.heap.size,7,none⟩,.int .i64 N0),(⟨w.heap.size,8,none⟩,.int .i64 N1),(⟨w.heap.size,9,none⟩,.slice a1 n1 c1),(⟨w.heap.size,10,none⟩,.int .i64 T0),(⟨w.heap.size,11,none⟩,.string X2),(⟨w.heap.size,12,none⟩,.int .i64 H0),(⟨w.heap.size,13,none⟩,.int .i64 B0),(⟨w.heap.size,14,none⟩,.bool D0)] V) /\ V.cell? ⟨w.heap.size,0,none⟩ = some (.string X0) /\ V.cell? ⟨w.heap.size,1,none⟩ = some (.string X1) /\ V.cell? ⟨w.heap.size,2,none⟩ = some (.int .i64 G0) /\ V.cell? ⟨w.heap.size,3,none⟩ = some (.string Y0) /\ V.cell? ⟨w.heap.size,4,none⟩ = some (.string Y1) /\ V.cell? ⟨w.heap.size,5,none⟩ = some (.string Y2) /\ V.cell? ⟨w.heap.size,6,none⟩ = some (.int .i64 P0) /\ V.cell? ⟨w.heap.size,7,none⟩ = some (.int .i64 N0) /\ V.cell? ⟨w.heap.size,8,none⟩ = some (.int .i64 N1) /\ V.cell? ⟨w.heap.size,9,none⟩ = some (.slice a1 n1 c1) /\ V.cell? ⟨w.heap.size,10,none⟩ = some (.int .i64 T0) /\ V.cell? ⟨w.heap.size,11,none⟩ = some (.string X2) /\ V.cell? ⟨w.heap.size,12,none⟩ = some (.int .i64 H0) /\ V.cell? ⟨w.heap.size,13,none⟩ = some (.int .i64 B0) /\ V.cell? ⟨w.heap.size,14,none⟩ = some (.bool D0)) (by kernel_rfl) (unhide kdrew _ hS) (fun hHeld0 => ?_)
  refine takeH6 (i := 0) (d := 3) (v := ?_) rfl rfl (by kernel_rfl) (by kernel_rfl) (by kernel_rfl) (fun _ _ _ h => h) (Or.inl ⟨by rfl,?_⟩) (by assumption) ?_
  rotate_left
  · (intro W hSW; (try dsimp only at hSW); go_simp; try (with_reducible rfl))
  try simp only [Act.put,List.setIfInBounds_toArray,List.set_cons_zero,List.set_cons_succ]
  refine takeH6 (i := 1) (d := 4) (v := ?_) rfl rfl (by kernel_rfl) (by kernel_rfl) (by kernel_rfl) (fun _ _ _ h => h) (Or.inl ⟨by rfl,?_⟩) (by assumption) ?_
  rotate_left
  · (intro W hSW; (try dsimp only at hSW); go_simp; try (with_reducible rfl))
  try simp only [Act.put,List.setIfInBounds_toArray,List.set_cons_zero,List.set_cons_succ]
  refine takeH6 (i := 2) (d := 5) (v := ?_) rfl rfl (by kernel_rfl) (by kernel_rfl) (by kernel_rfl) (fun _ _ _ h => h) (Or.inl ⟨by rfl,?_⟩) (by assumption) ?_
  rotate_left
  · (intro W hSW; (try dsimp only at hSW); go_simp; try (with_reducible rfl))
  try simp only [Act.put,List.setIfInBounds_toArray,List.set_cons_zero,List.set_cons_succ]
  refine takeH6 (i := 3) (d := 6) (v := ?_) rfl rfl (by kernel_rfl) (by kernel_rfl) (by kernel_rfl) (fun _ _ _ h => h) (Or.inl ⟨by rfl,?_⟩) (by assumption) ?_
  rotate_left
  · (intro W hSW; (try dsimp only at hSW); go_simp; try (with_reducible rfl))
  try simp only [Act.put,List.setIfInBounds_toArray,List.set_cons_zero,List.set_cons_succ]
  refine takeH6 (i := 12) (d := 15) (v := ?_) rfl rfl (by kernel_rfl) (by kernel_rfl) (by kernel_rfl) (fun _ _ _ h => h) (Or.inl ⟨by rfl,?_⟩) (by assumption) ?_
  rotate_left
  · (intro W hSW; (try dsimp only at hSW); go_simp; try (with_reducible rfl))
  try simp only [Act.put,List.setIfInBounds_toArray,List.set_cons_zero,List.set_cons_succ]
  refine takeH6 (i := 13) (d := 16) (v := ?_) rfl rfl (by kernel_rfl) (by kernel_rfl) (by kernel_rfl) (fun _ _ _ h => h) (Or.inl ⟨by rfl,?_⟩) (by assumption) ?_
  rotate_left
  · (intro W hSW; (try dsimp only at hSW); go_simp; try (with_reducible rfl))
  try simp only [Act.put,List.setIfInBounds_toArray,List.set_cons_zero,List.set_cons_succ]
  refine takeH6 (i := 15) (d := 18) (v := ?_) rfl rfl (by kernel_rfl) (by kernel_rfl) (by kernel_rfl) (fun _ _ _ h => h) (Or.inl ⟨by rfl,?_⟩) (by assumption) ?_
  rotate_left
  · (intro W hSW; (try dsimp only at hSW); go_simp; try (with_reducible rfl))
  try simp only [Act.put,List.setIfInBounds_toArray,List.set_cons_zero,List.set_cons_succ]
  refine takeH6 (i := 16) (d := 19) (v := ?_) rfl rfl (by kernel_rfl) (by kernel_rfl) (by kernel_rfl) (fun _ _ _ h => h) (Or.inl ⟨by rfl,?_⟩) (by assumption) ?_
  rotate_left
  · (intro W hSW; (try dsimp only at hSW); go_simp; try (with_reducible rfl))
  try simp only [Act.put,List.setIfInBounds_toArray,List.set_cons_zero,List.set_cons_succ]
  refine takeH6 (i := 18) (d := 21) (v := ?_) rfl rfl (by kernel_rfl) (by kernel_rfl) (by kernel_rfl) (fun _ _ _ h => h) (Or.inl ⟨by rfl,?_⟩) (by assumption) ?_
  rotate_left
  · (intro W hSW; (try dsimp only at hSW); go_simp; try (with_reducible rfl))
  try simp only [Act.put,List.setIfInBounds_toArray,List.set_cons_zero,List.set_cons_succ]
  refine takeH6 (i := 19) (d := 22) (v := ?_) rfl rfl (by kernel_rfl) (by kernel_rfl) (by kernel_rfl) (fun _ _ _ h => h) (Or.inl ⟨by rfl,?_⟩) (by assumption) ?_
  rotate_left
  · (intro W hSW; (try dsimp only at hSW); go_simp; try (with_reducible rfl))
  try simp only [Act.put,List.setIfInBounds_toArray,List.set_cons_zero,List.set_cons_succ]
  refine takeH6 (i := 21) (d := 24) (v := ?_) rfl rfl (by kernel_rfl) (by kernel_rfl) (by kernel_rfl) (fun _ _ _ h => h) (Or.inl ⟨by rfl,?_⟩) (by assumption) ?_
  rotate_left
  · (intro W hSW; (try dsimp only at hSW); go_simp; try (with_reducible rfl))
  try simp only [Act.put,List.setIfInBounds_toArray,List.set_cons_zero,List.set_cons_succ]
  refine takeH6 (i := 22) (d := 25) (v := ?_) rfl rfl (by kernel_rfl) (by kernel_rfl) (by kernel_rfl) (fun _ _ _ h => h) (Or.inl ⟨by rfl,?_⟩) (by assumption) ?_
  rotate_left
  · (intro W hSW; (try dsimp only at hSW); go_simp; try (with_reducible rfl))
  try simp only [Act.put,List.setIfInBounds_toArray,List.set_cons_zero,List.set_cons_succ]
  refine takeH6 (i := 25) (d := 28) (v := ?_) rfl rfl (by kernel_rfl) (by kernel_rfl) (by kernel_rfl) (fun _ _ _ h => h) (Or.inl ⟨by rfl,?_⟩) (by assumption) ?_
  rotate_left
  · (intro W hSW; (try dsimp only at hSW); go_simp; try (with_reducible rfl))
  try simp only [Act.put,List.setIfInBounds_toArray,List.set_cons_zero,List.set_cons_succ]
  refine takeH6 (i := 26) (d := 29) (v := ?_) rfl rfl (by kernel_rfl) (by kernel_rfl) (by kernel_rfl) (fun _ _ _ h => h) (Or.inl ⟨by rfl,?_⟩) (by assumption) ?_
  rotate_left
  · (intro W hSW; (try dsimp only at hSW); go_simp; try (with_reducible rfl))
  try simp only [Act.put,List.setIfInBounds_toArray,List.set_cons_zero,List.set_cons_succ]
  refine takeH6 (i := 27) (d := 30) (v := ?_) rfl rfl (by kernel_rfl) (by kernel_rfl) (by kernel_rfl) (fun _ _ _ h => h) (Or.inl ⟨by rfl,?_⟩) (by assumption) ?_
  rotate_left
  · (intro W hSW; (try dsimp only at hSW); go_simp; try (with_reducible rfl))
  try simp only [Act.put,List.setIfInBounds_toArray,List.set_cons_zero,List.set_cons_succ]
  refine takeH6 (i := 28) (d := 31) (v := ?_) rfl rfl (by kernel_rfl) (by kernel_rfl) (by kernel_rfl) (fun _ _ _ h => h) (Or.inl ⟨by rfl,?_⟩) (by assumption) ?_
  rotate_left
  · (intro W hSW; (try dsimp only at hSW); go_simp; try (with_reducible rfl))
  try simp only [Act.put,List.setIfInBounds_toArray,List.set_cons_zero,List.set_cons_succ]
  refine takeH6 (i := 30) (d := 33) (v := ?_) rfl rfl (by kernel_rfl) (by kernel_rfl) (by kernel_rfl) (fun _ _ _ h => h) (Or.inl ⟨by rfl,?_⟩) (by assumption) ?_
  rotate_left
  · (intro W hSW; (try dsimp only at hSW); go_simp; try (with_reducible rfl))
  try simp only [Act.put,List.setIfInBounds_toArray,List.set_cons_zero,List.set_cons_succ]
  refine takeH6 (i := 31) (d := 34) (v := ?_) rfl rfl (by kernel_rfl) (by kernel_rfl) (by kernel_rfl) (fun _ _ _ h => h) (Or.inl ⟨by rfl,?_⟩) (by assumption) ?_
  rotate_left
  · (intro W hSW; (try dsimp only at hSW); go_simp; try (with_reducible rfl))
  try simp only [Act.put,List.setIfInBounds_toArray,List.set_cons_zero,List.set_cons_succ]
  refine takeH6 (i := 34) (d := 37) (v := ?_) rfl rfl (by kernel_rfl) (by kernel_rfl) (by kernel_rfl) (fun _ _ _ h => h) (Or.inl ⟨by rfl,?_⟩) (by assumption) ?_
  rotate_left
  · (intro W hSW; (try dsimp only at hSW); go_simp; try (with_reducible rfl))
  try simp only [Act.put,List.setIfInBounds_toArray,List.set_cons_zero,List.set_cons_succ]
  refine takeH6 (i := 35) (d := 38) (v := ?_) rfl rfl (by kernel_rfl) (by kernel_rfl) (by kernel_rfl) (fun _ _ _ h => h) (Or.inl ⟨by rfl,?_⟩) (by assumption) ?_
  rotate_left
  · (intro W hSW; (try dsimp only at hSW); go_simp; try (with_reducible rfl))
  try simp only [Act.put,List.setIfInBounds_toArray,List.set_cons_zero,List.set_cons_succ]
  refine wpAnyH_ready (rs := [4]) (by kernel_rfl) (by simp) ?_
  refine AllReadyH.cons (o := _) rfl (fun K hK => ?_) AllReadyH.nil
  go_simp
  refine hK.out _ _ ?_ (fun hHeld1 => ?_)
  · (try dsimp only)
    (first | (with_reducible exact hS) | (with_reducible assumption) | (with_reducible refine unhide kdrew _ ?_; with_reducible assumption) | (with_reducible refine unhide kalloc _ _ ?_; with_reducible assumption) | (refine unhide kcall _ _ ?_ (by assumption); with_reducible assumption) | (with_reducible refine unhide kdrew _ (unhide kalloc _ _ ?_); with_reducible assumption) | (with_reducible refine unhide kalloc _ _ (unhide kdrew _ ?_); with_reducible assumption))
  clear hK K hHeld0
  try simp only [Act.put,List.setIfInBounds_toArray,List.set_cons_zero,List.set_cons_succ]
  refine wpAnyH_ready (rs := [5]) (by kernel_rfl) (by simp) ?_
  refine AllReadyH.cons (o := _) rfl (fun K hK => ?_) AllReadyH.nil
  go_simp
  (go_at_call 104; refine (unhide cNm _ _ (by simp [go_sem]) (by simp [go_sem])).mono ?_; rintro e w9 ⟨rfl,rfl⟩)
  refine hK.out _ _ ?_ (fun hHeld2 => ?_)
  · (try dsimp only)
    (first | (with_reducible exact hS) | (with_reducible assumption) | (with_reducible refine unhide kdrew _ ?_; with_reducible assumption) | (with_reducible refine unhide kalloc _ _ ?_; with_reducible assumption) | (refine unhide kcall _ _ ?_ (by assumption); with_reducible assumption) | (with_reducible refine unhide kdrew _ (unhide kalloc _ _ ?_); with_reducible assumption) | (with_reducible refine unhide kalloc _ _ (unhide kdrew _ ?_); with_reducible assumption))
  clear hK K hHeld1
  try simp only [Act.put,List.setIfInBounds_toArray,List.set_cons_zero,List.set_cons_succ]
  refine takeH6 (i := 6) (d := 9) (v := ?_) rfl rfl (by kernel_rfl) (by kernel_rfl) (by kernel_rfl) (fun _ _ _ h => h) (Or.inl ⟨by rfl,?_⟩) (by assumption) ?_
  rotate_left
  · (intro W hSW; (try dsimp only at hSW); go_simp; try (with_reducible rfl))
  try simp only [Act.put,List.setIfInBounds_toArray,List.set_cons_zero,List.set_cons_succ]
  refine takeH6 (i := 7) (d := 10) (v := ?_) rfl rfl (by kernel_rfl) (by kernel_rfl) (by kernel_rfl) (fun _ _ _ h => h) (Or.inl ⟨by rfl,?_⟩) (by assumption) ?_
  rotate_left
  · (intro W hSW; (try dsimp only at hSW); go_simp; try (with_reducible rfl))
  try simp only [Act.put,List.setIfInBounds_toArray,List.set_cons_zero,List.set_cons_succ]
  refine takeH6 (i := 8) (d := 11) (v := ?_) rfl rfl (by kernel_rfl) (by kernel_rfl) (by kernel_rfl) (fun _ _ _ h => h) (Or.inl ⟨by rfl,?_⟩) (by assumption) ?_
  rotate_left
  · (intro W hSW; (try dsimp only at hSW); go_simp; try (with_reducible rfl))
  try simp only [Act.put,List.setIfInBounds_toArray,List.set_cons_zero,List.set_cons_succ]
  refine wpAnyH_ready (rs := [9]) (by kernel_rfl) (by simp) ?_
  refine AllReadyH.cons (o := _) rfl (fun K hK => ?_) AllReadyH.nil
  go_simp
  (go_at_call 115; refine (unhide kO _).mono ?_; rintro e w9 ⟨rfl,hw9⟩)
  refine hK.out _ _ ?_ (fun hHeld3 => ?_)
  · (try dsimp only)
    (first | (with_reducible exact hS) | (with_reducible assumption) | (with_reducible refine unhide kdrew _ ?_; with_reducible assumption) | (with_reducible refine unhide kalloc _ _ ?_; with_reducible assumption) | (refine unhide kcall _ _ ?_ (by assumption); with_reducible assumption) | (with_reducible refine unhide kdrew _ (unhide kalloc _ _ ?_); with_reducible assumption) | (with_reducible refine unhide kalloc _ _ (unhide kdrew _ ?_); with_reducible assumption))
  clear hK K hHeld2 hw9
  try simp only [Act.put,List.setIfInBounds_toArray,List.set_cons_zero,List.set_cons_succ]
  refine takeH6 (i := 10) (d := 13) (v := ?_) rfl rfl (by kernel_rfl) (by kernel_rfl) (by kernel_rfl) (fun _ _ _ h => h) (Or.inl ⟨by rfl,?_⟩) (by assumption) ?_
  rotate_left
  · (intro W hSW; (try dsimp only at hSW); go_simp; try (with_reducible rfl))
  try simp only [Act.put,List.setIfInBounds_toArray,List.set_cons_zero,List.set_cons_succ]
  refine wpAnyH_ready (rs := [11]) (by kernel_rfl) (by simp) ?_
  refine AllReadyH.cons (o := _) rfl (fun K hK => ?_) AllReadyH.nil
  go_simp
  (go_at_call 103; refine (unhide cU1 _ _ _ (by rfl) (by rfl)).mono ?_; rintro e w9 ⟨rfl,rfl⟩)
  refine hK.out _ _ ?_ (fun hHeld4 => ?_)
  · (try dsimp only)
    (first | (with_reducible exact hS) | (with_reducible assumption) | (with_reducible refine unhide kdrew _ ?_; with_reducible assumption) | (with_reducible refine unhide kalloc _ _ ?_; with_reducible assumption) | (refine unhide kcall _ _ ?_ (by assumption); with_reducible assumption) | (with_reducible refine unhide kdrew _ (unhide kalloc _ _ ?_); with_reducible assumption) | (with_reducible refine unhide kalloc _ _ (unhide kdrew _ ?_); with_reducible assumption))
  clear hK K hHeld3
  try simp only [Act.put,List.setIfInBounds_toArray,List.set_cons_zero,List.set_cons_succ]
  refine wpAnyH_ready (rs := [14]) (by kernel_rfl) (by simp) ?_
  refine AllReadyH.cons (o := _) rfl (fun K hK => ?_) AllReadyH.nil
  go_simp
  (go_at_call 116; refine (unhide k2 _).mono ?_; rintro e w9 ⟨rfl,rfl⟩)
  refine hK.out _ _ ?_ (fun hHeld5 => ?_)
  · (try dsimp only)
    (first | (with_reducible exact hS) | (with_reducible assumption) | (with_reducible refine unhide kdrew _ ?_; with_reducible assumption) | (with_reducible refine unhide kalloc _ _ ?_; with_reducible assumption) | (refine unhide kcall _ _ ?_ (by assumption); with_reducible assumption) | (with_reducible refine unhide kdrew _ (unhide kalloc _ _ ?_); with_reducible assumption) | (with_reducible refine unhide kalloc _ _ (unhide kdrew _ ?_); with_reducible assumption))
  clear hK K hHeld4
  try simp only [Act.put,List.setIfInBounds_toArray,List.set_cons_zero,List.set_cons_succ]
  refine wpAnyH_ready (rs := [17]) (by kernel_rfl) (by simp) ?_
  refine AllReadyH.cons (o := _) rfl (fun K hK => ?_) AllReadyH.nil
  go_simp
  (go_at_call 105; refine (unhide k3 _).mono ?_; rintro e w9 ⟨rfl,hw9⟩)
  refine hK.out _ _ ?_ (fun hHeld6 => ?_)
  · (try dsimp only)
    (first | (with_reducible exact hS) | (with_reducible assumption) | (with_reducible refine unhide kdrew _ ?_; with_reducible assumption) | (with_reducible refine unhide kalloc _ _ ?_; with_reducible assumption) | (refine unhide kcall _ _ ?_ (by assumption); with_reducible assumption) | (with_reducible refine unhide kdrew _ (unhide kalloc _ _ ?_); with_reducible assumption) | (with_reducible refine unhide kalloc _ _ (unhide kdrew _ ?_); with_reducible assumption))
  clear hK K hHeld5 hw9
  try simp only [Act.put,List.setIfInBounds_toArray,List.set_cons_zero,List.set_cons_succ]
  refine wpAnyH_ready (rs := [20]) (by kernel_rfl) (by simp) ?_
  refine AllReadyH.cons (o := _) rfl (fun K hK => ?_) AllReadyH.nil
  go_simp
  (go_at_call 117; with_reducible refine (unhide k4 _ ?_).mono ?_; with_reducible assumption; rintro e w9 ⟨rfl,hw9⟩)
  refine hK.out _ _ ?_ (fun hHeld7 => ?_)
  · (try dsimp only)
    (first | (with_reducible exact hS) | (with_reducible assumption) | (with_reducible refine unhide kdrew _ ?_; with_reducible assumption) | (with_reducible refine unhide kalloc _ _ ?_; with_reducible assumption) | (refine unhide kcall _ _ ?_ (by assumption); with_reducible assumption) | (with_reducible refine unhide kdrew _ (unhide kalloc _ _ ?_); with_reducible assumption) | (with_reducible refine unhide kalloc _ _ (unhide kdrew _ ?_); with_reducible assumption))
  clear hK K hHeld6 hw9
  try simp only [Act.put,List.setIfInBounds_toArray,List.set_cons_zero,List.set_cons_succ]
  refine wpAnyH_ready (rs := [23]) (by kernel_rfl) (by simp) ?_
  refine AllReadyH.cons (o := _) rfl (fun K hK => ?_) AllReadyH.nil
  go_simp
  (go_at_call 106; refine (btw_any _ _ _ _).mono ?_; rintro e w9 ⟨rfl,rfl⟩)
  refine hK.out _ _ ?_ (fun hHeld8 => ?_)
  · (try dsimp only)
    (first | (with_reducible exact hS) | (with_reducible assumption) | (with_reducible refine unhide kdrew _ ?_; with_reducible assumption) | (with_reducible refine unhide kalloc _ _ ?_; with_reducible assumption) | (refine unhide kcall _ _ ?_ (by assumption); with_reducible assumption) | (with_reducible refine unhide kdrew _ (unhide kalloc _ _ ?_); with_reducible assumption) | (with_reducible refine unhide kalloc _ _ (unhide kdrew _ ?_); with_reducible assumption))
  clear hK K hHeld7
  try simp only [Act.put,List.setIfInBounds_toArray,List.set_cons_zero,List.set_cons_succ]
  refine wpAnyH_ready (rs := [24]) (by kernel_rfl) (by simp) ?_
  refine AllReadyH.cons (o := _) rfl (fun K hK => ?_) AllReadyH.nil
  go_simp
  (go_at_call 103; refine (unhide cU5 _ _ _ (by rfl) (by rfl)).mono ?_; rintro e w9 ⟨rfl,rfl⟩)
  refine hK.out _ _ ?_ (fun hHeld9 => ?_)
  · (try dsimp only)
    (first | (with_reducible exact hS) | (with_reducible assumption) | (with_reducible refine unhide kdrew _ ?_; with_reducible assumption) | (with_reducible refine unhide kalloc _ _ ?_; with_reducible assumption) | (refine unhide kcall _ _ ?_ (by assumption); with_reducible assumption) | (with_reducible refine unhide kdrew _ (unhide kalloc _ _ ?_); with_reducible assumption) | (with_reducible refine unhide kalloc _ _ (unhide kdrew _ ?_); with_reducible assumption))
  clear hK K hHeld8
  try simp only [Act.put,List.setIfInBounds_toArray,List.set_cons_zero,List.set_cons_succ]
  refine wpAnyH_ready (rs := [29]) (by kernel_rfl) (by simp) ?_
  refine AllReadyH.cons (o := _) rfl (fun K hK => ?_) AllReadyH.nil
  go_simp
  (go_at_call 103; refine (unhide cU6 _ _ _ (by rfl) (by rfl)).mono ?_; rintro e w9 ⟨rfl,rfl⟩)
  refine hK.out _ _ ?_ (fun hHeld10 => ?_)
  · (try dsimp only)
    (first | (with_reducible exact hS) | (with_reducible assumption) | (with_reducible refine unhide kdrew _ ?_; with_reducible assumption) | (with_reducible refine unhide kalloc _ _ ?_; with_reducible assumption) | (refine unhide kcall _ _ ?_ (by assumption); with_reducible assumption) | (with_reducible refine unhide kdrew _ (unhide kalloc _ _ ?_); with_reducible assumption) | (with_reducible refine unhide kalloc _ _ (unhide kdrew _ ?_); with_reducible assumption))
  clear hK K hHeld9
  try simp only [Act.put,List.setIfInBounds_toArray,List.set_cons_zero,List.set_cons_succ]
  refine wpAnyH_ready (rs := [32]) (by kernel_rfl) (by simp) ?_
  refine AllReadyH.cons (o := _) rfl (fun K hK => ?_) AllReadyH.nil
  go_simp
  (go_at_call 106; refine (btw_any _ _ _ _).mono ?_; rintro e w9 ⟨rfl,rfl⟩)
  refine hK.out _ _ ?_ (fun hHeld11 => ?_)
  · (try dsimp only)
    (first | (with_reducible exact hS) | (with_reducible assumption) | (with_reducible refine unhide kdrew _ ?_; with_reducible assumption) | (with_reducible refine unhide kalloc _ _ ?_; with_reducible assumption) | (refine unhide kcall _ _ ?_ (by assumption); with_reducible assumption) | (with_reducible refine unhide kdrew _ (unhide kalloc _ _ ?_); with_reducible assumption) | (with_reducible refine unhide kalloc _ _ (unhide kdrew _ ?_); with_reducible assumption))
  clear hK K hHeld10
  try simp only [Act.put,List.setIfInBounds_toArray,List.set_cons_zero,List.set_cons_succ]
  refine wpAnyH_ready (rs := [33]) (by kernel_rfl) (by simp) ?_
  refine AllReadyH.cons (o := _) rfl (fun K hK => ?_) AllReadyH.nil
  go_simp
  (go_at_call 103; refine (unhide cU7 _ _ _ (by rfl) (by rfl)).mono ?_; rintro e w9 ⟨rfl,rfl⟩)
  refine hK.out _ _ ?_ (fun hHeld12 => ?_)
  · (try dsimp only)
    (first | (with_reducible exact hS) | (with_reducible assumption) | (with_reducible refine unhide kdrew _ ?_; with_reducible assumption) | (with_reducible refine unhide kalloc _ _ ?_; with_reducible assumption) | (refine unhide kcall _ _ ?_ (by assumption); with_reducible assumption) | (with_reducible refine unhide kdrew _ (unhide kalloc _ _ ?_); with_reducible assumption) | (with_reducible refine unhide kalloc _ _ (unhide kdrew _ ?_); with_reducible assumption))
  clear hK K hHeld11
  try simp only [Act.put,List.setIfInBounds_toArray,List.set_cons_zero,List.set_cons_succ]
  refine wpAnyH_ready (rs := [36]) (by kernel_rfl) (by simp) ?_
  refine AllReadyH.cons (o := _) rfl (fun K hK => ?_) AllReadyH.nil
  go_simp
  (go_at_call 111; refine (unhide kT _ _ (by rfl)).mono ?_; rintro e w9 ⟨rfl,rfl⟩)
  refine hK.out _ _ ?_ (fun hHeld13 => ?_)
  · (try dsimp only)
    (first | (with_reducible exact hS) | (with_reducible assumption) | (with_reducible refine unhide kdrew _ ?_; with_reducible assumption) | (with_reducible refine unhide kalloc _ _ ?_; with_reducible assumption) | (refine unhide kcall _ _ ?_ (by assumption); with_reducible assumption) | (with_reducible refine unhide kdrew _ (unhide kalloc _ _ ?_); with_reducible assumption) | (with_reducible refine unhide kalloc _ _ (unhide kdrew _ ?_); with_reducible assumption))
  clear hK K hHeld12
  try simp only [Act.put,List.setIfInBounds_toArray,List.set_cons_zero,List.set_cons_succ]
  refine takeH6 (i := 37) (d := 40) (v := ?_) rfl rfl (by kernel_rfl) (by kernel_rfl) (by kernel_rfl) (fun _ _ _ h => h) (Or.inl ⟨by rfl,?_⟩) (by assumption) ?_
  rotate_left
  · (intro W hSW; (try dsimp only at hSW); go_simp; try (with_reducible rfl))
  try simp only [Act.put,List.setIfInBounds_toArray,List.set_cons_zero,List.set_cons_succ]
  refine takeH6 (i := 38) (d := 41) (v := undef) rfl rfl (by kernel_rfl) (by kernel_rfl) (by kernel_rfl) (fun _ _ _ h => h) (Or.inr ⟨by rfl,rfl⟩) (by assumption) ?_
  try simp only [Act.put,List.setIfInBounds_toArray,List.set_cons_zero,List.set_cons_succ]
  refine takeH6 (i := 39) (d := 42) (v := undef) rfl rfl (by kernel_rfl) (by kernel_rfl) (by kernel_rfl) (fun _ _ _ h => h) (Or.inr ⟨by rfl,rfl⟩) (by assumption) ?_
  try simp only [Act.put,List.setIfInBounds_toArray,List.set_cons_zero,List.set_cons_succ]
  refine takeH6 (i := 40) (d := 43) (v := undef) rfl rfl (by kernel_rfl) (by kernel_rfl) (by kernel_rfl) (fun _ _ _ h => h) (Or.inr ⟨by rfl,rfl⟩) (by assumption) ?_
  try simp only [Act.put,List.setIfInBounds_toArray,List.set_cons_zero,List.set_cons_succ]
  refine takeH6 (i := 41) (d := 44) (v := ?_) rfl rfl (by kernel_rfl) (by kernel_rfl) (by kernel_rfl) (fun _ _ _ h => h) (Or.inl ⟨by rfl,?_⟩) (by assumption) ?_
  rotate_left
  · (intro W hSW; (try dsimp only at hSW); go_simp; try (with_reducible rfl))
  try simp only [Act.put,List.setIfInBounds_toArray,List.set_cons_zero,List.set_cons_succ]
  refine wpAnyH_ready (rs := [42]) (by kernel_rfl) (by simp) ?_
  refine AllReadyH.cons (o := _) rfl (fun K hK => ?_) AllReadyH.nil
  go_simp
  (go_at_call 103; refine (unhide cU8 _ _ _ (by rfl) (by rfl)).mono ?_; rintro e w9 ⟨rfl,rfl⟩)
  refine hK.out _ _ ?_ (fun hHeld14 => ?_)
  · (try dsimp only)
    (first | (with_reducible exact hS) | (with_reducible assumption) | (with_reducible refine unhide kdrew _ ?_; with_reducible assumption) | (with_reducible refine unhide kalloc _ _ ?_; with_reducible assumption) | (refine unhide kcall _ _ ?_ (by assumption); with_reducible assumption) | (with_reducible refine unhide kdrew _ (unhide kalloc _ _ ?_); with_reducible assumption) | (with_reducible refine unhide kalloc _ _ (unhide kdrew _ ?_); with_reducible assumption))
  clear hK K hHeld13
  try simp only [Act.put,List.setIfInBounds_toArray,List.set_cons_zero,List.set_cons_succ]
  refine wpAnyH_ready (rs := [43]) (by kernel_rfl) (by simp) ?_
  refine AllReadyH.cons (o := _) rfl (fun K hK => ?_) AllReadyH.nil
  go_simp
  refine hK.out _ _ ?_ (fun hHeld15 => ?_)
  · (try dsimp only)
    (first | (with_reducible exact hS) | (with_reducible assumption) | (with_reducible refine unhide kdrew _ ?_; with_reducible assumption) | (with_reducible refine unhide kalloc _ _ ?_; with_reducible assumption) | (refine unhide kcall _ _ ?_ (by assumption); with_reducible assumption) | (with_reducible refine unhide kdrew _ (unhide kalloc _ _ ?_); with_reducible assumption) | (with_reducible refine unhide kalloc _ _ (unhide kdrew _ ?_); with_reducible assumption))
  clear hK K hHeld14
  try simp only [Act.put,List.setIfInBounds_toArray,List.set_cons_zero,List.set_cons_succ]
  refine wpAnyH_ready (rs := [44]) (by kernel_rfl) (by simp) ?_
  refine AllReadyH.cons (o := _) rfl (fun K hK => ?_) AllReadyH.nil
  go_simp
  (go_at_call 102; refine (unhide cOr _ _ (by simp [go_sem]) (by simp [go_sem]) (by simp [go_sem]) (by simp [go_sem]) (by simp [go_sem]) (by simp [go_sem]) (by simp [go_sem]) (by simp [go_sem])).mono ?_; rintro e w9 ⟨rfl,rfl⟩)
  refine hK.out _ _ ?_ (fun hHeld16 => ?_)
  · (try dsimp only)
    (first | (with_reducible exact hS) | (with_reducible assumption) | (with_reducible refine unhide kdrew _ ?_; with_reducible assumption) | (with_reducible refine unhide kalloc _ _ ?_; with_reducible assumption) | (refine unhide kcall _ _ ?_ (by assumption); with_reducible assumption) | (with_reducible refine unhide kdrew _ (unhide kalloc _ _ ?_); with_reducible assumption) | (with_reducible refine unhide kalloc _ _ (unhide kdrew _ ?_); with_reducible assumption))
  clear hK K hHeld15
  try simp only [Act.put,List.setIfInBounds_toArray,List.set_cons_zero,List.set_cons_succ]
  refine takeH6 (i := 45) (d := 2) (v := ?_) rfl rfl (by kernel_rfl) (by kernel_rfl) (by kernel_rfl) (fun _ _ _ h => h) (Or.inl ⟨by rfl,?_⟩) (by assumption) ?_
  rotate_left
  · (intro W hSW; (try dsimp only at hSW); go_simp; try (with_reducible rfl))
  try simp only [Act.put,List.setIfInBounds_toArray,List.set_cons_zero,List.set_cons_succ]
  refine wpAnyH_done (by kernel_rfl) ?_ _
  refine NoPanic.normal ?_
  have hHeld := hHeld16
  clear hHeld16

  go_wp2_with fail
  go_ret
  exact ⟨rfl,(unhide hHeld.1).gr⟩
end Go.Proofs.YtfpfdnapamdhjaaGreatDoor

/- Layer 8: the program's Claim,one way of four -/
namespace Go.Proofs.YtfpfdnapamdhjaaGreatDoor
open Go.RowKit Suf Val

set_option maxRecDepth 100000 in
set_option maxHeartbeats 64000000 in
theorem pclaim_C (p : VClaim) (u1 : Value) (w : World) (h : ClmIn w p u1) (hA : (nameB p.name && nameB p.pool) = false) (hB : timeB p.gen = true) :
    Calls Tryz.prog 65 #[clmA p u1] w fun e w' => e = .returned (.int .i64 (claimR p)) /\ Below w.heap.size w w' := by
  have hR : Hid (claimR p = orE [unl ((nameB p.name && nameB p.pool) && namedO p.offer) 7,Am.chk p.price,Am.chkA p.cap.1 p.cap.2,offsR8 p.opts,unl (btwB 1 p.tryN 32) 1,unl (decide (p.id.length <= 16)) 2,unl (btwB 1 p.phase 4) 1,unl (timeB p.gen && timeB p.born) 1]) := rfl
  obtain ⟨R,hRR⟩ : ∃ R,R = claimR p := ⟨_,rfl⟩
  rw [<- hRR,hA,hB] at hR
  rw [<- hRR]
  clear hRR
  have cNm := hide (names2 p.name p.pool h.n1 h.n2)
  rw [hA] at cNm
  have kO := hide (poffer_any p.offer · h.of)
  have k2 := hide (Am.check_any p.price)
  have k3 := hide (Am.checkAll_any p.cap.1 p.cap.2)
  have kT : Hid (∀ V vv,vv = .int .i64 p.gen -> Calls Tryz.prog 111 #[vv] V fun e w' => e = .returned (.bool true) /\ w' = V) := fun V vv e => by rw [e,<- hB]; exact time_any _ V
  have kB : Hid (∀ V vv,vv = .int .i64 p.born -> Calls Tryz.prog 111 #[vv] V fun e w' => e = .returned (.bool (timeB p.born)) /\ w' = V) := fun V vv e => by rw [e]; exact time_any _ V
  have hlen : p.id.length = (bytesT p.id).size := (bytesT_size p.id).symm
  have hq1 := h.ops
  obtain ⟨a1,c1,hu1⟩ := h.ops.val
  obtain ⟨n1,hn1⟩ : ∃ n,n = p.opts.length := ⟨_,rfl⟩
  unfold clmA
  rw [hu1]
  rw [hu1,<- hn1] at hq1
  rw [<- hn1]
  clear hu1 h hA hB
  obtain ⟨z2,hz2⟩ : ∃ z,z = Am.chk p.price := ⟨_,rfl⟩
  obtain ⟨z3,hz3⟩ : ∃ z,z = Am.chkA p.cap.1 p.cap.2 := ⟨_,rfl⟩
  obtain ⟨z4,hz4⟩ : ∃ z,z = offsR8 p.opts := ⟨_,rfl⟩
  obtain ⟨qo,hqo⟩ : ∃ z,z = namedO p.offer := ⟨_,rfl⟩
  obtain ⟨qb,hqb⟩ : ∃ z,z = timeB p.born := ⟨_,rfl⟩
  obtain ⟨X0,hX0⟩ : ∃ z,z = bytesT p.name := ⟨_,rfl⟩
  obtain ⟨X1,hX1⟩ : ∃ z,z = bytesT p.pool := ⟨_,rfl⟩
  obtain ⟨X2,hX2⟩ : ∃ z,z = bytesT p.id := ⟨_,rfl⟩
  obtain ⟨Y0,hY0⟩ : ∃ z,z = bytesT p.offer.1 := ⟨_,rfl⟩
  obtain ⟨Y1,hY1⟩ : ∃ z,z = bytesT p.offer.2.1 := ⟨_,rfl⟩
  obtain ⟨Y2,hY2⟩ : ∃ z,z = bytesT p.offer.2.2 := ⟨_,rfl⟩
  obtain ⟨N0,hN0⟩ : ∃ z,z = p.cap.1 := ⟨_,rfl⟩
  obtain ⟨N1,hN1⟩ : ∃ z,z = p.cap.2 := ⟨_,rfl⟩
  obtain ⟨P0,hP0⟩ : ∃ z,z = p.price := ⟨_,rfl⟩
  obtain ⟨G0,hG0⟩ : ∃ z,z = p.gen := ⟨_,rfl⟩
  obtain ⟨B0,hB0⟩ : ∃ z,z = p.born := ⟨_,rfl⟩
  obtain ⟨T0,hT0⟩ : ∃ z,z = p.tryN := ⟨_,rfl⟩
  obtain ⟨H0,hH0⟩ : ∃ z,z = p.phase := ⟨_,rfl⟩
  obtain ⟨D0,hD0⟩ : ∃ z,z = p.marked := ⟨_,rfl⟩
  rw [<- hz2,<- hz3,<- hz4,<- hqo,<- hqb,<- hT0,<- hH0,hlen,<- hX2] at hR
  unfold offA at kO
  rw [<- hX0,<- hX1] at cNm
  rw [<- hqo,<- hY0,<- hY1,<- hY2] at kO
  rw [<- hz2,<- hP0] at k2
  rw [<- hz3,<- hN0,<- hN1] at k3
  rw [<- hG0] at kT
  rw [<- hqb,<- hB0] at kB
  rw [<- hX0,<- hX1,<- hX2,<- hY0,<- hY1,<- hY2,<- hP0,<- hN0,<- hN1,<- hG0,<- hT0,<- hH0,<- hB0,<- hD0]
  obtain ⟨z1,hz1⟩ : ∃ z,z = unl (false && qo) 7 := ⟨_,rfl⟩
  obtain ⟨z5,hz5⟩ : ∃ z,z = unl (btwB 1 T0 32) 1 := ⟨_,rfl⟩
  obtain ⟨z6,hz6⟩ : ∃ z,z = unl (decide (X2.size <= 16)) 2 := ⟨_,rfl⟩
  obtain ⟨z7,hz7⟩ : ∃ z,z = unl (btwB 1 H0 4) 1 := ⟨_,rfl⟩
  obtain ⟨z8,hz8⟩ : ∃ z,z = unl (true && qb) 1 := ⟨_,rfl⟩
  rw [<- hz1,<- hz5,<- hz6,<- hz7,<- hz8] at hR
  have cU1 : Hid (∀ V bb ee,bb = .bool false -> ee = .int .i64 7 -> Calls Tryz.prog 103 #[bb,ee] V fun r w' => r = .returned (.int .i64 z1) /\ w' = V) := fun V bb ee e1 e2 => by rw [e1,e2,hz1]; exact unless_any false 7 V
  have cU8 : Hid (∀ V bb ee,bb = .bool qb -> ee = .int .i64 1 -> Calls Tryz.prog 103 #[bb,ee] V fun r w' => r = .returned (.int .i64 z8) /\ w' = V) := fun V bb ee e1 e2 => by rw [e1,e2,hz8]; exact unless_any qb 1 V
  have cU6 : Hid (∀ V bb ee,bb = .bool (decide ((X2.size : Int) <= 16)) -> ee = .int .i64 2 -> Calls Tryz.prog 103 #[bb,ee] V fun r w' => r = .returned (.int .i64 z6) /\ w' = V) := fun V bb ee e1 e2 => by
    rw [e1,e2,hz6,show decide ((X2.size : Int) <= 16) = decide (X2.size <= 16) by rw [decide_eq_decide]; omega]
    exact unless_any _ 2 V
  have cU5 : Hid (∀ V bb ee,bb = .bool (btwB 1 T0 32) -> ee = .int .i64 1 -> Calls Tryz.prog 103 #[bb,ee] V fun r w' => r = .returned (.int .i64 z5) /\ w' = V) := fun V bb ee e1 e2 => by rw [e1,e2,hz5]; exact unless_any (btwB 1 T0 32) 1 V
  have cU7 : Hid (∀ V bb ee,bb = .bool (btwB 1 H0 4) -> ee = .int .i64 1 -> Calls Tryz.prog 103 #[bb,ee] V fun r w' => r = .returned (.int .i64 z7) /\ w' = V) := fun V bb ee e1 e2 => by rw [e1,e2,hz7]; exact unless_any (btwB 1 H0 4) 1 V
  have cOr : Hid (∀ V B,V.cell? ⟨B,0,none⟩ = some (.int .i64 z1) -> V.cell? ⟨B,1,none⟩ = some (.int .i64 z2) -> V.cell? ⟨B,2,none⟩ = some (.int .i64 z3) -> V.cell? ⟨B,3,none⟩ = some (.int .i64 z4) -> V.cell? ⟨B,4,none⟩ = some (.int .i64 z5) -> V.cell? ⟨B,5,none⟩ = some (.int .i64 z6) -> V.cell? ⟨B,6,none⟩ = some (.int .i64 z7) -> V.cell? ⟨B,7,none⟩ = some (.int .i64 z8) -> Calls Tryz.prog 102 #[.slice (some ⟨B,0,none⟩) 8 8] V fun r w' => r = .returned (.int .i64 R) /\ w' = V) := fun V B g0 g1 g2 g3 g4 g5 g6 g7 => by rw [unhide hR]; exact or8_8 z1 z2 z3 z4 z5 z6 z7 z8 g0 g1 g2 g3 g4 g5 g6 g7
  have G (V : World) (h : HeldS w [(⟨w.heap.size,0,none⟩,.string X0),(⟨w.heap.size,1,none⟩,.string X1),(⟨w.heap.size,2,none⟩,.int .i64 G0),(⟨w.heap.size,3,none⟩,.string Y0),(⟨w.heap.size,4,none⟩,.string Y1),(⟨w.heap.size,5,none⟩,.string Y2),(⟨w.heap.size,6,none⟩,.int .i64 P0),(⟨w.heap.size,7,none⟩,.int .i64 N0),(⟨w.heap.size,8,none⟩,.int .i64 N1),(⟨w.heap.size,9,none⟩,.slice a1 n1 c1),(⟨w.heap.size,10,none⟩,.int .i64 T0),(⟨w.heap.size,11,none⟩,.string X2),(⟨w.heap.size,12,none⟩,.int .i64 H0),(⟨w.heap.size,13,none⟩,.int .i64 B0),(⟨w.heap.size,14,none⟩,.bool D0)] V) : Below w.heap.size w V := h.gr
  have k4 : Hid (∀ V,(Hid (HeldS w [(⟨w.heap.size,0,none⟩,.string X0),(⟨w.heap.size,1,none⟩,.string X1),(⟨w.heap.size,2,none⟩,.int .i64 G0),(⟨w.heap.size,3,none⟩,.string Y0),(⟨w.heap.size,4,none⟩,.string Y1),(⟨w.heap.size,5,none⟩,.string Y2),(⟨w.heap.size,6,none⟩,.int .i64 P0),(⟨w.heap.size,7,none⟩,.int .i64 N0),(⟨w.heap.size,8,none⟩,.int .i64 N1),(⟨w.heap.size,9,none⟩,.slice a1 n1 c1),(⟨w.heap.size,10,none⟩,.int .i64 T0),(⟨w.heap.size,11,none⟩,.string X2),(⟨w.heap.size,12,none⟩,.int .i64 H0),(⟨w.heap.size,13,none⟩,.int .i64 B0),(⟨w.heap.size,14,none⟩,.bool D0)] V) /\ V.cell? ⟨w.heap.size,0,none⟩ = some (.string X0) /\ V.cell? ⟨w.heap.size,1,none⟩ = some (.string X1) /\ V.cell? ⟨w.heap.size,2,none⟩ = some (.int .i64 G0) /\ V.cell? ⟨w.heap.size,3,none⟩ = some (.string Y0) /\ V.cell? ⟨w.heap.size,4,none⟩ = some (.string Y1) /\ V.cell? ⟨w.heap.size,5,none⟩ = some (.string Y2) /\ V.cell? ⟨w.heap.size,6,none⟩ = some (.int .i64 P0) /\ V.cell? ⟨w.heap.size,7,none⟩ = some (.int .i64 N0) /\ V.cell? ⟨w.heap.size,8,none⟩ = some (.int .i64 N1) /\ V.cell? ⟨w.heap.size,9,none⟩ = some (.slice a1 n1 c1) /\ V.cell? ⟨w.heap.size,10,none⟩ = some (.int .i64 T0) /\ V.cell? ⟨w.heap.size,11,none⟩ = some (.string X2) /\ V.cell? ⟨w.heap.size,12,none⟩ = some (.int .i64 H0) /\ V.cell? ⟨w.heap.size,13,none⟩ = some (.int .i64 B0) /\ V.cell? ⟨w.heap.size,14,none⟩ = some (.bool D0)) -> Calls Tryz.prog 117 #[.slice a1 n1 c1] V fun e w' => e = .returned (.int .i64 z4) /\ Below V.heap.size V w') := fun V hs => by rw [hz4]; exact poffers_any _ _ V (hq1.below (G V (unhide hs.1)))
  clear hn1 hz2 hz3 hz4 hqo hqb hX0 hX1 hX2 hY0 hY1 hY2 hN0 hN1 hP0 hG0 hB0 hT0 hH0 hD0 hz1 hz5 hz6 hz7 hz8 hq1 G hR hlen
  have sall : Hid (∀ V,HeldS w [(⟨w.heap.size,0,none⟩,.string X0),(⟨w.heap.size,1,none⟩,.string X1),(⟨w.heap.size,2,none⟩,.int .i64 G0),(⟨w.heap.size,3,none⟩,.string Y0),(⟨w.heap.size,4,none⟩,.string Y1),(⟨w.heap.size,5,none⟩,.string Y2),(⟨w.heap.size,6,none⟩,.int .i64 P0),(⟨w.heap.size,7,none⟩,.int .i64 N0),(⟨w.heap.size,8,none⟩,.int .i64 N1),(⟨w.heap.size,9,none⟩,.slice a1 n1 c1),(⟨w.heap.size,10,none⟩,.int .i64 T0),(⟨w.heap.size,11,none⟩,.string X2),(⟨w.heap.size,12,none⟩,.int .i64 H0),(⟨w.heap.size,13,none⟩,.int .i64 B0),(⟨w.heap.size,14,none⟩,.bool D0)] V -> Hid (HeldS w [(⟨w.heap.size,0,none⟩,.string X0),(⟨w.heap.size,1,none⟩,.string X1),(⟨w.heap.size,2,none⟩,.int .i64 G0),(⟨w.heap.size,3,none⟩,.string Y0),(⟨w.heap.size,4,none⟩,.string Y1),(⟨w.heap.size,5,none⟩,.string Y2),(⟨w.heap.size,6,none⟩,.int .i64 P0),(⟨w.heap.size,7,none⟩,.int .i64 N0),(⟨w.heap.size,8,none⟩,.int .i64 N1),(⟨w.heap.size,9,none⟩,.slice a1 n1 c1),(⟨w.heap.size,10,none⟩,.int .i64 T0),(⟨w.heap.size,11,none⟩,.string X2),(⟨w.heap.size,12,none⟩,.int .i64 H0),(⟨w.heap.size,13,none⟩,.int .i64 B0),(⟨w.heap.size,14,none⟩,.bool D0)] V) /\ V.cell? ⟨w.heap.size,0,none⟩ = some (.string X0) /\ V.cell? ⟨w.heap.size,1,none⟩ = some (.string X1) /\ V.cell? ⟨w.heap.size,2,none⟩ = some (.int .i64 G0) /\ V.cell? ⟨w.heap.size,3,none⟩ = some (.string Y0) /\ V.cell? ⟨w.heap.size,4,none⟩ = some (.string Y1) /\ V.cell? ⟨w.heap.size,5,none⟩ = some (.string Y2) /\ V.cell? ⟨w.heap.size,6,none⟩ = some (.int .i64 P0) /\ V.cell? ⟨w.heap.size,7,none⟩ = some (.int .i64 N0) /\ V.cell? ⟨w.heap.size,8,none⟩ = some (.int .i64 N1) /\ V.cell? ⟨w.heap.size,9,none⟩ = some (.slice a1 n1 c1) /\ V.cell? ⟨w.heap.size,10,none⟩ = some (.int .i64 T0) /\ V.cell? ⟨w.heap.size,11,none⟩ = some (.string X2) /\ V.cell? ⟨w.heap.size,12,none⟩ = some (.int .i64 H0) /\ V.cell? ⟨w.heap.size,13,none⟩ = some (.int .i64 B0) /\ V.cell? ⟨w.heap.size,14,none⟩ = some (.bool D0)) := fun V h => ⟨h,h.at 0 rfl,h.at 1 rfl,h.at 2 rfl,h.at 3 rfl,h.at 4 rfl,h.at 5 rfl,h.at 6 rfl,h.at 7 rfl,h.at 8 rfl,h.at 9 rfl,h.at 10 rfl,h.at 11 rfl,h.at 12 rfl,h.at 13 rfl,h.at 14 rfl⟩
  have kdrew : Hid (∀ V,(Hid (HeldS w [(⟨w.heap.size,0,none⟩,.string X0),(⟨w.heap.size,1,none⟩,.string X1),(⟨w.heap.size,2,none⟩,.int .i64 G0),(⟨w.heap.size,3,none⟩,.string Y0),(⟨w.heap.size,4,none⟩,.string Y1),(⟨w.heap.size,5,none⟩,.string Y2),(⟨w.heap.size,6,none⟩,.int .i64 P0),(⟨w.heap.size,7,none⟩,.int .i64 N0),(⟨w.heap.size,8,none⟩,.int .i64 N1),(⟨w.heap.size,9,none⟩,.slice a1 n1 c1),(⟨w.heap.size,10,none⟩,.int .i64 T0),(⟨w.heap.size,11,none⟩,.string X2),(⟨w.heap.size,12,none⟩,.int .i64 H0),(⟨w.heap.size,13,none⟩,.int .i64 B0),(⟨w.heap.size,14,none⟩,.bool D0)] V) /\ V.cell? ⟨w.heap.size,0,none⟩ = some (.string X0) /\ V.cell? ⟨w.heap.size,1,none⟩ = some (.string X1) /\ V.cell? ⟨w.heap.size,2,none⟩ = some (.int .i64 G0) /\ V.cell? ⟨w.heap.size,3,none⟩ = some (.string Y0) /\ V.cell? ⟨w.heap.size,4,none⟩ = some (.string Y1) /\ V.cell? ⟨w.heap.size,5,none⟩ = some (.string Y2) /\ V.cell? ⟨w.heap.size,6,none⟩ = some (.int .i64 P0) /\ V.cell? ⟨w.heap.size,7,none⟩ = some (.int .i64 N0) /\ V.cell? ⟨w.heap.size,8,none⟩ = some (.int .i64 N1) /\ V.cell? ⟨w.heap.size,9,none⟩ = some (.slice a1 n1 c1) /\ V.cell? ⟨w.heap.size,10,none⟩ = some (.int .i64 T0) /\ V.cell? ⟨w.heap.size,11,none⟩ = some (.string X2) /\ V.cell? ⟨w.heap.size,12,none⟩ = some (.int .i64 H0) /\ V.cell? ⟨w.heap.size,13,none⟩ = some (.int .i64 B0) /\ V.cell? ⟨w.heap.size,14,none⟩ = some (.bool D0)) -> Hid (HeldS w [(⟨w.heap.size,0,none⟩,.string X0),(⟨w.heap.size,1,none⟩,.string X1),(⟨w.heap.size,2,none⟩,.int .i64 G0),(⟨w.heap.size,3,none⟩,.string Y0),(⟨w.heap.size,4,none⟩,.string Y1),(⟨w.heap.size,5,none⟩,.string Y2),(⟨w.heap.size,6,none⟩,.int .i64 P0),(⟨w.heap.size,7,none⟩,.int .i64 N0),(⟨w.heap.size,8,none⟩,.int .i64 N1),(⟨w.heap.size,9,none⟩,.slice a1 n1 c1),(⟨w.heap.size,10,none⟩,.int .i64 T0),(⟨w.heap.size,11,none⟩,.string X2),(⟨w.heap.size,12,none⟩,.int .i64 H0),(⟨w.heap.size,13,none⟩,.int .i64 B0),(⟨w.heap.size,14,none⟩,.bool D0)] V.drew) /\ V.drew.cell? ⟨w.heap.size,0,none⟩ = some (.string X0) /\ V.drew.cell? ⟨w.heap.size,1,none⟩ = some (.string X1) /\ V.drew.cell? ⟨w.heap.size,2,none⟩ = some (.int .i64 G0) /\ V.drew.cell? ⟨w.heap.size,3,none⟩ = some (.string Y0) /\ V.drew.cell? ⟨w.heap.size,4,none⟩ = some (.string Y1) /\ V.drew.cell? ⟨w.heap.size,5,none⟩ = some (.string Y2) /\ V.drew.cell? ⟨w.heap.size,6,none⟩ = some (.int .i64 P0) /\ V.drew.cell? ⟨w.heap.size,7,none⟩ = some (.int .i64 N0) /\ V.drew.cell? ⟨w.heap.size,8,none⟩ = some (.int .i64 N1) /\ V.drew.cell? ⟨w.heap.size,9,none⟩ = some (.slice a1 n1 c1) /\ V.drew.cell? ⟨w.heap.size,10,none⟩ = some (.int .i64 T0) /\ V.drew.cell? ⟨w.heap.size,11,none⟩ = some (.string X2) /\ V.drew.cell? ⟨w.heap.size,12,none⟩ = some (.int .i64 H0) /\ V.drew.cell? ⟨w.heap.size,13,none⟩ = some (.int .i64 B0) /\ V.drew.cell? ⟨w.heap.size,14,none⟩ = some (.bool D0)) := fun V h => unhide sall _ (unhide h.1).drew
  have kalloc : Hid (∀ V o,(Hid (HeldS w [(⟨w.heap.size,0,none⟩,.string X0),(⟨w.heap.size,1,none⟩,.string X1),(⟨w.heap.size,2,none⟩,.int .i64 G0),(⟨w.heap.size,3,none⟩,.string Y0),(⟨w.heap.size,4,none⟩,.string Y1),(⟨w.heap.size,5,none⟩,.string Y2),(⟨w.heap.size,6,none⟩,.int .i64 P0),(⟨w.heap.size,7,none⟩,.int .i64 N0),(⟨w.heap.size,8,none⟩,.int .i64 N1),(⟨w.heap.size,9,none⟩,.slice a1 n1 c1),(⟨w.heap.size,10,none⟩,.int .i64 T0),(⟨w.heap.size,11,none⟩,.string X2),(⟨w.heap.size,12,none⟩,.int .i64 H0),(⟨w.heap.size,13,none⟩,.int .i64 B0),(⟨w.heap.size,14,none⟩,.bool D0)] V) /\ V.cell? ⟨w.heap.size,0,none⟩ = some (.string X0) /\ V.cell? ⟨w.heap.size,1,none⟩ = some (.string X1) /\ V.cell? ⟨w.heap.size,2,none⟩ = some (.int .i64 G0) /\ V.cell? ⟨w.heap.size,3,none⟩ = some (.string Y0) /\ V.cell? ⟨w.heap.size,4,none⟩ = some (.string Y1) /\ V.cell? ⟨w.heap.size,5,none⟩ = some (.string Y2) /\ V.cell? ⟨w.heap.size,6,none⟩ = some (.int .i64 P0) /\ V.cell? ⟨w.heap.size,7,none⟩ = some (.int .i64 N0) /\ V.cell? ⟨w.heap.size,8,none⟩ = some (.int .i64 N1) /\ V.cell? ⟨w.heap.size,9,none⟩ = some (.slice a1 n1 c1) /\ V.cell? ⟨w.heap.size,10,none⟩ = some (.int .i64 T0) /\ V.cell? ⟨w.heap.size,11,none⟩ = some (.string X2) /\ V.cell? ⟨w.heap.size,12,none⟩ = some (.int .i64 H0) /\ V.cell? ⟨w.heap.size,13,none⟩ = some (.int .i64 B0) /\ V.cell? ⟨w.heap.size,14,none⟩ = some (.bool D0)) -> Hid (HeldS w [(⟨w.heap.size,0,none⟩,.string X0),(⟨w.heap.size,1,none⟩,.string X1),(⟨w.heap.size,2,none⟩,.int .i64 G0),(⟨w.heap.size,3,none⟩,.string Y0),(⟨w.heap.size,4,none⟩,.string Y1),(⟨w.heap.size,5,none⟩,.string Y2),(⟨w.heap.size,6,none⟩,.int .i64 P0),(⟨w.heap.size,7,none⟩,.int .i64 N0),(⟨w.heap.size,8,none⟩,.int .i64 N1),(⟨w.heap.size,9,none⟩,.slice a1 n1 c1),(⟨w.heap.size,10,none⟩,.int .i64 T0),(⟨w.heap.size,11,none⟩,.string X2),(⟨w.heap.size,12,none⟩,.int .i64 H0),(⟨w.heap.size,13,none⟩,.int .i64 B0),(⟨w.heap.size,14,none⟩,.bool D0)] (V.alloc o)) /\ (V.alloc o).cell? ⟨w.heap.size,0,none⟩ = some (.string X0) /\ (V.alloc o).cell? ⟨w.heap.size,1,none⟩ = some (.string X1) /\ (V.alloc o).cell? ⟨w.heap.size,2,none⟩ = some (.int .i64 G0) /\ (V.alloc o).cell? ⟨w.heap.size,3,none⟩ = some (.string Y0) /\ (V.alloc o).cell? ⟨w.heap.size,4,none⟩ = some (.string Y1) /\ (V.alloc o).cell? ⟨w.heap.size,5,none⟩ = some (.string Y2) /\ (V.alloc o).cell? ⟨w.heap.size,6,none⟩ = some (.int .i64 P0) /\ (V.alloc o).cell? ⟨w.heap.size,7,none⟩ = some (.int .i64 N0) /\ (V.alloc o).cell? ⟨w.heap.size,8,none⟩ = some (.int .i64 N1) /\ (V.alloc o).cell? ⟨w.heap.size,9,none⟩ = some (.slice a1 n1 c1) /\ (V.alloc o).cell? ⟨w.heap.size,10,none⟩ = some (.int .i64 T0) /\ (V.alloc o).cell? ⟨w.heap.size,11,none⟩ = some (.string X2) /\ (V.alloc o).cell? ⟨w.heap.size,12,none⟩ = some (.int .i64 H0) /\ (V.alloc o).cell? ⟨w.heap.size,13,none⟩ = some (.int .i64 B0) /\ (V.alloc o).cell? ⟨w.heap.size,14,none⟩ = some (.bool D0)) := fun V o h => unhide sall _ ((unhide h.1).alloc o)
  have kcall : Hid (∀ V V',(Hid (HeldS w [(⟨w.heap.size,0,none⟩,.string X0),(⟨w.heap.size,1,none⟩,.string X1),(⟨w.heap.size,2,none⟩,.int .i64 G0),(⟨w.heap.size,3,none⟩,.string Y0),(⟨w.heap.size,4,none⟩,.string Y1),(⟨w.heap.size,5,none⟩,.string Y2),(⟨w.heap.size,6,none⟩,.int .i64 P0),(⟨w.heap.size,7,none⟩,.int .i64 N0),(⟨w.heap.size,8,none⟩,.int .i64 N1),(⟨w.heap.size,9,none⟩,.slice a1 n1 c1),(⟨w.heap.size,10,none⟩,.int .i64 T0),(⟨w.heap.size,11,none⟩,.string X2),(⟨w.heap.size,12,none⟩,.int .i64 H0),(⟨w.heap.size,13,none⟩,.int .i64 B0),(⟨w.heap.size,14,none⟩,.bool D0)] V) /\ V.cell? ⟨w.heap.size,0,none⟩ = some (.string X0) /\ V.cell? ⟨w.heap.size,1,none⟩ = some (.string X1) /\ V.cell? ⟨w.heap.size,2,none⟩ = some (.int .i64 G0) /\ V.cell? ⟨w.heap.size,3,none⟩ = some (.string Y0) /\ V.cell? ⟨w.heap.size,4,none⟩ = some (.string Y1) /\ V.cell? ⟨w.heap.size,5,none⟩ = some (.string Y2) /\ V.cell? ⟨w.heap.size,6,none⟩ = some (.int .i64 P0) /\ V.cell? ⟨w.heap.size,7,none⟩ = some (.int .i64 N0) /\ V.cell? ⟨w.heap.size,8,none⟩ = some (.int .i64 N1) /\ V.cell? ⟨w.heap.size,9,none⟩ = some (.slice a1 n1 c1) /\ V.cell? ⟨w.heap.size,10,none⟩ = some (.int .i64 T0) /\ V.cell? ⟨w.heap.size,11,none⟩ = some (.string X2) /\ V.cell? ⟨w.heap.size,12,none⟩ = some (.int .i64 H0) /\ V.cell? ⟨w.heap.size,13,none⟩ = some (.int .i64 B0) /\ V.cell? ⟨w.heap.size,14,none⟩ = some (.bool D0)) -> Below V.heap.size V V' -> Hid (HeldS w [(⟨w.heap.size,0,none⟩,.string X0),(⟨w.heap.size,1,none⟩,.string X1),(⟨w.heap.size,2,none⟩,.int .i64 G0),(⟨w.heap.size,3,none⟩,.string Y0),(⟨w.heap.size,4,none⟩,.string Y1),(⟨w.heap.size,5,none⟩,.string Y2),(⟨w.heap.size,6,none⟩,.int .i64 P0),(⟨w.heap.size,7,none⟩,.int .i64 N0),(⟨w.heap.size,8,none⟩,.int .i64 N1),(⟨w.heap.size,9,none⟩,.slice a1 n1 c1),(⟨w.heap.size,10,none⟩,.int .i64 T0),(⟨w.heap.size,11,none⟩,.string X2),(⟨w.heap.size,12,none⟩,.int .i64 H0),(⟨w.heap.size,13,none⟩,.int .i64 B0),(⟨w.heap.size,14,none⟩,.bool D0)] V') /\ V'.cell? ⟨w.heap.size,0,none⟩ = some (.string X0) /\ V'.cell? ⟨w.heap.size,1,none⟩ = some (.string X1) /\ V'.cell? ⟨w.heap.size,2,none⟩ = some (.int .i64 G0) /\ V'.cell? ⟨w.heap.size,3,none⟩ = some (.string Y0) /\ V'.cell? ⟨w.heap.size,4,none⟩ = some (.string Y1) /\ V'.cell? ⟨w.heap.size,5,none⟩ = some (.string Y2) /\ V'.cell? ⟨w.heap.size,6,none⟩ = some (.int .i64 P0) /\ V'.cell? ⟨w.heap.size,7,none⟩ = some (.int .i64 N0) /\ V'.cell? ⟨w.heap.size,8,none⟩ = some (.int .i64 N1) /\ V'.cell? ⟨w.heap.size,9,none⟩ = some (.slice a1 n1 c1) /\ V'.cell? ⟨w.heap.size,10,none⟩ = some (.int .i64 T0) /\ V'.cell? ⟨w.heap.size,11,none⟩ = some (.string X2) /\ V'.cell? ⟨w.heap.size,12,none⟩ = some (.int .i64 H0) /\ V'.cell? ⟨w.heap.size,13,none⟩ = some (.int .i64 B0) /\ V'.cell? ⟨w.heap.size,14,none⟩ = some (.bool D0)) := fun V V' h hb => unhide sall _ ((unhide h.1).below hb)
  have hS : Hid (HeldS w [(⟨w.heap.size,0,none⟩,.string X0),(⟨w.heap.size,1,none⟩,.string X1),(⟨w.heap.size,2,none⟩,.int .i64 G0),(⟨w.heap.size,3,none⟩,.string Y0),(⟨w.heap.size,4,none⟩,.string Y1),(⟨w.heap.size,5,none⟩,.string Y2),(⟨w.heap.size,6,none⟩,.int .i64 P0),(⟨w.heap.size,7,none⟩,.int .i64 N0),(⟨w.heap.size,8,none⟩,.int .i64 N1),(⟨w.heap.size,9,none⟩,.slice a1 n1 c1),(⟨w.heap.size,10,none⟩,.int .i64 T0),(⟨w.heap.size,11,none⟩,.string X2),(⟨w.heap.size,12,none⟩,.int .i64 H0),(⟨w.heap.size,13,none⟩,.int .i64 B0),(⟨w.heap.size,14,none⟩,.bool D0)] (w.alloc (.cells #[.string X0,.string X1,.int .i64 G0,.string Y0,.string Y1,.string Y2,.int .i64 P0,.int .i64 N0,.int .i64 N1,.slice a1 n1 c1,.int .i64 T0,.string X2,.int .i64 H0,.int .i64 B0,.bool D0] 37))) /\ (w.alloc (.cells #[.string X0,.string X1,.int .i64 G0,.string Y0,.string Y1,.string Y2,.int .i64 P0,.int .i64 N0,.int .i64 N1,.slice a1 n1 c1,.int .i64 T0,.string X2,.int .i64 H0,.int .i64 B0,.bool D0] 37)).cell? ⟨w.heap.size,0,none⟩ = some (.string X0) /\ (w.alloc (.cells #[.string X0,.string X1,.int .i64 G0,.string Y0,.string Y1,.string Y2,.int .i64 P0,.int .i64 N0,.int .i64 N1,.slice a1 n1 c1,.int .i64 T0,.string X2,.int .i64 H0,.int .i64 B0,.bool D0] 37)).cell? ⟨w.heap.size,1,none⟩ = some (.string X1) /\ (w.alloc (.cells #[.string X0,.string X1,.int .i64 G0,.string Y0,.string Y1,.string Y2,.int .i64 P0,.int .i64 N0,.int .i64 N1,.slice a1 n1 c1,.int .i64 T0,.string X2,.int .i64 H0,.int .i64 B0,.bool D0] 37)).cell? ⟨w.heap.size,2,none⟩ = some (.int .i64 G0) /\ (w.alloc (.cells #[.string X0,.string X1,.int .i64 G0,.string Y0,.string Y1,.string Y2,.int .i64 P0,.int .i64 N0,.int .i64 N1,.slice a1 n1 c1,.int .i64 T0,.string X2,.int .i64 H0,.int .i64 B0,.bool D0] 37)).cell? ⟨w.heap.size,3,none⟩ = some (.string Y0) /\ (w.alloc (.cells #[.string X0,.string X1,.int .i64 G0,.string Y0,.string Y1,.string Y2,.int .i64 P0,.int .i64 N0,.int .i64 N1,.slice a1 n1 c1,.int .i64 T0,.string X2,.int .i64 H0,.int .i64 B0,.bool D0] 37)).cell? ⟨w.heap.size,4,none⟩ = some (.string Y1) /\ (w.alloc (.cells #[.string X0,.string X1,.int .i64 G0,.string Y0,.string Y1,.string Y2,.int .i64 P0,.int .i64 N0,.int .i64 N1,.slice a1 n1 c1,.int .i64 T0,.string X2,.int .i64 H0,.int .i64 B0,.bool D0] 37)).cell? ⟨w.heap.size,5,none⟩ = some (.string Y2) /\ (w.alloc (.cells #[.string X0,.string X1,.int .i64 G0,.string Y0,.string Y1,.string Y2,.int .i64 P0,.int .i64 N0,.int .i64 N1,.slice a1 n1 c1,.int .i64 T0,.string X2,.int .i64 H0,.int .i64 B0,.bool D0] 37)).cell? ⟨w.heap.size,6,none⟩ = some (.int .i64 P0) /\ (w.alloc (.cells #[.string X0,.string X1,.int .i64 G0,.string Y0,.string Y1,.string Y2,.int .i64 P0,.int .i64 N0,.int .i64 N1,.slice a1 n1 c1,.int .i64 T0,.string X2,.int .i64 H0,.int .i64 B0,.bool D0] 37)).cell? ⟨w.heap.size,7,none⟩ = some (.int .i64 N0) /\ (w.alloc (.cells #[.string X0,.string X1,.int .i64 G0,.string Y0,.string Y1,.string Y2,.int .i64 P0,.int .i64 N0,.int .i64 N1,.slice a1 n1 c1,.int .i64 T0,.string X2,.int .i64 H0,.int .i64 B0,.bool D0] 37)).cell? ⟨w.heap.size,8,none⟩ = some (.int .i64 N1) /\ (w.alloc (.cells #[.string X0,.string X1,.int .i64 G0,.string Y0,.string Y1,.string Y2,.int .i64 P0,.int .i64 N0,.int .i64 N1,.slice a1 n1 c1,.int .i64 T0,.string X2,.int .i64 H0,.int .i64 B0,.bool D0] 37)).cell? ⟨w.heap.size,9,none⟩ = some (.slice a1 n1 c1) /\ (w.alloc (.cells #[.string X0,.string X1,.int .i64 G0,.string Y0,.string Y1,.string Y2,.int .i64 P0,.int .i64 N0,.int .i64 N1,.slice a1 n1 c1,.int .i64 T0,.string X2,.int .i64 H0,.int .i64 B0,.bool D0] 37)).cell? ⟨w.heap.size,10,none⟩ = some (.int .i64 T0) /\ (w.alloc (.cells #[.string X0,.string X1,.int .i64 G0,.string Y0,.string Y1,.string Y2,.int .i64 P0,.int .i64 N0,.int .i64 N1,.slice a1 n1 c1,.int .i64 T0,.string X2,.int .i64 H0,.int .i64 B0,.bool D0] 37)).cell? ⟨w.heap.size,11,none⟩ = some (.string X2) /\ (w.alloc (.cells #[.string X0,.string X1,.int .i64 G0,.string Y0,.string Y1,.string Y2,.int .i64 P0,.int .i64 N0,.int .i64 N1,.slice a1 n1 c1,.int .i64 T0,.string X2,.int .i64 H0,.int .i64 B0,.bool D0] 37)).cell? ⟨w.heap.size,12,none⟩ = some (.int .i64 H0) /\ (w.alloc (.cells #[.string X0,.string X1,.int .i64 G0,.string Y0,.string Y1,.string Y2,.int .i64 P0,.int .i64 N0,.int .i64 N1,.slice a1 n1 c1,.int .i64 T0,.string X2,.int .i64 H0,.int .i64 B0,.bool D0] 37)).cell? ⟨w.heap.size,13,none⟩ = some (.int .i64 B0) /\ (w.alloc (.cells #[.string X0,.string X1,.int .i64 G0,.string Y0,.string Y1,.string Y2,.int .i64 P0,.int .i64 N0,.int .i64 N1,.slice a1 n1 c1,.int .i64 T0,.string X2,.int .i64 H0,.int .i64 B0,.bool D0] 37)).cell? ⟨w.heap.size,14,none⟩ = some (.bool D0) := unhide sall _ ⟨boxb _,fun x hx => by simp only [List.mem_cons,List.not_mem_nil,or_false] at hx; rcases hx with rfl | rfl | rfl | rfl | rfl | rfl | rfl | rfl | rfl | rfl | rfl | rfl | rfl | rfl | rfl <;> simp [go_sem]⟩
  clear sall
  go_enter Tryz.func65,Tryz.ntmps65
  go_wp2_with fail
  refine wp_region_noPanic ?_
  refine wp_region_held_drew (S := fun V => Hid (HeldS w [(⟨w.heap.size,0,none⟩,.string X0),(⟨w.heap.size,1,none⟩,.string X1),(⟨w.heap.size,2,none⟩,.int .i64 G0),(⟨w.heap.size,3,none⟩,.string Y0),(⟨w.heap.size,4,none⟩,.string Y1),(⟨w.heap.size,5,none⟩,.string Y2),(⟨w.heap.size,6,none⟩,.int .i64 P0),(⟨w.heap.size,7,none⟩,.int .i64 N0),(⟨w.heap.size,8,none⟩,.int .i64 N1),(⟨w.heap.size,9,none⟩,.slice a1 n1 c1),(⟨w.heap.size,10,none⟩,.int .i64 T0),(⟨w.heap.size,11,none⟩,.string X2),(⟨w.heap.size,12,none⟩,.int .i64 H0),(⟨w.heap.size,13,none⟩,.int .i64 B0),(⟨w.heap.size,14,none⟩,.bool D0)] V) /\ V.cell? ⟨w.heap.size,0,none⟩ = some (.string X0) /\ V.cell? ⟨w.heap.size,1,none⟩ = some (.string X1) /\ V.cell? ⟨w.heap.size,2,none⟩ = some (.int .i64 G0) /\ V.cell? ⟨w.heap.size,3,none⟩ = some (.string Y0) /\ V.cell? ⟨w.heap.size,4,none⟩ = some (.string Y1) /\ V.cell? ⟨w.heap.size,5,none⟩ = some (.string Y2) /\ V.cell? ⟨w.heap.size,6,none⟩ = some (.int .i64 P0) /\ V.cell? ⟨w.heap.size,7,none⟩ = some (.int .i64 N0) /\ V.cell? ⟨w.heap.size,8,none⟩ = some (.int .i64 N1) /\ V.cell? ⟨w.heap.size,9,none⟩ = some (.slice a1 n1 c1) /\ V.cell? ⟨w.heap.size,10,none⟩ = some (.int .i64 T0) /\ V.cell? ⟨w.heap.size,11,none⟩ = some (.string X2) /\ V.cell? ⟨w.heap.size,12,none⟩ = some (.int .i64 H0) /\ V.cell? ⟨w.heap.size,13,none⟩ = some (.int .i64 B0) /\ V.cell? ⟨w.heap.size,14,none⟩ = some (.bool D0)) (by kernel_rfl) (unhide kdrew _ hS) (fun hHeld0 => ?_)
  refine takeH6 (i := 0) (d := 3) (v := ?_) rfl rfl (by kernel_rfl) (by kernel_rfl) (by kernel_rfl) (fun _ _ _ h => h) (Or.inl ⟨by rfl,?_⟩) (by assumption) ?_
  rotate_left
  · (intro W hSW; (try dsimp only at hSW); go_simp; try (with_reducible rfl))
  try simp only [Act.put,List.setIfInBounds_toArray,List.set_cons_zero,List.set_cons_succ]
  refine takeH6 (i := 1) (d := 4) (v := ?_) rfl rfl (by kernel_rfl) (by kernel_rfl) (by kernel_rfl) (fun _ _ _ h => h) (Or.inl ⟨by rfl,?_⟩) (by assumption) ?_
  rotate_left
  · (intro W hSW; (try dsimp only at hSW); go_simp; try (with_reducible rfl))
  try simp only [Act.put,List.setIfInBounds_toArray,List.set_cons_zero,List.set_cons_succ]
  refine takeH6 (i := 2) (d := 5) (v := ?_) rfl rfl (by kernel_rfl) (by kernel_rfl) (by kernel_rfl) (fun _ _ _ h => h) (Or.inl ⟨by rfl,?_⟩) (by assumption) ?_
  rotate_left
  · (intro W hSW; (try dsimp only at hSW); go_simp; try (with_reducible rfl))
  try simp only [Act.put,List.setIfInBounds_toArray,List.set_cons_zero,List.set_cons_succ]
  refine takeH6 (i := 3) (d := 6) (v := ?_) rfl rfl (by kernel_rfl) (by kernel_rfl) (by kernel_rfl) (fun _ _ _ h => h) (Or.inl ⟨by rfl,?_⟩) (by assumption) ?_
  rotate_left
  · (intro W hSW; (try dsimp only at hSW); go_simp; try (with_reducible rfl))
  try simp only [Act.put,List.setIfInBounds_toArray,List.set_cons_zero,List.set_cons_succ]
  refine takeH6 (i := 12) (d := 15) (v := ?_) rfl rfl (by kernel_rfl) (by kernel_rfl) (by kernel_rfl) (fun _ _ _ h => h) (Or.inl ⟨by rfl,?_⟩) (by assumption) ?_
  rotate_left
  · (intro W hSW; (try dsimp only at hSW); go_simp; try (with_reducible rfl))
  try simp only [Act.put,List.setIfInBounds_toArray,List.set_cons_zero,List.set_cons_succ]
  refine takeH6 (i := 13) (d := 16) (v := ?_) rfl rfl (by kernel_rfl) (by kernel_rfl) (by kernel_rfl) (fun _ _ _ h => h) (Or.inl ⟨by rfl,?_⟩) (by assumption) ?_
  rotate_left
  · (intro W hSW; (try dsimp only at hSW); go_simp; try (with_reducible rfl))
  try simp only [Act.put,List.setIfInBounds_toArray,List.set_cons_zero,List.set_cons_succ]
  refine takeH6 (i := 15) (d := 18) (v := ?_) rfl rfl (by kernel_rfl) (by kernel_rfl) (by kernel_rfl) (fun _ _ _ h => h) (Or.inl ⟨by rfl,?_⟩) (by assumption) ?_
  rotate_left
  · (intro W hSW; (try dsimp only at hSW); go_simp; try (with_reducible rfl))
  try simp only [Act.put,List.setIfInBounds_toArray,List.set_cons_zero,List.set_cons_succ]
  refine takeH6 (i := 16) (d := 19) (v := ?_) rfl rfl (by kernel_rfl) (by kernel_rfl) (by kernel_rfl) (fun _ _ _ h => h) (Or.inl ⟨by rfl,?_⟩) (by assumption) ?_
  rotate_left
  · (intro W hSW; (try dsimp only at hSW); go_simp; try (with_reducible rfl))
  try simp only [Act.put,List.setIfInBounds_toArray,List.set_cons_zero,List.set_cons_succ]
  refine takeH6 (i := 18) (d := 21) (v := ?_) rfl rfl (by kernel_rfl) (by kernel_rfl) (by kernel_rfl) (fun _ _ _ h => h) (Or.inl ⟨by rfl,?_⟩) (by assumption) ?_
  rotate_left
  · (intro W hSW; (try dsimp only at hSW); go_simp; try (with_reducible rfl))
  try simp only [Act.put,List.setIfInBounds_toArray,List.set_cons_zero,List.set_cons_succ]
  refine takeH6 (i := 19) (d := 22) (v := ?_) rfl rfl (by kernel_rfl) (by kernel_rfl) (by kernel_rfl) (fun _ _ _ h => h) (Or.inl ⟨by rfl,?_⟩) (by assumption) ?_
  rotate_left
  · (intro W hSW; (try dsimp only at hSW); go_simp; try (with_reducible rfl))
  try simp only [Act.put,List.setIfInBounds_toArray,List.set_cons_zero,List.set_cons_succ]
  refine takeH6 (i := 21) (d := 24) (v := ?_) rfl rfl (by kernel_rfl) (by kernel_rfl) (by kernel_rfl) (fun _ _ _ h => h) (Or.inl ⟨by rfl,?_⟩) (by assumption) ?_
  rotate_left
  · (intro W hSW; (try dsimp only at hSW); go_simp; try (with_reducible rfl))
  try simp only [Act.put,List.setIfInBounds_toArray,List.set_cons_zero,List.set_cons_succ]
  refine takeH6 (i := 22) (d := 25) (v := ?_) rfl rfl (by kernel_rfl) (by kernel_rfl) (by kernel_rfl) (fun _ _ _ h => h) (Or.inl ⟨by rfl,?_⟩) (by assumption) ?_
  rotate_left
  · (intro W hSW; (try dsimp only at hSW); go_simp; try (with_reducible rfl))
  try simp only [Act.put,List.setIfInBounds_toArray,List.set_cons_zero,List.set_cons_succ]
  refine takeH6 (i := 25) (d := 28) (v := ?_) rfl rfl (by kernel_rfl) (by kernel_rfl) (by kernel_rfl) (fun _ _ _ h => h) (Or.inl ⟨by rfl,?_⟩) (by assumption) ?_
  rotate_left
  · (intro W hSW; (try dsimp only at hSW); go_simp; try (with_reducible rfl))
  try simp only [Act.put,List.setIfInBounds_toArray,List.set_cons_zero,List.set_cons_succ]
  refine takeH6 (i := 26) (d := 29) (v := ?_) rfl rfl (by kernel_rfl) (by kernel_rfl) (by kernel_rfl) (fun _ _ _ h => h) (Or.inl ⟨by rfl,?_⟩) (by assumption) ?_
  rotate_left
  · (intro W hSW; (try dsimp only at hSW); go_simp; try (with_reducible rfl))
  try simp only [Act.put,List.setIfInBounds_toArray,List.set_cons_zero,List.set_cons_succ]
  refine takeH6 (i := 27) (d := 30) (v := ?_) rfl rfl (by kernel_rfl) (by kernel_rfl) (by kernel_rfl) (fun _ _ _ h => h) (Or.inl ⟨by rfl,?_⟩) (by assumption) ?_
  rotate_left
  · (intro W hSW; (try dsimp only at hSW); go_simp; try (with_reducible rfl))
  try simp only [Act.put,List.setIfInBounds_toArray,List.set_cons_zero,List.set_cons_succ]
  refine takeH6 (i := 28) (d := 31) (v := ?_) rfl rfl (by kernel_rfl) (by kernel_rfl) (by kernel_rfl) (fun _ _ _ h => h) (Or.inl ⟨by rfl,?_⟩) (by assumption) ?_
  rotate_left
  · (intro W hSW; (try dsimp only at hSW); go_simp; try (with_reducible rfl))
  try simp only [Act.put,List.setIfInBounds_toArray,List.set_cons_zero,List.set_cons_succ]
  refine takeH6 (i := 30) (d := 33) (v := ?_) rfl rfl (by kernel_rfl) (by kernel_rfl) (by kernel_rfl) (fun _ _ _ h => h) (Or.inl ⟨by rfl,?_⟩) (by assumption) ?_
  rotate_left
  · (intro W hSW; (try dsimp only at hSW); go_simp; try (with_reducible rfl))
  try simp only [Act.put,List.setIfInBounds_toArray,List.set_cons_zero,List.set_cons_succ]
  refine takeH6 (i := 31) (d := 34) (v := ?_) rfl rfl (by kernel_rfl) (by kernel_rfl) (by kernel_rfl) (fun _ _ _ h => h) (Or.inl ⟨by rfl,?_⟩) (by assumption) ?_
  rotate_left
  · (intro W hSW; (try dsimp only at hSW); go_simp; try (with_reducible rfl))
  try simp only [Act.put,List.setIfInBounds_toArray,List.set_cons_zero,List.set_cons_succ]
  refine takeH6 (i := 34) (d := 37) (v := ?_) rfl rfl (by kernel_rfl) (by kernel_rfl) (by kernel_rfl) (fun _ _ _ h => h) (Or.inl ⟨by rfl,?_⟩) (by assumption) ?_
  rotate_left
  · (intro W hSW; (try dsimp only at hSW); go_simp; try (with_reducible rfl))
  try simp only [Act.put,List.setIfInBounds_toArray,List.set_cons_zero,List.set_cons_succ]
  refine takeH6 (i := 35) (d := 38) (v := ?_) rfl rfl (by kernel_rfl) (by kernel_rfl) (by kernel_rfl) (fun _ _ _ h => h) (Or.inl ⟨by rfl,?_⟩) (by assumption) ?_
  rotate_left
  · (intro W hSW; (try dsimp only at hSW); go_simp; try (with_reducible rfl))
  try simp only [Act.put,List.setIfInBounds_toArray,List.set_cons_zero,List.set_cons_succ]
  refine wpAnyH_ready (rs := [4]) (by kernel_rfl) (by simp) ?_
  refine AllReadyH.cons (o := _) rfl (fun K hK => ?_) AllReadyH.nil
  go_simp
  refine hK.out _ _ ?_ (fun hHeld1 => ?_)
  · (try dsimp only)
    (first | (with_reducible exact hS) | (with_reducible assumption) | (with_reducible refine unhide kdrew _ ?_; with_reducible assumption) | (with_reducible refine unhide kalloc _ _ ?_; with_reducible assumption) | (refine unhide kcall _ _ ?_ (by assumption); with_reducible assumption) | (with_reducible refine unhide kdrew _ (unhide kalloc _ _ ?_); with_reducible assumption) | (with_reducible refine unhide kalloc _ _ (unhide kdrew _ ?_); with_reducible assumption))
  clear hK K hHeld0
  try simp only [Act.put,List.setIfInBounds_toArray,List.set_cons_zero,List.set_cons_succ]
  refine wpAnyH_ready (rs := [5]) (by kernel_rfl) (by simp) ?_
  refine AllReadyH.cons (o := _) rfl (fun K hK => ?_) AllReadyH.nil
  go_simp
  (go_at_call 104; refine (unhide cNm _ _ (by simp [go_sem]) (by simp [go_sem])).mono ?_; rintro e w9 ⟨rfl,rfl⟩)
  refine hK.out _ _ ?_ (fun hHeld2 => ?_)
  · (try dsimp only)
    (first | (with_reducible exact hS) | (with_reducible assumption) | (with_reducible refine unhide kdrew _ ?_; with_reducible assumption) | (with_reducible refine unhide kalloc _ _ ?_; with_reducible assumption) | (refine unhide kcall _ _ ?_ (by assumption); with_reducible assumption) | (with_reducible refine unhide kdrew _ (unhide kalloc _ _ ?_); with_reducible assumption) | (with_reducible refine unhide kalloc _ _ (unhide kdrew _ ?_); with_reducible assumption))
  clear hK K hHeld1
  try simp only [Act.put,List.setIfInBounds_toArray,List.set_cons_zero,List.set_cons_succ]
  refine takeH6 (i := 6) (d := 9) (v := ?_) rfl rfl (by kernel_rfl) (by kernel_rfl) (by kernel_rfl) (fun _ _ _ h => h) (Or.inl ⟨by rfl,?_⟩) (by assumption) ?_
  rotate_left
  · (intro W hSW; (try dsimp only at hSW); go_simp; try (with_reducible rfl))
  try simp only [Act.put,List.setIfInBounds_toArray,List.set_cons_zero,List.set_cons_succ]
  refine takeH6 (i := 7) (d := 10) (v := undef) rfl rfl (by kernel_rfl) (by kernel_rfl) (by kernel_rfl) (fun _ _ _ h => h) (Or.inr ⟨by rfl,rfl⟩) (by assumption) ?_
  try simp only [Act.put,List.setIfInBounds_toArray,List.set_cons_zero,List.set_cons_succ]
  refine takeH6 (i := 8) (d := 11) (v := undef) rfl rfl (by kernel_rfl) (by kernel_rfl) (by kernel_rfl) (fun _ _ _ h => h) (Or.inr ⟨by rfl,rfl⟩) (by assumption) ?_
  try simp only [Act.put,List.setIfInBounds_toArray,List.set_cons_zero,List.set_cons_succ]
  refine takeH6 (i := 9) (d := 12) (v := undef) rfl rfl (by kernel_rfl) (by kernel_rfl) (by kernel_rfl) (fun _ _ _ h => h) (Or.inr ⟨by rfl,rfl⟩) (by assumption) ?_
  try simp only [Act.put,List.setIfInBounds_toArray,List.set_cons_zero,List.set_cons_succ]
  refine takeH6 (i := 10) (d := 13) (v := ?_) rfl rfl (by kernel_rfl) (by kernel_rfl) (by kernel_rfl) (fun _ _ _ h => h) (Or.inl ⟨by rfl,?_⟩) (by assumption) ?_
  rotate_left
  · (intro W hSW; (try dsimp only at hSW); go_simp; try (with_reducible rfl))
  try simp only [Act.put,List.setIfInBounds_toArray,List.set_cons_zero,List.set_cons_succ]
  refine wpAnyH_ready (rs := [11]) (by kernel_rfl) (by simp) ?_
  refine AllReadyH.cons (o := _) rfl (fun K hK => ?_) AllReadyH.nil
  go_simp
  (go_at_call 103; refine (unhide cU1 _ _ _ (by rfl) (by rfl)).mono ?_; rintro e w9 ⟨rfl,rfl⟩)
  refine hK.out _ _ ?_ (fun hHeld3 => ?_)
  · (try dsimp only)
    (first | (with_reducible exact hS) | (with_reducible assumption) | (with_reducible refine unhide kdrew _ ?_; with_reducible assumption) | (with_reducible refine unhide kalloc _ _ ?_; with_reducible assumption) | (refine unhide kcall _ _ ?_ (by assumption); with_reducible assumption) | (with_reducible refine unhide kdrew _ (unhide kalloc _ _ ?_); with_reducible assumption) | (with_reducible refine unhide kalloc _ _ (unhide kdrew _ ?_); with_reducible assumption))
  clear hK K hHeld2
  try simp only [Act.put,List.setIfInBounds_toArray,List.set_cons_zero,List.set_cons_succ]
  refine wpAnyH_ready (rs := [14]) (by kernel_rfl) (by simp) ?_
  refine AllReadyH.cons (o := _) rfl (fun K hK => ?_) AllReadyH.nil
  go_simp
  (go_at_call 116; refine (unhide k2 _).mono ?_; rintro e w9 ⟨rfl,rfl⟩)
  refine hK.out _ _ ?_ (fun hHeld4 => ?_)
  · (try dsimp only)
    (first | (with_reducible exact hS) | (with_reducible assumption) | (with_reducible refine unhide kdrew _ ?_; with_reducible assumption) | (with_reducible refine unhide kalloc _ _ ?_; with_reducible assumption) | (refine unhide kcall _ _ ?_ (by assumption); with_reducible assumption) | (with_reducible refine unhide kdrew _ (unhide kalloc _ _ ?_); with_reducible assumption) | (with_reducible refine unhide kalloc _ _ (unhide kdrew _ ?_); with_reducible assumption))
  clear hK K hHeld3
  try simp only [Act.put,List.setIfInBounds_toArray,List.set_cons_zero,List.set_cons_succ]
  refine wpAnyH_ready (rs := [17]) (by kernel_rfl) (by simp) ?_
  refine AllReadyH.cons (o := _) rfl (fun K hK => ?_) AllReadyH.nil
  go_simp
  (go_at_call 105; refine (unhide k3 _).mono ?_; rintro e w9 ⟨rfl,hw9⟩)
  refine hK.out _ _ ?_ (fun hHeld5 => ?_)
  · (try dsimp only)
    (first | (with_reducible exact hS) | (with_reducible assumption) | (with_reducible refine unhide kdrew _ ?_; with_reducible assumption) | (with_reducible refine unhide kalloc _ _ ?_; with_reducible assumption) | (refine unhide kcall _ _ ?_ (by assumption); with_reducible assumption) | (with_reducible refine unhide kdrew _ (unhide kalloc _ _ ?_); with_reducible assumption) | (with_reducible refine unhide kalloc _ _ (unhide kdrew _ ?_); with_reducible assumption))
  clear hK K hHeld4 hw9
  try simp only [Act.put,List.setIfInBounds_toArray,List.set_cons_zero,List.set_cons_succ]
  refine wpAnyH_ready (rs := [20]) (by kernel_rfl) (by simp) ?_
  refine AllReadyH.cons (o := _) rfl (fun K hK => ?_) AllReadyH.nil
  go_simp
  (go_at_call 117; with_reducible refine (unhide k4 _ ?_).mono ?_; with_reducible assumption; rintro e w9 ⟨rfl,hw9⟩)
  refine hK.out _ _ ?_ (fun hHeld6 => ?_)
  · (try dsimp only)
    (first | (with_reducible exact hS) | (with_reducible assumption) | (with_reducible refine unhide kdrew _ ?_; with_reducible assumption) | (with_reducible refine unhide kalloc _ _ ?_; with_reducible assumption) | (refine unhide kcall _ _ ?_ (by assumption); with_reducible assumption) | (with_reducible refine unhide kdrew _ (unhide kalloc _ _ ?_); with_reducible assumption) | (with_reducible refine unhide kalloc _ _ (unhide kdrew _ ?_); with_reducible assumption))
  clear hK K hHeld5 hw9
  try simp only [Act.put,List.setIfInBounds_toArray,List.set_cons_zero,List.set_cons_succ]
  refine wpAnyH_ready (rs := [23]) (by kernel_rfl) (by simp) ?_
  refine AllReadyH.cons (o := _) rfl (fun K hK => ?_) AllReadyH.nil
  go_simp
  (go_at_call 106; refine (btw_any _ _ _ _).mono ?_; rintro e w9 ⟨rfl,rfl⟩)
  refine hK.out _ _ ?_ (fun hHeld7 => ?_)
  · (try dsimp only)
    (first | (with_reducible exact hS) | (with_reducible assumption) | (with_reducible refine unhide kdrew _ ?_; with_reducible assumption) | (with_reducible refine unhide kalloc _ _ ?_; with_reducible assumption) | (refine unhide kcall _ _ ?_ (by assumption); with_reducible assumption) | (with_reducible refine unhide kdrew _ (unhide kalloc _ _ ?_); with_reducible assumption) | (with_reducible refine unhide kalloc _ _ (unhide kdrew _ ?_); with_reducible assumption))
  clear hK K hHeld6
  try simp only [Act.put,List.setIfInBounds_toArray,List.set_cons_zero,List.set_cons_succ]
  refine wpAnyH_ready (rs := [24]) (by kernel_rfl) (by simp) ?_
  refine AllReadyH.cons (o := _) rfl (fun K hK => ?_) AllReadyH.nil
  go_simp
  (go_at_call 103; refine (unhide cU5 _ _ _ (by rfl) (by rfl)).mono ?_; rintro e w9 ⟨rfl,rfl⟩)
  refine hK.out _ _ ?_ (fun hHeld8 => ?_)
  · (try dsimp only)
    (first | (with_reducible exact hS) | (with_reducible assumption) | (with_reducible refine unhide kdrew _ ?_; with_reducible assumption) | (with_reducible refine unhide kalloc _ _ ?_; with_reducible assumption) | (refine unhide kcall _ _ ?_ (by assumption); with_reducible assumption) | (with_reducible refine unhide kdrew _ (unhide kalloc _ _ ?_); with_reducible assumption) | (with_reducible refine unhide kalloc _ _ (unhide kdrew _ ?_); with_reducible assumption))
  clear hK K hHeld7
  try simp only [Act.put,List.setIfInBounds_toArray,List.set_cons_zero,List.set_cons_succ]
  refine wpAnyH_ready (rs := [29]) (by kernel_rfl) (by simp) ?_
  refine AllReadyH.cons (o := _) rfl (fun K hK => ?_) AllReadyH.nil
  go_simp
  (go_at_call 103; refine (unhide cU6 _ _ _ (by rfl) (by rfl)).mono ?_; rintro e w9 ⟨rfl,rfl⟩)
  refine hK.out _ _ ?_ (fun hHeld9 => ?_)
  · (try dsimp only)
    (first | (with_reducible exact hS) | (with_reducible assumption) | (with_reducible refine unhide kdrew _ ?_; with_reducible assumption) | (with_reducible refine unhide kalloc _ _ ?_; with_reducible assumption) | (refine unhide kcall _ _ ?_ (by assumption); with_reducible assumption) | (with_reducible refine unhide kdrew _ (unhide kalloc _ _ ?_); with_reducible assumption) | (with_reducible refine unhide kalloc _ _ (unhide kdrew _ ?_); with_reducible assumption))
  clear hK K hHeld8
  try simp only [Act.put,List.setIfInBounds_toArray,List.set_cons_zero,List.set_cons_succ]
  refine wpAnyH_ready (rs := [32]) (by kernel_rfl) (by simp) ?_
  refine AllReadyH.cons (o := _) rfl (fun K hK => ?_) AllReadyH.nil
  go_simp
  (go_at_call 106; refine (btw_any _ _ _ _).mono ?_; rintro e w9 ⟨rfl,rfl⟩)
  refine hK.out _ _ ?_ (fun hHeld10 => ?_)
  · (try dsimp only)
    (first | (with_reducible exact hS) | (with_reducible assumption) | (with_reducible refine unhide kdrew _ ?_; with_reducible assumption) | (with_reducible refine unhide kalloc _ _ ?_; with_reducible assumption) | (refine unhide kcall _ _ ?_ (by assumption); with_reducible assumption) | (with_reducible refine unhide kdrew _ (unhide kalloc _ _ ?_); with_reducible assumption) | (with_reducible refine unhide kalloc _ _ (unhide kdrew _ ?_); with_reducible assumption))
  clear hK K hHeld9
  try simp only [Act.put,List.setIfInBounds_toArray,List.set_cons_zero,List.set_cons_succ]
  refine wpAnyH_ready (rs := [33]) (by kernel_rfl) (by simp) ?_
  refine AllReadyH.cons (o := _) rfl (fun K hK => ?_) AllReadyH.nil
  go_simp
  (go_at_call 103; refine (unhide cU7 _ _ _ (by rfl) (by rfl)).mono ?_; rintro e w9 ⟨rfl,rfl⟩)
  refine hK.out _ _ ?_ (fun hHeld11 => ?_)
  · (try dsimp only)
    (first | (with_reducible exact hS) | (with_reducible assumption) | (with_reducible refine unhide kdrew _ ?_; with_reducible assumption) | (with_reducible refine unhide kalloc _ _ ?_; with_reducible assumption) | (refine unhide kcall _ _ ?_ (by assumption); with_reducible assumption) | (with_reducible refine unhide kdrew _ (unhide kalloc _ _ ?_); with_reducible assumption) | (with_reducible refine unhide kalloc _ _ (unhide kdrew _ ?_); with_reducible assumption))
  clear hK K hHeld10
  try simp only [Act.put,List.setIfInBounds_toArray,List.set_cons_zero,List.set_cons_succ]
  refine wpAnyH_ready (rs := [36]) (by kernel_rfl) (by simp) ?_
  refine AllReadyH.cons (o := _) rfl (fun K hK => ?_) AllReadyH.nil
  go_simp
  (go_at_call 111; refine (unhide kT _ _ (by rfl)).mono ?_; rintro e w9 ⟨rfl,rfl⟩)
  refine hK.out _ _ ?_ (fun hHeld12 => ?_)
  · (try dsimp only)
    (first | (with_reducible exact hS) | (with_reducible assumption) | (with_reducible refine unhide kdrew _ ?_; with_reducible assumption) | (with_reducible refine unhide kalloc _ _ ?_; with_reducible assumption) | (refine unhide kcall _ _ ?_ (by assumption); with_reducible assumption) | (with_reducible refine unhide kdrew _ (unhide kalloc _ _ ?_); with_reducible assumption) | (with_reducible refine unhide kalloc _ _ (unhide kdrew _ ?_); with_reducible assumption))
  clear hK K hHeld11
  try simp only [Act.put,List.setIfInBounds_toArray,List.set_cons_zero,List.set_cons_succ]
  refine takeH6 (i := 37) (d := 40) (v := ?_) rfl rfl (by kernel_rfl) (by kernel_rfl) (by kernel_rfl) (fun _ _ _ h => h) (Or.inl ⟨by rfl,?_⟩) (by assumption) ?_
  rotate_left
  · (intro W hSW; (try dsimp only at hSW); go_simp; try (with_reducible rfl))
  try simp only [Act.put,List.setIfInBounds_toArray,List.set_cons_zero,List.set_cons_succ]
  refine takeH6 (i := 38) (d := 41) (v := ?_) rfl rfl (by kernel_rfl) (by kernel_rfl) (by kernel_rfl) (fun _ _ _ h => h) (Or.inl ⟨by rfl,?_⟩) (by assumption) ?_
  rotate_left
  · (intro W hSW; (try dsimp only at hSW); go_simp; try (with_reducible rfl))
  try simp only [Act.put,List.setIfInBounds_toArray,List.set_cons_zero,List.set_cons_succ]
  refine takeH6 (i := 39) (d := 42) (v := ?_) rfl rfl (by kernel_rfl) (by kernel_rfl) (by kernel_rfl) (fun _ _ _ h => h) (Or.inl ⟨by rfl,?_⟩) (by assumption) ?_
  rotate_left
  · (intro W hSW; (try dsimp only at hSW); go_simp; try (with_reducible rfl))
  try simp only [Act.put,List.setIfInBounds_toArray,List.set_cons_zero,List.set_cons_succ]
  refine wpAnyH_ready (rs := [40]) (by kernel_rfl) (by simp) ?_
  refine AllReadyH.cons (o := _) rfl (fun K hK => ?_) AllReadyH.nil
  go_simp
  (go_at_call 111; refine (unhide kB _ _ (by rfl)).mono ?_; rintro e w9 ⟨rfl,rfl⟩)
  refine hK.out _ _ ?_ (fun hHeld13 => ?_)
  · (try dsimp only)
    (first | (with_reducible exact hS) | (with_reducible assumption) | (with_reducible refine unhide kdrew _ ?_; with_reducible assumption) | (with_reducible refine unhide kalloc _ _ ?_; with_reducible assumption) | (refine unhide kcall _ _ ?_ (by assumption); with_reducible assumption) | (with_reducible refine unhide kdrew _ (unhide kalloc _ _ ?_); with_reducible assumption) | (with_reducible refine unhide kalloc _ _ (unhide kdrew _ ?_); with_reducible assumption))
  clear hK K hHeld12
  try simp only [Act.put,List.setIfInBounds_toArray,List.set_cons_zero,List.set_cons_succ]
  refine takeH6 (i := 41) (d := 44) (v := ?_) rfl rfl (by kernel_rfl) (by kernel_rfl) (by kernel_rfl) (fun _ _ _ h => h) (Or.inl ⟨by rfl,?_⟩) (by assumption) ?_
  rotate_left
  · (intro W hSW; (try dsimp only at hSW); go_simp; try (with_reducible rfl))
  try simp only [Act.put,List.setIfInBounds_toArray,List.set_cons_zero,List.set_cons_succ]
  refine wpAnyH_ready (rs := [42]) (by kernel_rfl) (by simp) ?_
  refine AllReadyH.cons (o := _) rfl (fun K hK => ?_) AllReadyH.nil
  go_simp
  (go_at_call 103; refine (unhide cU8 _ _ _ (by rfl) (by rfl)).mono ?_; rintro e w9 ⟨rfl,rfl⟩)
  refine hK.out _ _ ?_ (fun hHeld14 => ?_)
  · (try dsimp only)
    (first | (with_reducible exact hS) | (with_reducible assumption) | (with_reducible refine unhide kdrew _ ?_; with_reducible assumption) | (with_reducible refine unhide kalloc _ _ ?_; with_reducible assumption) | (refine unhide kcall _ _ ?_ (by assumption); with_reducible assumption) | (with_reducible refine unhide kdrew _ (unhide kalloc _ _ ?_); with_reducible assumption) | (with_reducible refine unhide kalloc _ _ (unhide kdrew _ ?_); with_reducible assumption))
  clear hK K hHeld13
  try simp only [Act.put,List.setIfInBounds_toArray,List.set_cons_zero,List.set_cons_succ]
  refine wpAnyH_ready (rs := [43]) (by kernel_rfl) (by simp) ?_
  refine AllReadyH.cons (o := _) rfl (fun K hK => ?_) AllReadyH.nil
  go_simp
  refine hK.out _ _ ?_ (fun hHeld15 => ?_)
  · (try dsimp only)
    (first | (with_reducible exact hS) | (with_reducible assumption) | (with_reducible refine unhide kdrew _ ?_; with_reducible assumption) | (with_reducible refine unhide kalloc _ _ ?_; with_reducible assumption) | (refine unhide kcall _ _ ?_ (by assumption); with_reducible assumption) | (with_reducible refine unhide kdrew _ (unhide kalloc _ _ ?_); with_reducible assumption) | (with_reducible refine unhide kalloc _ _ (unhide kdrew _ ?_); with_reducible assumption))
  clear hK K hHeld14
  try simp only [Act.put,List.setIfInBounds_toArray,List.set_cons_zero,List.set_cons_succ]
  refine wpAnyH_ready (rs := [44]) (by kernel_rfl) (by simp) ?_
  refine AllReadyH.cons (o := _) rfl (fun K hK => ?_) AllReadyH.nil
  go_simp
  (go_at_call 102; refine (unhide cOr _ _ (by simp [go_sem]) (by simp [go_sem]) (by simp [go_sem]) (by simp [go_sem]) (by simp [go_sem]) (by simp [go_sem]) (by simp [go_sem]) (by simp [go_sem])).mono ?_; rintro e w9 ⟨rfl,rfl⟩)
  refine hK.out _ _ ?_ (fun hHeld16 => ?_)
  · (try dsimp only)
    (first | (with_reducible exact hS) | (with_reducible assumption) | (with_reducible refine unhide kdrew _ ?_; with_reducible assumption) | (with_reducible refine unhide kalloc _ _ ?_; with_reducible assumption) | (refine unhide kcall _ _ ?_ (by assumption); with_reducible assumption) | (with_reducible refine unhide kdrew _ (unhide kalloc _ _ ?_); with_reducible assumption) | (with_reducible refine unhide kalloc _ _ (unhide kdrew _ ?_); with_reducible assumption))
  clear hK K hHeld15
  try simp only [Act.put,List.setIfInBounds_toArray,List.set_cons_zero,List.set_cons_succ]
  refine takeH6 (i := 45) (d := 2) (v := ?_) rfl rfl (by kernel_rfl) (by kernel_rfl) (by kernel_rfl) (fun _ _ _ h => h) (Or.inl ⟨by rfl,?_⟩) (by assumption) ?_
  rotate_left
  · (intro W hSW; (try dsimp only at hSW); go_simp; try (with_reducible rfl))
  try simp only [Act.put,List.setIfInBounds_toArray,List.set_cons_zero,List.set_cons_succ]
  refine wpAnyH_done (by kernel_rfl) ?_ _
  refine NoPanic.normal ?_
  have hHeld := hHeld16
  clear hHeld16

  go_wp2_with fail
  go_ret
  exact ⟨rfl,(unhide hHeld.1).gr⟩
end Go.Proofs.YtfpfdnapamdhjaaGreatDoor

/- Layer 8: the program's Claim,one way of four -/
namespace Go.Proofs.YtfpfdnapamdhjaaGreatDoor
open Go.RowKit Suf Val

set_option maxRecDepth 100000 in
set_option maxHeartbeats 64000000 in
theorem pclaim_D (p : VClaim) (u1 : Value) (w : World) (h : ClmIn w p u1) (hA : (nameB p.name && nameB p.pool) = false) (hB : timeB p.gen = false) :
    Calls Tryz.prog 65 #[clmA p u1] w fun e w' => e = .returned (.int .i64 (claimR p)) /\ Below w.heap.size w w' := by
  have hR : Hid (claimR p = orE [unl ((nameB p.name && nameB p.pool) && namedO p.offer) 7,Am.chk p.price,Am.chkA p.cap.1 p.cap.2,offsR8 p.opts,unl (btwB 1 p.tryN 32) 1,unl (decide (p.id.length <= 16)) 2,unl (btwB 1 p.phase 4) 1,unl (timeB p.gen && timeB p.born) 1]) := rfl
  obtain ⟨R,hRR⟩ : ∃ R,R = claimR p := ⟨_,rfl⟩
  rw [<- hRR,hA,hB] at hR
  rw [<- hRR]
  clear hRR
  have cNm := hide (names2 p.name p.pool h.n1 h.n2)
  rw [hA] at cNm
  have kO := hide (poffer_any p.offer · h.of)
  have k2 := hide (Am.check_any p.price)
  have k3 := hide (Am.checkAll_any p.cap.1 p.cap.2)
  have kT : Hid (∀ V vv,vv = .int .i64 p.gen -> Calls Tryz.prog 111 #[vv] V fun e w' => e = .returned (.bool false) /\ w' = V) := fun V vv e => by rw [e,<- hB]; exact time_any _ V
  have kB : Hid (∀ V vv,vv = .int .i64 p.born -> Calls Tryz.prog 111 #[vv] V fun e w' => e = .returned (.bool (timeB p.born)) /\ w' = V) := fun V vv e => by rw [e]; exact time_any _ V
  have hlen : p.id.length = (bytesT p.id).size := (bytesT_size p.id).symm
  have hq1 := h.ops
  obtain ⟨a1,c1,hu1⟩ := h.ops.val
  obtain ⟨n1,hn1⟩ : ∃ n,n = p.opts.length := ⟨_,rfl⟩
  unfold clmA
  rw [hu1]
  rw [hu1,<- hn1] at hq1
  rw [<- hn1]
  clear hu1 h hA hB
  obtain ⟨z2,hz2⟩ : ∃ z,z = Am.chk p.price := ⟨_,rfl⟩
  obtain ⟨z3,hz3⟩ : ∃ z,z = Am.chkA p.cap.1 p.cap.2 := ⟨_,rfl⟩
  obtain ⟨z4,hz4⟩ : ∃ z,z = offsR8 p.opts := ⟨_,rfl⟩
  obtain ⟨qo,hqo⟩ : ∃ z,z = namedO p.offer := ⟨_,rfl⟩
  obtain ⟨qb,hqb⟩ : ∃ z,z = timeB p.born := ⟨_,rfl⟩
  obtain ⟨X0,hX0⟩ : ∃ z,z = bytesT p.name := ⟨_,rfl⟩
  obtain ⟨X1,hX1⟩ : ∃ z,z = bytesT p.pool := ⟨_,rfl⟩
  obtain ⟨X2,hX2⟩ : ∃ z,z = bytesT p.id := ⟨_,rfl⟩
  obtain ⟨Y0,hY0⟩ : ∃ z,z = bytesT p.offer.1 := ⟨_,rfl⟩
  obtain ⟨Y1,hY1⟩ : ∃ z,z = bytesT p.offer.2.1 := ⟨_,rfl⟩
  obtain ⟨Y2,hY2⟩ : ∃ z,z = bytesT p.offer.2.2 := ⟨_,rfl⟩
  obtain ⟨N0,hN0⟩ : ∃ z,z = p.cap.1 := ⟨_,rfl⟩
  obtain ⟨N1,hN1⟩ : ∃ z,z = p.cap.2 := ⟨_,rfl⟩
  obtain ⟨P0,hP0⟩ : ∃ z,z = p.price := ⟨_,rfl⟩
  obtain ⟨G0,hG0⟩ : ∃ z,z = p.gen := ⟨_,rfl⟩
  obtain ⟨B0,hB0⟩ : ∃ z,z = p.born := ⟨_,rfl⟩
  obtain ⟨T0,hT0⟩ : ∃ z,z = p.tryN := ⟨_,rfl⟩
  obtain ⟨H0,hH0⟩ : ∃ z,z = p.phase := ⟨_,rfl⟩
  obtain ⟨D0,hD0⟩ : ∃ z,z = p.marked := ⟨_,rfl⟩
  rw [<- hz2,<- hz3,<- hz4,<- hqo,<- hqb,<- hT0,<- hH0,hlen,<- hX2] at hR
  unfold offA at kO
  rw [<- hX0,<- hX1] at cNm
  rw [<- hqo,<- hY0,<- hY1,<- hY2] at kO
  rw [<- hz2,<- hP0] at k2
  rw [<- hz3,<- hN0,<- hN1] at k3
  rw [<- hG0] at kT
  rw [<- hqb,<- hB0] at kB
  rw [<- hX0,<- hX1,<- hX2,<- hY0,<- hY1,<- hY2,<- hP0,<- hN0,<- hN1,<- hG0,<- hT0,<- hH0,<- hB0,<- hD0]
  obtain ⟨z1,hz1⟩ : ∃ z,z = unl (false && qo) 7 := ⟨_,rfl⟩
  obtain ⟨z5,hz5⟩ : ∃ z,z = unl (btwB 1 T0 32) 1 := ⟨_,rfl⟩
  obtain ⟨z6,hz6⟩ : ∃ z,z = unl (decide (X2.size <= 16)) 2 := ⟨_,rfl⟩
  obtain ⟨z7,hz7⟩ : ∃ z,z = unl (btwB 1 H0 4) 1 := ⟨_,rfl⟩
  obtain ⟨z8,hz8⟩ : ∃ z,z = unl (false && qb) 1 := ⟨_,rfl⟩
  rw [<- hz1,<- hz5,<- hz6,<- hz7,<- hz8] at hR
  have cU1 : Hid (∀ V bb ee,bb = .bool false -> ee = .int .i64 7 -> Calls Tryz.prog 103 #[bb,ee] V fun r w' => r = .returned (.int .i64 z1) /\ w' = V) := fun V bb ee e1 e2 => by rw [e1,e2,hz1]; exact unless_any false 7 V
  have cU8 : Hid (∀ V bb ee,bb = .bool false -> ee = .int .i64 1 -> Calls Tryz.prog 103 #[bb,ee] V fun r w' => r = .returned (.int .i64 z8) /\ w' = V) := fun V bb ee e1 e2 => by rw [e1,e2,hz8]; exact unless_any false 1 V
  have cU6 : Hid (∀ V bb ee,bb = .bool (decide ((X2.size : Int) <= 16)) -> ee = .int .i64 2 -> Calls Tryz.prog 103 #[bb,ee] V fun r w' => r = .returned (.int .i64 z6) /\ w' = V) := fun V bb ee e1 e2 => by
    rw [e1,e2,hz6,show decide ((X2.size : Int) <= 16) = decide (X2.size <= 16) by rw [decide_eq_decide]; omega]
    exact unless_any _ 2 V
  have cU5 : Hid (∀ V bb ee,bb = .bool (btwB 1 T0 32) -> ee = .int .i64 1 -> Calls Tryz.prog 103 #[bb,ee] V fun r w' => r = .returned (.int .i64 z5) /\ w' = V) := fun V bb ee e1 e2 => by rw [e1,e2,hz5]; exact unless_any (btwB 1 T0 32) 1 V
  have cU7 : Hid (∀ V bb ee,bb = .bool (btwB 1 H0 4) -> ee = .int .i64 1 -> Calls Tryz.prog 103 #[bb,ee] V fun r w' => r = .returned (.int .i64 z7) /\ w' = V) := fun V bb ee e1 e2 => by rw [e1,e2,hz7]; exact unless_any (btwB 1 H0 4) 1 V
  have cOr : Hid (∀ V B,V.cell? ⟨B,0,none⟩ = some (.int .i64 z1) -> V.cell? ⟨B,1,none⟩ = some (.int .i64 z2) -> V.cell? ⟨B,2,none⟩ = some (.int .i64 z3) -> V.cell? ⟨B,3,none⟩ = some (.int .i64 z4) -> V.cell? ⟨B,4,none⟩ = some (.int .i64 z5) -> V.cell? ⟨B,5,none⟩ = some (.int .i64 z6) -> V.cell? ⟨B,6,none⟩ = some (.int .i64 z7) -> V.cell? ⟨B,7,none⟩ = some (.int .i64 z8) -> Calls Tryz.prog 102 #[.slice (some ⟨B,0,none⟩) 8 8] V fun r w' => r = .returned (.int .i64 R) /\ w' = V) := fun V B g0 g1 g2 g3 g4 g5 g6 g7 => by rw [unhide hR]; exact or8_8 z1 z2 z3 z4 z5 z6 z7 z8 g0 g1 g2 g3 g4 g5 g6 g7
  have G (V : World) (h : HeldS w [(⟨w.heap.size,0,none⟩,.string X0),(⟨w.heap.size,1,none⟩,.string X1),(⟨w.heap.size,2,none⟩,.int .i64 G0),(⟨w.heap.size,3,none⟩,.string Y0),(⟨w.heap.size,4,none⟩,.string Y1),(⟨w.heap.size,5,none⟩,.string Y2),(⟨w.heap.size,6,none⟩,.int .i64 P0),(⟨w.heap.size,7,none⟩,.int .i64 N0),(⟨w.heap.size,8,none⟩,.int .i64 N1),(⟨w.heap.size,9,none⟩,.slice a1 n1 c1),(⟨w.heap.size,10,none⟩,.int .i64 T0),(⟨w.heap.size,11,none⟩,.string X2),(⟨w.heap.size,12,none⟩,.int .i64 H0),(⟨w.heap.size,13,none⟩,.int .i64 B0),(⟨w.heap.size,14,none⟩,.bool D0)] V) : Below w.heap.size w V := h.gr
  have k4 : Hid (∀ V,(Hid (HeldS w [(⟨w.heap.size,0,none⟩,.string X0),(⟨w.heap.size,1,none⟩,.string X1),(⟨w.heap.size,2,none⟩,.int .i64 G0),(⟨w.heap.size,3,none⟩,.string Y0),(⟨w.heap.size,4,none⟩,.string Y1),(⟨w.heap.size,5,none⟩,.string Y2),(⟨w.heap.size,6,none⟩,.int .i64 P0),(⟨w.heap.size,7,none⟩,.int .i64 N0),(⟨w.heap.size,8,none⟩,.int .i64 N1),(⟨w.heap.size,9,none⟩,.slice a1 n1 c1),(⟨w.heap.size,10,none⟩,.int .i64 T0),(⟨w.heap.size,11,none⟩,.string X2),(⟨w.heap.size,12,none⟩,.int .i64 H0),(⟨w.heap.size,13,none⟩,.int .i64 B0),(⟨w.heap.size,14,none⟩,.bool D0)] V) /\ V.cell? ⟨w.heap.size,0,none⟩ = some (.string X0) /\ V.cell? ⟨w.heap.size,1,none⟩ = some (.string X1) /\ V.cell? ⟨w.heap.size,2,none⟩ = some (.int .i64 G0) /\ V.cell? ⟨w.heap.size,3,none⟩ = some (.string Y0) /\ V.cell? ⟨w.heap.size,4,none⟩ = some (.string Y1) /\ V.cell? ⟨w.heap.size,5,none⟩ = some (.string Y2) /\ V.cell? ⟨w.heap.size,6,none⟩ = some (.int .i64 P0) /\ V.cell? ⟨w.heap.size,7,none⟩ = some (.int .i64 N0) /\ V.cell? ⟨w.heap.size,8,none⟩ = some (.int .i64 N1) /\ V.cell? ⟨w.heap.size,9,none⟩ = some (.slice a1 n1 c1) /\ V.cell? ⟨w.heap.size,10,none⟩ = some (.int .i64 T0) /\ V.cell? ⟨w.heap.size,11,none⟩ = some (.string X2) /\ V.cell? ⟨w.heap.size,12,none⟩ = some (.int .i64 H0) /\ V.cell? ⟨w.heap.size,13,none⟩ = some (.int .i64 B0) /\ V.cell? ⟨w.heap.size,14,none⟩ = some (.bool D0)) -> Calls Tryz.prog 117 #[.slice a1 n1 c1] V fun e w' => e = .returned (.int .i64 z4) /\ Below V.heap.size V w') := fun V hs => by rw [hz4]; exact poffers_any _ _ V (hq1.below (G V (unhide hs.1)))
  clear hn1 hz2 hz3 hz4 hqo hqb hX0 hX1 hX2 hY0 hY1 hY2 hN0 hN1 hP0 hG0 hB0 hT0 hH0 hD0 hz1 hz5 hz6 hz7 hz8 hq1 G hR hlen
  have sall : Hid (∀ V,HeldS w [(⟨w.heap.size,0,none⟩,.string X0),(⟨w.heap.size,1,none⟩,.string X1),(⟨w.heap.size,2,none⟩,.int .i64 G0),(⟨w.heap.size,3,none⟩,.string Y0),(⟨w.heap.size,4,none⟩,.string Y1),(⟨w.heap.size,5,none⟩,.string Y2),(⟨w.heap.size,6,none⟩,.int .i64 P0),(⟨w.heap.size,7,none⟩,.int .i64 N0),(⟨w.heap.size,8,none⟩,.int .i64 N1),(⟨w.heap.size,9,none⟩,.slice a1 n1 c1),(⟨w.heap.size,10,none⟩,.int .i64 T0),(⟨w.heap.size,11,none⟩,.string X2),(⟨w.heap.size,12,none⟩,.int .i64 H0),(⟨w.heap.size,13,none⟩,.int .i64 B0),(⟨w.heap.size,14,none⟩,.bool D0)] V -> Hid (HeldS w [(⟨w.heap.size,0,none⟩,.string X0),(⟨w.heap.size,1,none⟩,.string X1),(⟨w.heap.size,2,none⟩,.int .i64 G0),(⟨w.heap.size,3,none⟩,.string Y0),(⟨w.heap.size,4,none⟩,.string Y1),(⟨w.heap.size,5,none⟩,.string Y2),(⟨w.heap.size,6,none⟩,.int .i64 P0),(⟨w.heap.size,7,none⟩,.int .i64 N0),(⟨w.heap.size,8,none⟩,.int .i64 N1),(⟨w.heap.size,9,none⟩,.slice a1 n1 c1),(⟨w.heap.size,10,none⟩,.int .i64 T0),(⟨w.heap.size,11,none⟩,.string X2),(⟨w.heap.size,12,none⟩,.int .i64 H0),(⟨w.heap.size,13,none⟩,.int .i64 B0),(⟨w.heap.size,14,none⟩,.bool D0)] V) /\ V.cell? ⟨w.heap.size,0,none⟩ = some (.string X0) /\ V.cell? ⟨w.heap.size,1,none⟩ = some (.string X1) /\ V.cell? ⟨w.heap.size,2,none⟩ = some (.int .i64 G0) /\ V.cell? ⟨w.heap.size,3,none⟩ = some (.string Y0) /\ V.cell? ⟨w.heap.size,4,none⟩ = some (.string Y1) /\ V.cell? ⟨w.heap.size,5,none⟩ = some (.string Y2) /\ V.cell? ⟨w.heap.size,6,none⟩ = some (.int .i64 P0) /\ V.cell? ⟨w.heap.size,7,none⟩ = some (.int .i64 N0) /\ V.cell? ⟨w.heap.size,8,none⟩ = some (.int .i64 N1) /\ V.cell? ⟨w.heap.size,9,none⟩ = some (.slice a1 n1 c1) /\ V.cell? ⟨w.heap.size,10,none⟩ = some (.int .i64 T0) /\ V.cell? ⟨w.heap.size,11,none⟩ = some (.string X2) /\ V.cell? ⟨w.heap.size,12,none⟩ = some (.int .i64 H0) /\ V.cell? ⟨w.heap.size,13,none⟩ = some (.int .i64 B0) /\ V.cell? ⟨w.heap.size,14,none⟩ = some (.bool D0)) := fun V h => ⟨h,h.at 0 rfl,h.at 1 rfl,h.at 2 rfl,h.at 3 rfl,h.at 4 rfl,h.at 5 rfl,h.at 6 rfl,h.at 7 rfl,h.at 8 rfl,h.at 9 rfl,h.at 10 rfl,h.at 11 rfl,h.at 12 rfl,h.at 13 rfl,h.at 14 rfl⟩
  have kdrew : Hid (∀ V,(Hid (HeldS w [(⟨w.heap.size,0,none⟩,.string X0),(⟨w.heap.size,1,none⟩,.string X1),(⟨w.heap.size,2,none⟩,.int .i64 G0),(⟨w.heap.size,3,none⟩,.string Y0),(⟨w.heap.size,4,none⟩,.string Y1),(⟨w.heap.size,5,none⟩,.string Y2),(⟨w.heap.size,6,none⟩,.int .i64 P0),(⟨w.heap.size,7,none⟩,.int .i64 N0),(⟨w.heap.size,8,none⟩,.int .i64 N1),(⟨w.heap.size,9,none⟩,.slice a1 n1 c1),(⟨w.heap.size,10,none⟩,.int .i64 T0),(⟨w.heap.size,11,none⟩,.string X2),(⟨w.heap.size,12,none⟩,.int .i64 H0),(⟨w.heap.size,13,none⟩,.int .i64 B0),(⟨w.heap.size,14,none⟩,.bool D0)] V) /\ V.cell? ⟨w.heap.size,0,none⟩ = some (.string X0) /\ V.cell? ⟨w.heap.size,1,none⟩ = some (.string X1) /\ V.cell? ⟨w.heap.size,2,none⟩ = some (.int .i64 G0) /\ V.cell? ⟨w.heap.size,3,none⟩ = some (.string Y0) /\ V.cell? ⟨w.heap.size,4,none⟩ = some (.string Y1) /\ V.cell? ⟨w.heap.size,5,none⟩ = some (.string Y2) /\ V.cell? ⟨w.heap.size,6,none⟩ = some (.int .i64 P0) /\ V.cell? ⟨w.heap.size,7,none⟩ = some (.int .i64 N0) /\ V.cell? ⟨w.heap.size,8,none⟩ = some (.int .i64 N1) /\ V.cell? ⟨w.heap.size,9,none⟩ = some (.slice a1 n1 c1) /\ V.cell? ⟨w.heap.size,10,none⟩ = some (.int .i64 T0) /\ V.cell? ⟨w.heap.size,11,none⟩ = some (.string X2) /\ V.cell? ⟨w.heap.size,12,none⟩ = some (.int .i64 H0) /\ V.cell? ⟨w.heap.size,13,none⟩ = some (.int .i64 B0) /\ V.cell? ⟨w.heap.size,14,none⟩ = some (.bool D0)) -> Hid (HeldS w [(⟨w.heap.size,0,none⟩,.string X0),(⟨w.heap.size,1,none⟩,.string X1),(⟨w.heap.size,2,none⟩,.int .i64 G0),(⟨w.heap.size,3,none⟩,.string Y0),(⟨w.heap.size,4,none⟩,.string Y1),(⟨w.heap.size,5,none⟩,.string Y2),(⟨w.heap.size,6,none⟩,.int .i64 P0),(⟨w.heap.size,7,none⟩,.int .i64 N0),(⟨w.heap.size,8,none⟩,.int .i64 N1),(⟨w.heap.size,9,none⟩,.slice a1 n1 c1),(⟨w.heap.size,10,none⟩,.int .i64 T0),(⟨w.heap.size,11,none⟩,.string X2),(⟨w.heap.size,12,none⟩,.int .i64 H0),(⟨w.heap.size,13,none⟩,.int .i64 B0),(⟨w.heap.size,14,none⟩,.bool D0)] V.drew) /\ V.drew.cell? ⟨w.heap.size,0,none⟩ = some (.string X0) /\ V.drew.cell? ⟨w.heap.size,1,none⟩ = some (.string X1) /\ V.drew.cell? ⟨w.heap.size,2,none⟩ = some (.int .i64 G0) /\ V.drew.cell? ⟨w.heap.size,3,none⟩ = some (.string Y0) /\ V.drew.cell? ⟨w.heap.size,4,none⟩ = some (.string Y1) /\ V.drew.cell? ⟨w.heap.size,5,none⟩ = some (.string Y2) /\ V.drew.cell? ⟨w.heap.size,6,none⟩ = some (.int .i64 P0) /\ V.drew.cell? ⟨w.heap.size,7,none⟩ = some (.int .i64 N0) /\ V.drew.cell? ⟨w.heap.size,8,none⟩ = some (.int .i64 N1) /\ V.drew.cell? ⟨w.heap.size,9,none⟩ = some (.slice a1 n1 c1) /\ V.drew.cell? ⟨w.heap.size,10,none⟩ = some (.int .i64 T0) /\ V.drew.cell? ⟨w.heap.size,11,none⟩ = some (.string X2) /\ V.drew.cell? ⟨w.heap.size,12,none⟩ = some (.int .i64 H0) /\ V.drew.cell? ⟨w.heap.size,13,none⟩ = some (.int .i64 B0) /\ V.drew.cell? ⟨w.heap.size,14,none⟩ = some (.bool D0)) := fun V h => unhide sall _ (unhide h.1).drew
  have kalloc : Hid (∀ V o,(Hid (HeldS w [(⟨w.heap.size,0,none⟩,.string X0),(⟨w.heap.size,1,none⟩,.string X1),(⟨w.heap.size,2,none⟩,.int .i64 G0),(⟨w.heap.size,3,none⟩,.string Y0),(⟨w.heap.size,4,none⟩,.string Y1),(⟨w.heap.size,5,none⟩,.string Y2),(⟨w.heap.size,6,none⟩,.int .i64 P0),(⟨w.heap.size,7,none⟩,.int .i64 N0),(⟨w.heap.size,8,none⟩,.int .i64 N1),(⟨w.heap.size,9,none⟩,.slice a1 n1 c1),(⟨w.heap.size,10,none⟩,.int .i64 T0),(⟨w.heap.size,11,none⟩,.string X2),(⟨w.heap.size,12,none⟩,.int .i64 H0),(⟨w.heap.size,13,none⟩,.int .i64 B0),(⟨w.heap.size,14,none⟩,.bool D0)] V) /\ V.cell? ⟨w.heap.size,0,none⟩ = some (.string X0) /\ V.cell? ⟨w.heap.size,1,none⟩ = some (.string X1) /\ V.cell? ⟨w.heap.size,2,none⟩ = some (.int .i64 G0) /\ V.cell? ⟨w.heap.size,3,none⟩ = some (.string Y0) /\ V.cell? ⟨w.heap.size,4,none⟩ = some (.string Y1) /\ V.cell? ⟨w.heap.size,5,none⟩ = some (.string Y2) /\ V.cell? ⟨w.heap.size,6,none⟩ = some (.int .i64 P0) /\ V.cell? ⟨w.heap.size,7,none⟩ = some (.int .i64 N0) /\ V.cell? ⟨w.heap.size,8,none⟩ = some (.int .i64 N1) /\ V.cell? ⟨w.heap.size,9,none⟩ = some (.slice a1 n1 c1) /\ V.cell? ⟨w.heap.size,10,none⟩ = some (.int .i64 T0) /\ V.cell? ⟨w.heap.size,11,none⟩ = some (.string X2) /\ V.cell? ⟨w.heap.size,12,none⟩ = some (.int .i64 H0) /\ V.cell? ⟨w.heap.size,13,none⟩ = some (.int .i64 B0) /\ V.cell? ⟨w.heap.size,14,none⟩ = some (.bool D0)) -> Hid (HeldS w [(⟨w.heap.size,0,none⟩,.string X0),(⟨w.heap.size,1,none⟩,.string X1),(⟨w.heap.size,2,none⟩,.int .i64 G0),(⟨w.heap.size,3,none⟩,.string Y0),(⟨w.heap.size,4,none⟩,.string Y1),(⟨w.heap.size,5,none⟩,.string Y2),(⟨w.heap.size,6,none⟩,.int .i64 P0),(⟨w.heap.size,7,none⟩,.int .i64 N0),(⟨w.heap.size,8,none⟩,.int .i64 N1),(⟨w.heap.size,9,none⟩,.slice a1 n1 c1),(⟨w.heap.size,10,none⟩,.int .i64 T0),(⟨w.heap.size,11,none⟩,.string X2),(⟨w.heap.size,12,none⟩,.int .i64 H0),(⟨w.heap.size,13,none⟩,.int .i64 B0),(⟨w.heap.size,14,none⟩,.bool D0)] (V.alloc o)) /\ (V.alloc o).cell? ⟨w.heap.size,0,none⟩ = some (.string X0) /\ (V.alloc o).cell? ⟨w.heap.size,1,none⟩ = some (.string X1) /\ (V.alloc o).cell? ⟨w.heap.size,2,none⟩ = some (.int .i64 G0) /\ (V.alloc o).cell? ⟨w.heap.size,3,none⟩ = some (.string Y0) /\ (V.alloc o).cell? ⟨w.heap.size,4,none⟩ = some (.string Y1) /\ (V.alloc o).cell? ⟨w.heap.size,5,none⟩ = some (.string Y2) /\ (V.alloc o).cell? ⟨w.heap.size,6,none⟩ = some (.int .i64 P0) /\ (V.alloc o).cell? ⟨w.heap.size,7,none⟩ = some (.int .i64 N0) /\ (V.alloc o).cell? ⟨w.heap.size,8,none⟩ = some (.int .i64 N1) /\ (V.alloc o).cell? ⟨w.heap.size,9,none⟩ = some (.slice a1 n1 c1) /\ (V.alloc o).cell? ⟨w.heap.size,10,none⟩ = some (.int .i64 T0) /\ (V.alloc o).cell? ⟨w.heap.size,11,none⟩ = some (.string X2) /\ (V.alloc o).cell? ⟨w.heap.size,12,none⟩ = some (.int .i64 H0) /\ (V.alloc o).cell? ⟨w.heap.size,13,none⟩ = some (.int .i64 B0) /\ (V.alloc o).cell? ⟨w.heap.size,14,none⟩ = some (.bool D0)) := fun V o h => unhide sall _ ((unhide h.1).alloc o)
  have kcall : Hid (∀ V V',(Hid (HeldS w [(⟨w.heap.size,0,none⟩,.string X0),(⟨w.heap.size,1,none⟩,.string X1),(⟨w.heap.size,2,none⟩,.int .i64 G0),(⟨w.heap.size,3,none⟩,.string Y0),(⟨w.heap.size,4,none⟩,.string Y1),(⟨w.heap.size,5,none⟩,.string Y2),(⟨w.heap.size,6,none⟩,.int .i64 P0),(⟨w.heap.size,7,none⟩,.int .i64 N0),(⟨w.heap.size,8,none⟩,.int .i64 N1),(⟨w.heap.size,9,none⟩,.slice a1 n1 c1),(⟨w.heap.size,10,none⟩,.int .i64 T0),(⟨w.heap.size,11,none⟩,.string X2),(⟨w.heap.size,12,none⟩,.int .i64 H0),(⟨w.heap.size,13,none⟩,.int .i64 B0),(⟨w.heap.size,14,none⟩,.bool D0)] V) /\ V.cell? ⟨w.heap.size,0,none⟩ = some (.string X0) /\ V.cell? ⟨w.heap.size,1,none⟩ = some (.string X1) /\ V.cell? ⟨w.heap.size,2,none⟩ = some (.int .i64 G0) /\ V.cell? ⟨w.heap.size,3,none⟩ = some (.string Y0) /\ V.cell? ⟨w.heap.size,4,none⟩ = some (.string Y1) /\ V.cell? ⟨w.heap.size,5,none⟩ = some (.string Y2) /\ V.cell? ⟨w.heap.size,6,none⟩ = some (.int .i64 P0) /\ V.cell? ⟨w.heap.size,7,none⟩ = some (.int .i64 N0) /\ V.cell? ⟨w.heap.size,8,none⟩ = some (.int .i64 N1) /\ V.cell? ⟨w.heap.size,9,none⟩ = some (.slice a1 n1 c1) /\ V.cell? ⟨w.heap.size,10,none⟩ = some (.int .i64 T0) /\ V.cell? ⟨w.heap.size,11,none⟩ = some (.string X2) /\ V.cell? ⟨w.heap.size,12,none⟩ = some (.int .i64 H0) /\ V.cell? ⟨w.heap.size,13,none⟩ = some (.int .i64 B0) /\ V.cell? ⟨w.heap.size,14,none⟩ = some (.bool D0)) -> Below V.heap.size V V' -> Hid (HeldS w [(⟨w.heap.size,0,none⟩,.string X0),(⟨w.heap.size,1,none⟩,.string X1),(⟨w.heap.size,2,none⟩,.int .i64 G0),(⟨w.heap.size,3,none⟩,.string Y0),(⟨w.heap.size,4,none⟩,.string Y1),(⟨w.heap.size,5,none⟩,.string Y2),(⟨w.heap.size,6,none⟩,.int .i64 P0),(⟨w.heap.size,7,none⟩,.int .i64 N0),(⟨w.heap.size,8,none⟩,.int .i64 N1),(⟨w.heap.size,9,none⟩,.slice a1 n1 c1),(⟨w.heap.size,10,none⟩,.int .i64 T0),(⟨w.heap.size,11,none⟩,.string X2),(⟨w.heap.size,12,none⟩,.int .i64 H0),(⟨w.heap.size,13,none⟩,.int .i64 B0),(⟨w.heap.size,14,none⟩,.bool D0)] V') /\ V'.cell? ⟨w.heap.size,0,none⟩ = some (.string X0) /\ V'.cell? ⟨w.heap.size,1,none⟩ = some (.string X1) /\ V'.cell? ⟨w.heap.size,2,none⟩ = some (.int .i64 G0) /\ V'.cell? ⟨w.heap.size,3,none⟩ = some (.string Y0) /\ V'.cell? ⟨w.heap.size,4,none⟩ = some (.string Y1) /\ V'.cell? ⟨w.heap.size,5,none⟩ = some (.string Y2) /\ V'.cell? ⟨w.heap.size,6,none⟩ = some (.int .i64 P0) /\ V'.cell? ⟨w.heap.size,7,none⟩ = some (.int .i64 N0) /\ V'.cell? ⟨w.heap.size,8,none⟩ = some (.int .i64 N1) /\ V'.cell? ⟨w.heap.size,9,none⟩ = some (.slice a1 n1 c1) /\ V'.cell? ⟨w.heap.size,10,none⟩ = some (.int .i64 T0) /\ V'.cell? ⟨w.heap.size,11,none⟩ = some (.string X2) /\ V'.cell? ⟨w.heap.size,12,none⟩ = some (.int .i64 H0) /\ V'.cell? ⟨w.heap.size,13,none⟩ = some (.int .i64 B0) /\ V'.cell? ⟨w.heap.size,14,none⟩ = some (.bool D0)) := fun V V' h hb => unhide sall _ ((unhide h.1).below hb)
  have hS : Hid (HeldS w [(⟨w.heap.size,0,none⟩,.string X0),(⟨w.heap.size,1,none⟩,.string X1),(⟨w.heap.size,2,none⟩,.int .i64 G0),(⟨w.heap.size,3,none⟩,.string Y0),(⟨w.heap.size,4,none⟩,.string Y1),(⟨w.heap.size,5,none⟩,.string Y2),(⟨w.heap.size,6,none⟩,.int .i64 P0),(⟨w.heap.size,7,none⟩,.int .i64 N0),(⟨w.heap.size,8,none⟩,.int .i64 N1),(⟨w.heap.size,9,none⟩,.slice a1 n1 c1),(⟨w.heap.size,10,none⟩,.int .i64 T0),(⟨w.heap.size,11,none⟩,.string X2),(⟨w.heap.size,12,none⟩,.int .i64 H0),(⟨w.heap.size,13,none⟩,.int .i64 B0),(⟨w.heap.size,14,none⟩,.bool D0)] (w.alloc (.cells #[.string X0,.string X1,.int .i64 G0,.string Y0,.string Y1,.string Y2,.int .i64 P0,.int .i64 N0,.int .i64 N1,.slice a1 n1 c1,.int .i64 T0,.string X2,.int .i64 H0,.int .i64 B0,.bool D0] 37))) /\ (w.alloc (.cells #[.string X0,.string X1,.int .i64 G0,.string Y0,.string Y1,.string Y2,.int .i64 P0,.int .i64 N0,.int .i64 N1,.slice a1 n1 c1,.int .i64 T0,.string X2,.int .i64 H0,.int .i64 B0,.bool D0] 37)).cell? ⟨w.heap.size,0,none⟩ = some (.string X0) /\ (w.alloc (.cells #[.string X0,.string X1,.int .i64 G0,.string Y0,.string Y1,.string Y2,.int .i64 P0,.int .i64 N0,.int .i64 N1,.slice a1 n1 c1,.int .i64 T0,.string X2,.int .i64 H0,.int .i64 B0,.bool D0] 37)).cell? ⟨w.heap.size,1,none⟩ = some (.string X1) /\ (w.alloc (.cells #[.string X0,.string X1,.int .i64 G0,.string Y0,.string Y1,.string Y2,.int .i64 P0,.int .i64 N0,.int .i64 N1,.slice a1 n1 c1,.int .i64 T0,.string X2,.int .i64 H0,.int .i64 B0,.bool D0] 37)).cell? ⟨w.heap.size,2,none⟩ = some (.int .i64 G0) /\ (w.alloc (.cells #[.string X0,.string X1,.int .i64 G0,.string Y0,.string Y1,.string Y2,.int .i64 P0,.int .i64 N0,.int .i64 N1,.slice a1 n1 c1,.int .i64 T0,.string X2,.int .i64 H0,.int .i64 B0,.bool D0] 37)).cell? ⟨w.heap.size,3,none⟩ = some (.string Y0) /\ (w.alloc (.cells #[.string X0,.string X1,.int .i64 G0,.string Y0,.string Y1,.string Y2,.int .i64 P0,.int .i64 N0,.int .i64 N1,.slice a1 n1 c1,.int .i64 T0,.string X2,.int .i64 H0,.int .i64 B0,.bool D0] 37)).cell? ⟨w.heap.size,4,none⟩ = some (.string Y1) /\ (w.alloc (.cells #[.string X0,.string X1,.int .i64 G0,.string Y0,.string Y1,.string Y2,.int .i64 P0,.int .i64 N0,.int .i64 N1,.slice a1 n1 c1,.int .i64 T0,.string X2,.int .i64 H0,.int .i64 B0,.bool D0] 37)).cell? ⟨w.heap.size,5,none⟩ = some (.string Y2) /\ (w.alloc (.cells #[.string X0,.string X1,.int .i64 G0,.string Y0,.string Y1,.string Y2,.int .i64 P0,.int .i64 N0,.int .i64 N1,.slice a1 n1 c1,.int .i64 T0,.string X2,.int .i64 H0,.int .i64 B0,.bool D0] 37)).cell? ⟨w.heap.size,6,none⟩ = some (.int .i64 P0) /\ (w.alloc (.cells #[.string X0,.string X1,.int .i64 G0,.string Y0,.string Y1,.string Y2,.int .i64 P0,.int .i64 N0,.int .i64 N1,.slice a1 n1 c1,.int .i64 T0,.string X2,.int .i64 H0,.int .i64 B0,.bool D0] 37)).cell? ⟨w.heap.size,7,none⟩ = some (.int .i64 N0) /\ (w.alloc (.cells #[.string X0,.string X1,.int .i64 G0,.string Y0,.string Y1,.string Y2,.int .i64 P0,.int .i64 N0,.int .i64 N1,.slice a1 n1 c1,.int .i64 T0,.string X2,.int .i64 H0,.int .i64 B0,.bool D0] 37)).cell? ⟨w.heap.size,8,none⟩ = some (.int .i64 N1) /\ (w.alloc (.cells #[.string X0,.string X1,.int .i64 G0,.string Y0,.string Y1,.string Y2,.int .i64 P0,.int .i64 N0,.int .i64 N1,.slice a1 n1 c1,.int .i64 T0,.string X2,.int .i64 H0,.int .i64 B0,.bool D0] 37)).cell? ⟨w.heap.size,9,none⟩ = some (.slice a1 n1 c1) /\ (w.alloc (.cells #[.string X0,.string X1,.int .i64 G0,.string Y0,.string Y1,.string Y2,.int .i64 P0,.int .i64 N0,.int .i64 N1,.slice a1 n1 c1,.int .i64 T0,.string X2,.int .i64 H0,.int .i64 B0,.bool D0] 37)).cell? ⟨w.heap.size,10,none⟩ = some (.int .i64 T0) /\ (w.alloc (.cells #[.string X0,.string X1,.int .i64 G0,.string Y0,.string Y1,.string Y2,.int .i64 P0,.int .i64 N0,.int .i64 N1,.slice a1 n1 c1,.int .i64 T0,.string X2,.int .i64 H0,.int .i64 B0,.bool D0] 37)).cell? ⟨w.heap.size,11,none⟩ = some (.string X2) /\ (w.alloc (.cells #[.string X0,.string X1,.int .i64 G0,.string Y0,.string Y1,.string Y2,.int .i64 P0,.int .i64 N0,.int .i64 N1,.slice a1 n1 c1,.int .i64 T0,.string X2,.int .i64 H0,.int .i64 B0,.bool D0] 37)).cell? ⟨w.heap.size,12,none⟩ = some (.int .i64 H0) /\ (w.alloc (.cells #[.string X0,.string X1,.int .i64 G0,.string Y0,.string Y1,.string Y2,.int .i64 P0,.int .i64 N0,.int .i64 N1,.slice a1 n1 c1,.int .i64 T0,.string X2,.int .i64 H0,.int .i64 B0,.bool D0] 37)).cell? ⟨w.heap.size,13,none⟩ = some (.int .i64 B0) /\ (w.alloc (.cells #[.string X0,.string X1,.int .i64 G0,.string Y0,.string Y1,.string Y2,.int .i64 P0,.int .i64 N0,.int .i64 N1,.slice a1 n1 c1,.int .i64 T0,.string X2,.int .i64 H0,.int .i64 B0,.bool D0] 37)).cell? ⟨w.heap.size,14,none⟩ = some (.bool D0) := unhide sall _ ⟨boxb _,fun x hx => by simp only [List.mem_cons,List.not_mem_nil,or_false] at hx; rcases hx with rfl | rfl | rfl | rfl | rfl | rfl | rfl | rfl | rfl | rfl | rfl | rfl | rfl | rfl | rfl <;> simp [go_sem]⟩
  clear sall
  go_enter Tryz.func65,Tryz.ntmps65
  go_wp2_with fail
  refine wp_region_noPanic ?_
  refine wp_region_held_drew (S := fun V => Hid (HeldS w [(⟨w.heap.size,0,none⟩,.string X0),(⟨w.heap.size,1,none⟩,.string X1),(⟨w.heap.size,2,none⟩,.int .i64 G0),(⟨w.heap.size,3,none⟩,.string Y0),(⟨w.heap.size,4,none⟩,.string Y1),(⟨w.heap.size,5,none⟩,.string Y2),(⟨w.heap.size,6,none⟩,.int .i64 P0),(⟨w.heap.size,7,none⟩,.int .i64 N0),(⟨w.heap.size,8,none⟩,.int .i64 N1),(⟨w.heap.size,9,none⟩,.slice a1 n1 c1),(⟨w.heap.size,10,none⟩,.int .i64 T0),(⟨w.heap.size,11,none⟩,.string X2),(⟨w.heap.size,12,none⟩,.int .i64 H0),(⟨w.heap.size,13,none⟩,.int .i64 B0),(⟨w.heap.size,14,none⟩,.bool D0)] V) /\ V.cell? ⟨w.heap.size,0,none⟩ = some (.string X0) /\ V.cell? ⟨w.heap.size,1,none⟩ = some (.string X1) /\ V.cell? ⟨w.heap.size,2,none⟩ = some (.int .i64 G0) /\ V.cell? ⟨w.heap.size,3,none⟩ = some (.string Y0) /\ V.cell? ⟨w.heap.size,4,none⟩ = some (.string Y1) /\ V.cell? ⟨w.heap.size,5,none⟩ = some (.string Y2) /\ V.cell? ⟨w.heap.size,6,none⟩ = some (.int .i64 P0) /\ V.cell? ⟨w.heap.size,7,none⟩ = some (.int .i64 N0) /\ V.cell? ⟨w.heap.size,8,none⟩ = some (.int .i64 N1) /\ V.cell? ⟨w.heap.size,9,none⟩ = some (.slice a1 n1 c1) /\ V.cell? ⟨w.heap.size,10,none⟩ = some (.int .i64 T0) /\ V.cell? ⟨w.heap.size,11,none⟩ = some (.string X2) /\ V.cell? ⟨w.heap.size,12,none⟩ = some (.int .i64 H0) /\ V.cell? ⟨w.heap.size,13,none⟩ = some (.int .i64 B0) /\ V.cell? ⟨w.heap.size,14,none⟩ = some (.bool D0)) (by kernel_rfl) (unhide kdrew _ hS) (fun hHeld0 => ?_)
  refine takeH6 (i := 0) (d := 3) (v := ?_) rfl rfl (by kernel_rfl) (by kernel_rfl) (by kernel_rfl) (fun _ _ _ h => h) (Or.inl ⟨by rfl,?_⟩) (by assumption) ?_
  rotate_left
  · (intro W hSW; (try dsimp only at hSW); go_simp; try (with_reducible rfl))
  try simp only [Act.put,List.setIfInBounds_toArray,List.set_cons_zero,List.set_cons_succ]
  refine takeH6 (i := 1) (d := 4) (v := ?_) rfl rfl (by kernel_rfl) (by kernel_rfl) (by kernel_rfl) (fun _ _ _ h => h) (Or.inl ⟨by rfl,?_⟩) (by assumption) ?_
  rotate_left
  · (intro W hSW; (try dsimp only at hSW); go_simp; try (with_reducible rfl))
  try simp only [Act.put,List.setIfInBounds_toArray,List.set_cons_zero,List.set_cons_succ]
  refine takeH6 (i := 2) (d := 5) (v := ?_) rfl rfl (by kernel_rfl) (by kernel_rfl) (by kernel_rfl) (fun _ _ _ h => h) (Or.inl ⟨by rfl,?_⟩) (by assumption) ?_
  rotate_left
  · (intro W hSW; (try dsimp only at hSW); go_simp; try (with_reducible rfl))
  try simp only [Act.put,List.setIfInBounds_toArray,List.set_cons_zero,List.set_cons_succ]
  refine takeH6 (i := 3) (d := 6) (v := ?_) rfl rfl (by kernel_rfl) (by kernel_rfl) (by kernel_rfl) (fun _ _ _ h => h) (Or.inl ⟨by rfl,?_⟩) (by assumption) ?_
  rotate_left
  · (intro W hSW; (try dsimp only at hSW); go_simp; try (with_reducible rfl))
  try simp only [Act.put,List.setIfInBounds_toArray,List.set_cons_zero,List.set_cons_succ]
  refine takeH6 (i := 12) (d := 15) (v := ?_) rfl rfl (by kernel_rfl) (by kernel_rfl) (by kernel_rfl) (fun _ _ _ h => h) (Or.inl ⟨by rfl,?_⟩) (by assumption) ?_
  rotate_left
  · (intro W hSW; (try dsimp only at hSW); go_simp; try (with_reducible rfl))
  try simp only [Act.put,List.setIfInBounds_toArray,List.set_cons_zero,List.set_cons_succ]
  refine takeH6 (i := 13) (d := 16) (v := ?_) rfl rfl (by kernel_rfl) (by kernel_rfl) (by kernel_rfl) (fun _ _ _ h => h) (Or.inl ⟨by rfl,?_⟩) (by assumption) ?_
  rotate_left
  · (intro W hSW; (try dsimp only at hSW); go_simp; try (with_reducible rfl))
  try simp only [Act.put,List.setIfInBounds_toArray,List.set_cons_zero,List.set_cons_succ]
  refine takeH6 (i := 15) (d := 18) (v := ?_) rfl rfl (by kernel_rfl) (by kernel_rfl) (by kernel_rfl) (fun _ _ _ h => h) (Or.inl ⟨by rfl,?_⟩) (by assumption) ?_
  rotate_left
  · (intro W hSW; (try dsimp only at hSW); go_simp; try (with_reducible rfl))
  try simp only [Act.put,List.setIfInBounds_toArray,List.set_cons_zero,List.set_cons_succ]
  refine takeH6 (i := 16) (d := 19) (v := ?_) rfl rfl (by kernel_rfl) (by kernel_rfl) (by kernel_rfl) (fun _ _ _ h => h) (Or.inl ⟨by rfl,?_⟩) (by assumption) ?_
  rotate_left
  · (intro W hSW; (try dsimp only at hSW); go_simp; try (with_reducible rfl))
  try simp only [Act.put,List.setIfInBounds_toArray,List.set_cons_zero,List.set_cons_succ]
  refine takeH6 (i := 18) (d := 21) (v := ?_) rfl rfl (by kernel_rfl) (by kernel_rfl) (by kernel_rfl) (fun _ _ _ h => h) (Or.inl ⟨by rfl,?_⟩) (by assumption) ?_
  rotate_left
  · (intro W hSW; (try dsimp only at hSW); go_simp; try (with_reducible rfl))
  try simp only [Act.put,List.setIfInBounds_toArray,List.set_cons_zero,List.set_cons_succ]
  refine takeH6 (i := 19) (d := 22) (v := ?_) rfl rfl (by kernel_rfl) (by kernel_rfl) (by kernel_rfl) (fun _ _ _ h => h) (Or.inl ⟨by rfl,?_⟩) (by assumption) ?_
  rotate_left
  · (intro W hSW; (try dsimp only at hSW); go_simp; try (with_reducible rfl))
  try simp only [Act.put,List.setIfInBounds_toArray,List.set_cons_zero,List.set_cons_succ]
  refine takeH6 (i := 21) (d := 24) (v := ?_) rfl rfl (by kernel_rfl) (by kernel_rfl) (by kernel_rfl) (fun _ _ _ h => h) (Or.inl ⟨by rfl,?_⟩) (by assumption) ?_
  rotate_left
  · (intro W hSW; (try dsimp only at hSW); go_simp; try (with_reducible rfl))
  try simp only [Act.put,List.setIfInBounds_toArray,List.set_cons_zero,List.set_cons_succ]
  refine takeH6 (i := 22) (d := 25) (v := ?_) rfl rfl (by kernel_rfl) (by kernel_rfl) (by kernel_rfl) (fun _ _ _ h => h) (Or.inl ⟨by rfl,?_⟩) (by assumption) ?_
  rotate_left
  · (intro W hSW; (try dsimp only at hSW); go_simp; try (with_reducible rfl))
  try simp only [Act.put,List.setIfInBounds_toArray,List.set_cons_zero,List.set_cons_succ]
  refine takeH6 (i := 25) (d := 28) (v := ?_) rfl rfl (by kernel_rfl) (by kernel_rfl) (by kernel_rfl) (fun _ _ _ h => h) (Or.inl ⟨by rfl,?_⟩) (by assumption) ?_
  rotate_left
  · (intro W hSW; (try dsimp only at hSW); go_simp; try (with_reducible rfl))
  try simp only [Act.put,List.setIfInBounds_toArray,List.set_cons_zero,List.set_cons_succ]
  refine takeH6 (i := 26) (d := 29) (v := ?_) rfl rfl (by kernel_rfl) (by kernel_rfl) (by kernel_rfl) (fun _ _ _ h => h) (Or.inl ⟨by rfl,?_⟩) (by assumption) ?_
  rotate_left
  · (intro W hSW; (try dsimp only at hSW); go_simp; try (with_reducible rfl))
  try simp only [Act.put,List.setIfInBounds_toArray,List.set_cons_zero,List.set_cons_succ]
  refine takeH6 (i := 27) (d := 30) (v := ?_) rfl rfl (by kernel_rfl) (by kernel_rfl) (by kernel_rfl) (fun _ _ _ h => h) (Or.inl ⟨by rfl,?_⟩) (by assumption) ?_
  rotate_left
  · (intro W hSW; (try dsimp only at hSW); go_simp; try (with_reducible rfl))
  try simp only [Act.put,List.setIfInBounds_toArray,List.set_cons_zero,List.set_cons_succ]
  refine takeH6 (i := 28) (d := 31) (v := ?_) rfl rfl (by kernel_rfl) (by kernel_rfl) (by kernel_rfl) (fun _ _ _ h => h) (Or.inl ⟨by rfl,?_⟩) (by assumption) ?_
  rotate_left
  · (intro W hSW; (try dsimp only at hSW); go_simp; try (with_reducible rfl))
  try simp only [Act.put,List.setIfInBounds_toArray,List.set_cons_zero,List.set_cons_succ]
  refine takeH6 (i := 30) (d := 33) (v := ?_) rfl rfl (by kernel_rfl) (by kernel_rfl) (by kernel_rfl) (fun _ _ _ h => h) (Or.inl ⟨by rfl,?_⟩) (by assumption) ?_
  rotate_left
  · (intro W hSW; (try dsimp only at hSW); go_simp; try (with_reducible rfl))
  try simp only [Act.put,List.setIfInBounds_toArray,List.set_cons_zero,List.set_cons_succ]
  refine takeH6 (i := 31) (d := 34) (v := ?_) rfl rfl (by kernel_rfl) (by kernel_rfl) (by kernel_rfl) (fun _ _ _ h => h) (Or.inl ⟨by rfl,?_⟩) (by assumption) ?_
  rotate_left
  · (intro W hSW; (try dsimp only at hSW); go_simp; try (with_reducible rfl))
  try simp only [Act.put,List.setIfInBounds_toArray,List.set_cons_zero,List.set_cons_succ]
  refine takeH6 (i := 34) (d := 37) (v := ?_) rfl rfl (by kernel_rfl) (by kernel_rfl) (by kernel_rfl) (fun _ _ _ h => h) (Or.inl ⟨by rfl,?_⟩) (by assumption) ?_
  rotate_left
  · (intro W hSW; (try dsimp only at hSW); go_simp; try (with_reducible rfl))
  try simp only [Act.put,List.setIfInBounds_toArray,List.set_cons_zero,List.set_cons_succ]
  refine takeH6 (i := 35) (d := 38) (v := ?_) rfl rfl (by kernel_rfl) (by kernel_rfl) (by kernel_rfl) (fun _ _ _ h => h) (Or.inl ⟨by rfl,?_⟩) (by assumption) ?_
  rotate_left
  · (intro W hSW; (try dsimp only at hSW); go_simp; try (with_reducible rfl))
  try simp only [Act.put,List.setIfInBounds_toArray,List.set_cons_zero,List.set_cons_succ]
  refine wpAnyH_ready (rs := [4]) (by kernel_rfl) (by simp) ?_
  refine AllReadyH.cons (o := _) rfl (fun K hK => ?_) AllReadyH.nil
  go_simp
  refine hK.out _ _ ?_ (fun hHeld1 => ?_)
  · (try dsimp only)
    (first | (with_reducible exact hS) | (with_reducible assumption) | (with_reducible refine unhide kdrew _ ?_; with_reducible assumption) | (with_reducible refine unhide kalloc _ _ ?_; with_reducible assumption) | (refine unhide kcall _ _ ?_ (by assumption); with_reducible assumption) | (with_reducible refine unhide kdrew _ (unhide kalloc _ _ ?_); with_reducible assumption) | (with_reducible refine unhide kalloc _ _ (unhide kdrew _ ?_); with_reducible assumption))
  clear hK K hHeld0
  try simp only [Act.put,List.setIfInBounds_toArray,List.set_cons_zero,List.set_cons_succ]
  refine wpAnyH_ready (rs := [5]) (by kernel_rfl) (by simp) ?_
  refine AllReadyH.cons (o := _) rfl (fun K hK => ?_) AllReadyH.nil
  go_simp
  (go_at_call 104; refine (unhide cNm _ _ (by simp [go_sem]) (by simp [go_sem])).mono ?_; rintro e w9 ⟨rfl,rfl⟩)
  refine hK.out _ _ ?_ (fun hHeld2 => ?_)
  · (try dsimp only)
    (first | (with_reducible exact hS) | (with_reducible assumption) | (with_reducible refine unhide kdrew _ ?_; with_reducible assumption) | (with_reducible refine unhide kalloc _ _ ?_; with_reducible assumption) | (refine unhide kcall _ _ ?_ (by assumption); with_reducible assumption) | (with_reducible refine unhide kdrew _ (unhide kalloc _ _ ?_); with_reducible assumption) | (with_reducible refine unhide kalloc _ _ (unhide kdrew _ ?_); with_reducible assumption))
  clear hK K hHeld1
  try simp only [Act.put,List.setIfInBounds_toArray,List.set_cons_zero,List.set_cons_succ]
  refine takeH6 (i := 6) (d := 9) (v := ?_) rfl rfl (by kernel_rfl) (by kernel_rfl) (by kernel_rfl) (fun _ _ _ h => h) (Or.inl ⟨by rfl,?_⟩) (by assumption) ?_
  rotate_left
  · (intro W hSW; (try dsimp only at hSW); go_simp; try (with_reducible rfl))
  try simp only [Act.put,List.setIfInBounds_toArray,List.set_cons_zero,List.set_cons_succ]
  refine takeH6 (i := 7) (d := 10) (v := undef) rfl rfl (by kernel_rfl) (by kernel_rfl) (by kernel_rfl) (fun _ _ _ h => h) (Or.inr ⟨by rfl,rfl⟩) (by assumption) ?_
  try simp only [Act.put,List.setIfInBounds_toArray,List.set_cons_zero,List.set_cons_succ]
  refine takeH6 (i := 8) (d := 11) (v := undef) rfl rfl (by kernel_rfl) (by kernel_rfl) (by kernel_rfl) (fun _ _ _ h => h) (Or.inr ⟨by rfl,rfl⟩) (by assumption) ?_
  try simp only [Act.put,List.setIfInBounds_toArray,List.set_cons_zero,List.set_cons_succ]
  refine takeH6 (i := 9) (d := 12) (v := undef) rfl rfl (by kernel_rfl) (by kernel_rfl) (by kernel_rfl) (fun _ _ _ h => h) (Or.inr ⟨by rfl,rfl⟩) (by assumption) ?_
  try simp only [Act.put,List.setIfInBounds_toArray,List.set_cons_zero,List.set_cons_succ]
  refine takeH6 (i := 10) (d := 13) (v := ?_) rfl rfl (by kernel_rfl) (by kernel_rfl) (by kernel_rfl) (fun _ _ _ h => h) (Or.inl ⟨by rfl,?_⟩) (by assumption) ?_
  rotate_left
  · (intro W hSW; (try dsimp only at hSW); go_simp; try (with_reducible rfl))
  try simp only [Act.put,List.setIfInBounds_toArray,List.set_cons_zero,List.set_cons_succ]
  refine wpAnyH_ready (rs := [11]) (by kernel_rfl) (by simp) ?_
  refine AllReadyH.cons (o := _) rfl (fun K hK => ?_) AllReadyH.nil
  go_simp
  (go_at_call 103; refine (unhide cU1 _ _ _ (by rfl) (by rfl)).mono ?_; rintro e w9 ⟨rfl,rfl⟩)
  refine hK.out _ _ ?_ (fun hHeld3 => ?_)
  · (try dsimp only)
    (first | (with_reducible exact hS) | (with_reducible assumption) | (with_reducible refine unhide kdrew _ ?_; with_reducible assumption) | (with_reducible refine unhide kalloc _ _ ?_; with_reducible assumption) | (refine unhide kcall _ _ ?_ (by assumption); with_reducible assumption) | (with_reducible refine unhide kdrew _ (unhide kalloc _ _ ?_); with_reducible assumption) | (with_reducible refine unhide kalloc _ _ (unhide kdrew _ ?_); with_reducible assumption))
  clear hK K hHeld2
  try simp only [Act.put,List.setIfInBounds_toArray,List.set_cons_zero,List.set_cons_succ]
  refine wpAnyH_ready (rs := [14]) (by kernel_rfl) (by simp) ?_
  refine AllReadyH.cons (o := _) rfl (fun K hK => ?_) AllReadyH.nil
  go_simp
  (go_at_call 116; refine (unhide k2 _).mono ?_; rintro e w9 ⟨rfl,rfl⟩)
  refine hK.out _ _ ?_ (fun hHeld4 => ?_)
  · (try dsimp only)
    (first | (with_reducible exact hS) | (with_reducible assumption) | (with_reducible refine unhide kdrew _ ?_; with_reducible assumption) | (with_reducible refine unhide kalloc _ _ ?_; with_reducible assumption) | (refine unhide kcall _ _ ?_ (by assumption); with_reducible assumption) | (with_reducible refine unhide kdrew _ (unhide kalloc _ _ ?_); with_reducible assumption) | (with_reducible refine unhide kalloc _ _ (unhide kdrew _ ?_); with_reducible assumption))
  clear hK K hHeld3
  try simp only [Act.put,List.setIfInBounds_toArray,List.set_cons_zero,List.set_cons_succ]
  refine wpAnyH_ready (rs := [17]) (by kernel_rfl) (by simp) ?_
  refine AllReadyH.cons (o := _) rfl (fun K hK => ?_) AllReadyH.nil
  go_simp
  (go_at_call 105; refine (unhide k3 _).mono ?_; rintro e w9 ⟨rfl,hw9⟩)
  refine hK.out _ _ ?_ (fun hHeld5 => ?_)
  · (try dsimp only)
    (first | (with_reducible exact hS) | (with_reducible assumption) | (with_reducible refine unhide kdrew _ ?_; with_reducible assumption) | (with_reducible refine unhide kalloc _ _ ?_; with_reducible assumption) | (refine unhide kcall _ _ ?_ (by assumption); with_reducible assumption) | (with_reducible refine unhide kdrew _ (unhide kalloc _ _ ?_); with_reducible assumption) | (with_reducible refine unhide kalloc _ _ (unhide kdrew _ ?_); with_reducible assumption))
  clear hK K hHeld4 hw9
  try simp only [Act.put,List.setIfInBounds_toArray,List.set_cons_zero,List.set_cons_succ]
  refine wpAnyH_ready (rs := [20]) (by kernel_rfl) (by simp) ?_
  refine AllReadyH.cons (o := _) rfl (fun K hK => ?_) AllReadyH.nil
  go_simp
  (go_at_call 117; with_reducible refine (unhide k4 _ ?_).mono ?_; with_reducible assumption; rintro e w9 ⟨rfl,hw9⟩)
  refine hK.out _ _ ?_ (fun hHeld6 => ?_)
  · (try dsimp only)
    (first | (with_reducible exact hS) | (with_reducible assumption) | (with_reducible refine unhide kdrew _ ?_; with_reducible assumption) | (with_reducible refine unhide kalloc _ _ ?_; with_reducible assumption) | (refine unhide kcall _ _ ?_ (by assumption); with_reducible assumption) | (with_reducible refine unhide kdrew _ (unhide kalloc _ _ ?_); with_reducible assumption) | (with_reducible refine unhide kalloc _ _ (unhide kdrew _ ?_); with_reducible assumption))
  clear hK K hHeld5 hw9
  try simp only [Act.put,List.setIfInBounds_toArray,List.set_cons_zero,List.set_cons_succ]
  refine wpAnyH_ready (rs := [23]) (by kernel_rfl) (by simp) ?_
  refine AllReadyH.cons (o := _) rfl (fun K hK => ?_) AllReadyH.nil
  go_simp
  (go_at_call 106; refine (btw_any _ _ _ _).mono ?_; rintro e w9 ⟨rfl,rfl⟩)
  refine hK.out _ _ ?_ (fun hHeld7 => ?_)
  · (try dsimp only)
    (first | (with_reducible exact hS) | (with_reducible assumption) | (with_reducible refine unhide kdrew _ ?_; with_reducible assumption) | (with_reducible refine unhide kalloc _ _ ?_; with_reducible assumption) | (refine unhide kcall _ _ ?_ (by assumption); with_reducible assumption) | (with_reducible refine unhide kdrew _ (unhide kalloc _ _ ?_); with_reducible assumption) | (with_reducible refine unhide kalloc _ _ (unhide kdrew _ ?_); with_reducible assumption))
  clear hK K hHeld6
  try simp only [Act.put,List.setIfInBounds_toArray,List.set_cons_zero,List.set_cons_succ]
  refine wpAnyH_ready (rs := [24]) (by kernel_rfl) (by simp) ?_
  refine AllReadyH.cons (o := _) rfl (fun K hK => ?_) AllReadyH.nil
  go_simp
  (go_at_call 103; refine (unhide cU5 _ _ _ (by rfl) (by rfl)).mono ?_; rintro e w9 ⟨rfl,rfl⟩)
  refine hK.out _ _ ?_ (fun hHeld8 => ?_)
  · (try dsimp only)
    (first | (with_reducible exact hS) | (with_reducible assumption) | (with_reducible refine unhide kdrew _ ?_; with_reducible assumption) | (with_reducible refine unhide kalloc _ _ ?_; with_reducible assumption) | (refine unhide kcall _ _ ?_ (by assumption); with_reducible assumption) | (with_reducible refine unhide kdrew _ (unhide kalloc _ _ ?_); with_reducible assumption) | (with_reducible refine unhide kalloc _ _ (unhide kdrew _ ?_); with_reducible assumption))
  clear hK K hHeld7
  try simp only [Act.put,List.setIfInBounds_toArray,List.set_cons_zero,List.set_cons_succ]
  refine wpAnyH_ready (rs := [29]) (by kernel_rfl) (by simp) ?_
  refine AllReadyH.cons (o := _) rfl (fun K hK => ?_) AllReadyH.nil
  go_simp
  (go_at_call 103; refine (unhide cU6 _ _ _ (by rfl) (by rfl)).mono ?_; rintro e w9 ⟨rfl,rfl⟩)
  refine hK.out _ _ ?_ (fun hHeld9 => ?_)
  · (try dsimp only)
    (first | (with_reducible exact hS) | (with_reducible assumption) | (with_reducible refine unhide kdrew _ ?_; with_reducible assumption) | (with_reducible refine unhide kalloc _ _ ?_; with_reducible assumption) | (refine unhide kcall _ _ ?_ (by assumption); with_reducible assumption) | (with_reducible refine unhide kdrew _ (unhide kalloc _ _ ?_); with_reducible assumption) | (with_reducible refine unhide kalloc _ _ (unhide kdrew _ ?_); with_reducible assumption))
  clear hK K hHeld8
  try simp only [Act.put,List.setIfInBounds_toArray,List.set_cons_zero,List.set_cons_succ]
  refine wpAnyH_ready (rs := [32]) (by kernel_rfl) (by simp) ?_
  refine AllReadyH.cons (o := _) rfl (fun K hK => ?_) AllReadyH.nil
  go_simp
  (go_at_call 106; refine (btw_any _ _ _ _).mono ?_; rintro e w9 ⟨rfl,rfl⟩)
  refine hK.out _ _ ?_ (fun hHeld10 => ?_)
  · (try dsimp only)
    (first | (with_reducible exact hS) | (with_reducible assumption) | (with_reducible refine unhide kdrew _ ?_; with_reducible assumption) | (with_reducible refine unhide kalloc _ _ ?_; with_reducible assumption) | (refine unhide kcall _ _ ?_ (by assumption); with_reducible assumption) | (with_reducible refine unhide kdrew _ (unhide kalloc _ _ ?_); with_reducible assumption) | (with_reducible refine unhide kalloc _ _ (unhide kdrew _ ?_); with_reducible assumption))
  clear hK K hHeld9
  try simp only [Act.put,List.setIfInBounds_toArray,List.set_cons_zero,List.set_cons_succ]
  refine wpAnyH_ready (rs := [33]) (by kernel_rfl) (by simp) ?_
  refine AllReadyH.cons (o := _) rfl (fun K hK => ?_) AllReadyH.nil
  go_simp
  (go_at_call 103; refine (unhide cU7 _ _ _ (by rfl) (by rfl)).mono ?_; rintro e w9 ⟨rfl,rfl⟩)
  refine hK.out _ _ ?_ (fun hHeld11 => ?_)
  · (try dsimp only)
    (first | (with_reducible exact hS) | (with_reducible assumption) | (with_reducible refine unhide kdrew _ ?_; with_reducible assumption) | (with_reducible refine unhide kalloc _ _ ?_; with_reducible assumption) | (refine unhide kcall _ _ ?_ (by assumption); with_reducible assumption) | (with_reducible refine unhide kdrew _ (unhide kalloc _ _ ?_); with_reducible assumption) | (with_reducible refine unhide kalloc _ _ (unhide kdrew _ ?_); with_reducible assumption))
  clear hK K hHeld10
  try simp only [Act.put,List.setIfInBounds_toArray,List.set_cons_zero,List.set_cons_succ]
  refine wpAnyH_ready (rs := [36]) (by kernel_rfl) (by simp) ?_
  refine AllReadyH.cons (o := _) rfl (fun K hK => ?_) AllReadyH.nil
  go_simp
  (go_at_call 111; refine (unhide kT _ _ (by rfl)).mono ?_; rintro e w9 ⟨rfl,rfl⟩)
  refine hK.out _ _ ?_ (fun hHeld12 => ?_)
  · (try dsimp only)
    (first | (with_reducible exact hS) | (with_reducible assumption) | (with_reducible refine unhide kdrew _ ?_; with_reducible assumption) | (with_reducible refine unhide kalloc _ _ ?_; with_reducible assumption) | (refine unhide kcall _ _ ?_ (by assumption); with_reducible assumption) | (with_reducible refine unhide kdrew _ (unhide kalloc _ _ ?_); with_reducible assumption) | (with_reducible refine unhide kalloc _ _ (unhide kdrew _ ?_); with_reducible assumption))
  clear hK K hHeld11
  try simp only [Act.put,List.setIfInBounds_toArray,List.set_cons_zero,List.set_cons_succ]
  refine takeH6 (i := 37) (d := 40) (v := ?_) rfl rfl (by kernel_rfl) (by kernel_rfl) (by kernel_rfl) (fun _ _ _ h => h) (Or.inl ⟨by rfl,?_⟩) (by assumption) ?_
  rotate_left
  · (intro W hSW; (try dsimp only at hSW); go_simp; try (with_reducible rfl))
  try simp only [Act.put,List.setIfInBounds_toArray,List.set_cons_zero,List.set_cons_succ]
  refine takeH6 (i := 38) (d := 41) (v := undef) rfl rfl (by kernel_rfl) (by kernel_rfl) (by kernel_rfl) (fun _ _ _ h => h) (Or.inr ⟨by rfl,rfl⟩) (by assumption) ?_
  try simp only [Act.put,List.setIfInBounds_toArray,List.set_cons_zero,List.set_cons_succ]
  refine takeH6 (i := 39) (d := 42) (v := undef) rfl rfl (by kernel_rfl) (by kernel_rfl) (by kernel_rfl) (fun _ _ _ h => h) (Or.inr ⟨by rfl,rfl⟩) (by assumption) ?_
  try simp only [Act.put,List.setIfInBounds_toArray,List.set_cons_zero,List.set_cons_succ]
  refine takeH6 (i := 40) (d := 43) (v := undef) rfl rfl (by kernel_rfl) (by kernel_rfl) (by kernel_rfl) (fun _ _ _ h => h) (Or.inr ⟨by rfl,rfl⟩) (by assumption) ?_
  try simp only [Act.put,List.setIfInBounds_toArray,List.set_cons_zero,List.set_cons_succ]
  refine takeH6 (i := 41) (d := 44) (v := ?_) rfl rfl (by kernel_rfl) (by kernel_rfl) (by kernel_rfl) (fun _ _ _ h => h) (Or.inl ⟨by rfl,?_⟩) (by assumption) ?_
  rotate_left
  · (intro W hSW; (try dsimp only at hSW); go_simp; try (with_reducible rfl))
  try simp only [Act.put,List.setIfInBounds_toArray,List.set_cons_zero,List.set_cons_succ]
  refine wpAnyH_ready (rs := [42]) (by kernel_rfl) (by simp) ?_
  refine AllReadyH.cons (o := _) rfl (fun K hK => ?_) AllReadyH.nil
  go_simp
  (go_at_call 103; refine (unhide cU8 _ _ _ (by rfl) (by rfl)).mono ?_; rintro e w9 ⟨rfl,rfl⟩)
  refine hK.out _ _ ?_ (fun hHeld13 => ?_)
  · (try dsimp only)
    (first | (with_reducible exact hS) | (with_reducible assumption) | (with_reducible refine unhide kdrew _ ?_; with_reducible assumption) | (with_reducible refine unhide kalloc _ _ ?_; with_reducible assumption) | (refine unhide kcall _ _ ?_ (by assumption); with_reducible assumption) | (with_reducible refine unhide kdrew _ (unhide kalloc _ _ ?_); with_reducible assumption) | (with_reducible refine unhide kalloc _ _ (unhide kdrew _ ?_); with_reducible assumption))
  clear hK K hHeld12
  try simp only [Act.put,List.setIfInBounds_toArray,List.set_cons_zero,List.set_cons_succ]
  refine wpAnyH_ready (rs := [43]) (by kernel_rfl) (by simp) ?_
  refine AllReadyH.cons (o := _) rfl (fun K hK => ?_) AllReadyH.nil
  go_simp
  refine hK.out _ _ ?_ (fun hHeld14 => ?_)
  · (try dsimp only)
    (first | (with_reducible exact hS) | (with_reducible assumption) | (with_reducible refine unhide kdrew _ ?_; with_reducible assumption) | (with_reducible refine unhide kalloc _ _ ?_; with_reducible assumption) | (refine unhide kcall _ _ ?_ (by assumption); with_reducible assumption) | (with_reducible refine unhide kdrew _ (unhide kalloc _ _ ?_); with_reducible assumption) | (with_reducible refine unhide kalloc _ _ (unhide kdrew _ ?_); with_reducible assumption))
  clear hK K hHeld13
  try simp only [Act.put,List.setIfInBounds_toArray,List.set_cons_zero,List.set_cons_succ]
  refine wpAnyH_ready (rs := [44]) (by kernel_rfl) (by simp) ?_
  refine AllReadyH.cons (o := _) rfl (fun K hK => ?_) AllReadyH.nil
  go_simp
  (go_at_call 102; refine (unhide cOr _ _ (by simp [go_sem]) (by simp [go_sem]) (by simp [go_sem]) (by simp [go_sem]) (by simp [go_sem]) (by simp [go_sem]) (by simp [go_sem]) (by simp [go_sem])).mono ?_; rintro e w9 ⟨rfl,rfl⟩)
  refine hK.out _ _ ?_ (fun hHeld15 => ?_)
  · (try dsimp only)
    (first | (with_reducible exact hS) | (with_reducible assumption) | (with_reducible refine unhide kdrew _ ?_; with_reducible assumption) | (with_reducible refine unhide kalloc _ _ ?_; with_reducible assumption) | (refine unhide kcall _ _ ?_ (by assumption); with_reducible assumption) | (with_reducible refine unhide kdrew _ (unhide kalloc _ _ ?_); with_reducible assumption) | (with_reducible refine unhide kalloc _ _ (unhide kdrew _ ?_); with_reducible assumption))
  clear hK K hHeld14
  try simp only [Act.put,List.setIfInBounds_toArray,List.set_cons_zero,List.set_cons_succ]
  refine takeH6 (i := 45) (d := 2) (v := ?_) rfl rfl (by kernel_rfl) (by kernel_rfl) (by kernel_rfl) (fun _ _ _ h => h) (Or.inl ⟨by rfl,?_⟩) (by assumption) ?_
  rotate_left
  · (intro W hSW; (try dsimp only at hSW); go_simp; try (with_reducible rfl))
  try simp only [Act.put,List.setIfInBounds_toArray,List.set_cons_zero,List.set_cons_succ]
  refine wpAnyH_done (by kernel_rfl) ?_ _
  refine NoPanic.normal ?_
  have hHeld := hHeld15
  clear hHeld15

  go_wp2_with fail
  go_ret
  exact ⟨rfl,(unhide hHeld.1).gr⟩
end Go.Proofs.YtfpfdnapamdhjaaGreatDoor

/- Layer 8: the program's Claim -/
namespace Go.Proofs.YtfpfdnapamdhjaaGreatDoor
open Go.RowKit Suf Val

theorem pclaim_any (p : VClaim) (u1 : Value) (w : World) (h : ClmIn w p u1) :
    Calls Tryz.prog 65 #[clmA p u1] w fun e w' => e = .returned (.int .i64 (claimR p)) /\ Below w.heap.size w w' := by
  cases hA : (nameB p.name && nameB p.pool) <;> cases hB : timeB p.gen
  · exact pclaim_D p u1 w h hA hB
  · exact pclaim_C p u1 w h hA hB
  · exact pclaim_B p u1 w h hA hB
  · exact pclaim_A p u1 w h hA hB
end Go.Proofs.YtfpfdnapamdhjaaGreatDoor
