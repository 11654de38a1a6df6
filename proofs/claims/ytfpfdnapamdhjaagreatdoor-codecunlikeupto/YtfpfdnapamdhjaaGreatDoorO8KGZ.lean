/- Layer 8: the program's Pool -/
import Derived.Test.YtfpfdnapamdhjaaGreatDoorO8EGZ
namespace Go.Proofs.YtfpfdnapamdhjaaGreatDoor
open Go.RowKit Suf Val

set_option maxRecDepth 100000 in
set_option maxHeartbeats 64000000 in
theorem ppool_any (p : VPool) (u1 u2 : Value) (w : World) (hL : Laid w) (h : PolIn w p u1 u2) :
    Calls Tryz.prog 64 #[polA p u1 u2] w fun e w' => e = .returned (.int .i64 (poolR p)) /\ Below w.heap.size w w' := by
  have hR : Hid (poolR p = orE [unl (nameB p.name) 7,unl (btwB 0 p.weight 100) 1,Am.chkA p.limit.1 p.limit.2,moreR 8 p.reqs,Ta.Val.taintR p.taints,unl (timeB p.gen && btwB 0 p.expire 1073741824) 1,unl (btwB 0 p.budget 16) 1,unl (btwB 0 p.merge 2) 1]) := rfl
  obtain ⟨R,hRR⟩ : ∃ R,R = poolR p := ⟨_,rfl⟩
  rw [<- hRR] at hR ⊢
  clear hRR
  have cNm := hide (names1 p.name h.n1)
  have k2 := hide (Am.checkAll_any p.limit.1 p.limit.2)
  have kT := hide (time_any p.gen)
  have hq1 := h.rq
  have hq2 := h.tn
  obtain ⟨a1,c1,hu1⟩ := h.rq.val
  obtain ⟨n1,hn1⟩ : ∃ n,n = p.reqs.length := ⟨_,rfl⟩
  obtain ⟨a2,c2,hu2⟩ := h.tn.val
  obtain ⟨n2,hn2⟩ : ∃ n,n = p.taints.length := ⟨_,rfl⟩
  unfold polA
  rw [hu1,hu2]
  rw [hu1,<- hn1] at hq1
  rw [hu2,<- hn2] at hq2
  rw [<- hn1,<- hn2]
  clear hu1 hu2 h
  obtain ⟨qn,hqn⟩ : ∃ z,z = nameB p.name := ⟨_,rfl⟩
  obtain ⟨z3,hz3⟩ : ∃ z,z = Am.chkA p.limit.1 p.limit.2 := ⟨_,rfl⟩
  obtain ⟨z4,hz4⟩ : ∃ z,z = moreR 8 p.reqs := ⟨_,rfl⟩
  obtain ⟨z5,hz5⟩ : ∃ z,z = Ta.Val.taintR p.taints := ⟨_,rfl⟩
  obtain ⟨qt,hqt⟩ : ∃ z,z = timeB p.gen := ⟨_,rfl⟩
  obtain ⟨X0,hX0⟩ : ∃ z,z = bytesT p.name := ⟨_,rfl⟩
  obtain ⟨N0,hN0⟩ : ∃ z,z = p.limit.1 := ⟨_,rfl⟩
  obtain ⟨N1,hN1⟩ : ∃ z,z = p.limit.2 := ⟨_,rfl⟩
  obtain ⟨W0,hW0⟩ : ∃ z,z = p.weight := ⟨_,rfl⟩
  obtain ⟨G0,hG0⟩ : ∃ z,z = p.gen := ⟨_,rfl⟩
  obtain ⟨E0,hE0⟩ : ∃ z,z = p.expire := ⟨_,rfl⟩
  obtain ⟨B0,hB0⟩ : ∃ z,z = p.budget := ⟨_,rfl⟩
  obtain ⟨M0,hM0⟩ : ∃ z,z = p.merge := ⟨_,rfl⟩
  rw [<- hqn,<- hz3,<- hz4,<- hz5,<- hqt,<- hW0,<- hE0,<- hB0,<- hM0] at hR
  rw [<- hqn,<- hX0] at cNm
  rw [<- hz3,<- hN0,<- hN1] at k2
  rw [<- hqt,<- hG0] at kT
  rw [<- hX0,<- hN0,<- hN1,<- hW0,<- hG0,<- hE0,<- hB0,<- hM0]
  obtain ⟨z1,hz1⟩ : ∃ z,z = unl qn 7 := ⟨_,rfl⟩
  obtain ⟨z2,hz2⟩ : ∃ z,z = unl (btwB 0 W0 100) 1 := ⟨_,rfl⟩
  obtain ⟨z6,hz6⟩ : ∃ z,z = unl (qt && btwB 0 E0 1073741824) 1 := ⟨_,rfl⟩
  obtain ⟨z7,hz7⟩ : ∃ z,z = unl (btwB 0 B0 16) 1 := ⟨_,rfl⟩
  obtain ⟨z8,hz8⟩ : ∃ z,z = unl (btwB 0 M0 2) 1 := ⟨_,rfl⟩
  rw [<- hz1,<- hz2,<- hz6,<- hz7,<- hz8] at hR
  have cU1 : Hid (∀ V bb ee,bb = .bool (qn) -> ee = .int .i64 7 -> Calls Tryz.prog 103 #[bb,ee] V fun r w' => r = .returned (.int .i64 z1) /\ w' = V) := fun V bb ee e1 e2 => by rw [e1,e2,hz1]; exact unless_any (qn) 7 V
  have cU2 : Hid (∀ V bb ee,bb = .bool (btwB 0 W0 100) -> ee = .int .i64 1 -> Calls Tryz.prog 103 #[bb,ee] V fun r w' => r = .returned (.int .i64 z2) /\ w' = V) := fun V bb ee e1 e2 => by rw [e1,e2,hz2]; exact unless_any (btwB 0 W0 100) 1 V
  have cU7 : Hid (∀ V bb ee,bb = .bool (btwB 0 B0 16) -> ee = .int .i64 1 -> Calls Tryz.prog 103 #[bb,ee] V fun r w' => r = .returned (.int .i64 z7) /\ w' = V) := fun V bb ee e1 e2 => by rw [e1,e2,hz7]; exact unless_any (btwB 0 B0 16) 1 V
  have cU8 : Hid (∀ V bb ee,bb = .bool (btwB 0 M0 2) -> ee = .int .i64 1 -> Calls Tryz.prog 103 #[bb,ee] V fun r w' => r = .returned (.int .i64 z8) /\ w' = V) := fun V bb ee e1 e2 => by rw [e1,e2,hz8]; exact unless_any (btwB 0 M0 2) 1 V
  have cOr : Hid (∀ V B,V.cell? ⟨B,0,none⟩ = some (.int .i64 z1) -> V.cell? ⟨B,1,none⟩ = some (.int .i64 z2) -> V.cell? ⟨B,2,none⟩ = some (.int .i64 z3) -> V.cell? ⟨B,3,none⟩ = some (.int .i64 z4) -> V.cell? ⟨B,4,none⟩ = some (.int .i64 z5) -> V.cell? ⟨B,5,none⟩ = some (.int .i64 z6) -> V.cell? ⟨B,6,none⟩ = some (.int .i64 z7) -> V.cell? ⟨B,7,none⟩ = some (.int .i64 z8) -> Calls Tryz.prog 102 #[.slice (some ⟨B,0,none⟩) 8 8] V fun r w' => r = .returned (.int .i64 R) /\ w' = V) := fun V B g0 g1 g2 g3 g4 g5 g6 g7 => by rw [unhide hR]; exact or8_8 z1 z2 z3 z4 z5 z6 z7 z8 g0 g1 g2 g3 g4 g5 g6 g7
  have G (V : World) (h : HeldS w [(⟨w.heap.size,0,none⟩,.string X0),(⟨w.heap.size,1,none⟩,.int .i64 W0),(⟨w.heap.size,2,none⟩,.int .i64 N0),(⟨w.heap.size,3,none⟩,.int .i64 N1),(⟨w.heap.size,4,none⟩,.slice a1 n1 c1),(⟨w.heap.size,5,none⟩,.slice a2 n2 c2),(⟨w.heap.size,6,none⟩,.int .i64 G0),(⟨w.heap.size,7,none⟩,.int .i64 E0),(⟨w.heap.size,8,none⟩,.int .i64 B0),(⟨w.heap.size,9,none⟩,.int .i64 M0)] V) : Below w.heap.size w V := h.gr
  have k4 : Hid (∀ V,(Hid (HeldS w [(⟨w.heap.size,0,none⟩,.string X0),(⟨w.heap.size,1,none⟩,.int .i64 W0),(⟨w.heap.size,2,none⟩,.int .i64 N0),(⟨w.heap.size,3,none⟩,.int .i64 N1),(⟨w.heap.size,4,none⟩,.slice a1 n1 c1),(⟨w.heap.size,5,none⟩,.slice a2 n2 c2),(⟨w.heap.size,6,none⟩,.int .i64 G0),(⟨w.heap.size,7,none⟩,.int .i64 E0),(⟨w.heap.size,8,none⟩,.int .i64 B0),(⟨w.heap.size,9,none⟩,.int .i64 M0)] V) /\ V.cell? ⟨w.heap.size,0,none⟩ = some (.string X0) /\ V.cell? ⟨w.heap.size,1,none⟩ = some (.int .i64 W0) /\ V.cell? ⟨w.heap.size,2,none⟩ = some (.int .i64 N0) /\ V.cell? ⟨w.heap.size,3,none⟩ = some (.int .i64 N1) /\ V.cell? ⟨w.heap.size,4,none⟩ = some (.slice a1 n1 c1) /\ V.cell? ⟨w.heap.size,5,none⟩ = some (.slice a2 n2 c2) /\ V.cell? ⟨w.heap.size,6,none⟩ = some (.int .i64 G0) /\ V.cell? ⟨w.heap.size,7,none⟩ = some (.int .i64 E0) /\ V.cell? ⟨w.heap.size,8,none⟩ = some (.int .i64 B0) /\ V.cell? ⟨w.heap.size,9,none⟩ = some (.int .i64 M0)) -> Calls Tryz.prog 107 #[.slice a1 n1 c1] V fun e w' => e = .returned (.int .i64 z4) /\ Below V.heap.size V w') := fun V hs => by rw [hz4]; exact rcheckL_any _ _ V (hL.below (G V (unhide hs.1))) (hq1.below (G V (unhide hs.1)))
  have k5 : Hid (∀ V,(Hid (HeldS w [(⟨w.heap.size,0,none⟩,.string X0),(⟨w.heap.size,1,none⟩,.int .i64 W0),(⟨w.heap.size,2,none⟩,.int .i64 N0),(⟨w.heap.size,3,none⟩,.int .i64 N1),(⟨w.heap.size,4,none⟩,.slice a1 n1 c1),(⟨w.heap.size,5,none⟩,.slice a2 n2 c2),(⟨w.heap.size,6,none⟩,.int .i64 G0),(⟨w.heap.size,7,none⟩,.int .i64 E0),(⟨w.heap.size,8,none⟩,.int .i64 B0),(⟨w.heap.size,9,none⟩,.int .i64 M0)] V) /\ V.cell? ⟨w.heap.size,0,none⟩ = some (.string X0) /\ V.cell? ⟨w.heap.size,1,none⟩ = some (.int .i64 W0) /\ V.cell? ⟨w.heap.size,2,none⟩ = some (.int .i64 N0) /\ V.cell? ⟨w.heap.size,3,none⟩ = some (.int .i64 N1) /\ V.cell? ⟨w.heap.size,4,none⟩ = some (.slice a1 n1 c1) /\ V.cell? ⟨w.heap.size,5,none⟩ = some (.slice a2 n2 c2) /\ V.cell? ⟨w.heap.size,6,none⟩ = some (.int .i64 G0) /\ V.cell? ⟨w.heap.size,7,none⟩ = some (.int .i64 E0) /\ V.cell? ⟨w.heap.size,8,none⟩ = some (.int .i64 B0) /\ V.cell? ⟨w.heap.size,9,none⟩ = some (.int .i64 M0)) -> Calls Tryz.prog 113 #[.slice a2 n2 c2] V fun e w' => e = .returned (.int .i64 z5) /\ Below V.heap.size V w') := fun V hs => by rw [hz5]; exact Ta.pcheck_any _ _ V (hL.below (G V (unhide hs.1))) (hq2.below (G V (unhide hs.1)))
  clear hn1 hn2 hqn hz3 hz4 hz5 hqt hX0 hN0 hN1 hW0 hG0 hE0 hB0 hM0 hz1 hz2 hz7 hz8 hq1 hq2 hL G hR
  have sall : Hid (∀ V,HeldS w [(⟨w.heap.size,0,none⟩,.string X0),(⟨w.heap.size,1,none⟩,.int .i64 W0),(⟨w.heap.size,2,none⟩,.int .i64 N0),(⟨w.heap.size,3,none⟩,.int .i64 N1),(⟨w.heap.size,4,none⟩,.slice a1 n1 c1),(⟨w.heap.size,5,none⟩,.slice a2 n2 c2),(⟨w.heap.size,6,none⟩,.int .i64 G0),(⟨w.heap.size,7,none⟩,.int .i64 E0),(⟨w.heap.size,8,none⟩,.int .i64 B0),(⟨w.heap.size,9,none⟩,.int .i64 M0)] V -> Hid (HeldS w [(⟨w.heap.size,0,none⟩,.string X0),(⟨w.heap.size,1,none⟩,.int .i64 W0),(⟨w.heap.size,2,none⟩,.int .i64 N0),(⟨w.heap.size,3,none⟩,.int .i64 N1),(⟨w.heap.size,4,none⟩,.slice a1 n1 c1),(⟨w.heap.size,5,none⟩,.slice a2 n2 c2),(⟨w.heap.size,6,none⟩,.int .i64 G0),(⟨w.heap.size,7,none⟩,.int .i64 E0),(⟨w.heap.size,8,none⟩,.int .i64 B0),(⟨w.heap.size,9,none⟩,.int .i64 M0)] V) /\ V.cell? ⟨w.heap.size,0,none⟩ = some (.string X0) /\ V.cell? ⟨w.heap.size,1,none⟩ = some (.int .i64 W0) /\ V.cell? ⟨w.heap.size,2,none⟩ = some (.int .i64 N0) /\ V.cell? ⟨w.heap.size,3,none⟩ = some (.int .i64 N1) /\ V.cell? ⟨w.heap.size,4,none⟩ = some (.slice a1 n1 c1) /\ V.cell? ⟨w.heap.size,5,none⟩ = some (.slice a2 n2 c2) /\ V.cell? ⟨w.heap.size,6,none⟩ = some (.int .i64 G0) /\ V.cell? ⟨w.heap.size,7,none⟩ = some (.int .i64 E0) /\ V.cell? ⟨w.heap.size,8,none⟩ = some (.int .i64 B0) /\ V.cell? ⟨w.heap.size,9,none⟩ = some (.int .i64 M0)) := fun V h => ⟨h,h.at 0 rfl,h.at 1 rfl,h.at 2 rfl,h.at 3 rfl,h.at 4 rfl,h.at 5 rfl,h.at 6 rfl,h.at 7 rfl,h.at 8 rfl,h.at 9 rfl⟩
  have kdrew : Hid (∀ V,(Hid (HeldS w [(⟨w.heap.size,0,none⟩,.string X0),(⟨w.heap.size,1,none⟩,.int .i64 W0),(⟨w.heap.size,2,none⟩,.int .i64 N0),(⟨w.heap.size,3,none⟩,.int .i64 N1),(⟨w.heap.size,4,none⟩,.slice a1 n1 c1),(⟨w.heap.size,5,none⟩,.slice a2 n2 c2),(⟨w.heap.size,6,none⟩,.int .i64 G0),(⟨w.heap.size,7,none⟩,.int .i64 E0),(⟨w.heap.size,8,none⟩,.int .i64 B0),(⟨w.heap.size,9,none⟩,.int .i64 M0)] V) /\ V.cell? ⟨w.heap.size,0,none⟩ = some (.string X0) /\ V.cell? ⟨w.heap.size,1,none⟩ = some (.int .i64 W0) /\ V.cell? ⟨w.heap.size,2,none⟩ = some (.int .i64 N0) /\ V.cell? ⟨w.heap.size,3,none⟩ = some (.int .i64 N1) /\ V.cell? ⟨w.heap.size,4,none⟩ = some (.slice a1 n1 c1) /\ V.cell? ⟨w.heap.size,5,none⟩ = some (.slice a2 n2 c2) /\ V.cell? ⟨w.heap.size,6,none⟩ = some (.int .i64 G0) /\ V.cell? ⟨w.heap.size,7,none⟩ = some (.int .i64 E0) /\ V.cell? ⟨w.heap.size,8,none⟩ = some (.int .i64 B0) /\ V.cell? ⟨w.heap.size,9,none⟩ = some (.int .i64 M0)) -> Hid (HeldS w [(⟨w.heap.size,0,none⟩,.string X0),(⟨w.heap.size,1,none⟩,.int .i64 W0),(⟨w.heap.size,2,none⟩,.int .i64 N0),(⟨w.heap.size,3,none⟩,.int .i64 N1),(⟨w.heap.size,4,none⟩,.slice a1 n1 c1),(⟨w.heap.size,5,none⟩,.slice a2 n2 c2),(⟨w.heap.size,6,none⟩,.int .i64 G0),(⟨w.heap.size,7,none⟩,.int .i64 E0),(⟨w.heap.size,8,none⟩,.int .i64 B0),(⟨w.heap.size,9,none⟩,.int .i64 M0)] V.drew) /\ V.drew.cell? ⟨w.heap.size,0,none⟩ = some (.string X0) /\ V.drew.cell? ⟨w.heap.size,1,none⟩ = some (.int .i64 W0) /\ V.drew.cell? ⟨w.heap.size,2,none⟩ = some (.int .i64 N0) /\ V.drew.cell? ⟨w.heap.size,3,none⟩ = some (.int .i64 N1) /\ V.drew.cell? ⟨w.heap.size,4,none⟩ = some (.slice a1 n1 c1) /\ V.drew.cell? ⟨w.heap.size,5,none⟩ = some (.slice a2 n2 c2) /\ V.drew.cell? ⟨w.heap.size,6,none⟩ = some (.int .i64 G0) /\ V.drew.cell? ⟨w.heap.size,7,none⟩ = some (.int .i64 E0) /\ V.drew.cell? ⟨w.heap.size,8,none⟩ = some (.int .i64 B0) /\ V.drew.cell? ⟨w.heap.size,9,none⟩ = some (.int .i64 M0)) := fun V h => unhide sall _ (unhide h.1).drew
  have kalloc : Hid (∀ V o,(Hid (HeldS w [(⟨w.heap.size,0,none⟩,.string X0),(⟨w.heap.size,1,none⟩,.int .i64 W0),(⟨w.heap.size,2,none⟩,.int .i64 N0),(⟨w.heap.size,3,none⟩,.int .i64 N1),(⟨w.heap.size,4,none⟩,.slice a1 n1 c1),(⟨w.heap.size,5,none⟩,.slice a2 n2 c2),(⟨w.heap.size,6,none⟩,.int .i64 G0),(⟨w.heap.size,7,none⟩,.int .i64 E0),(⟨w.heap.size,8,none⟩,.int .i64 B0),(⟨w.heap.size,9,none⟩,.int .i64 M0)] V) /\ V.cell? ⟨w.heap.size,0,none⟩ = some (.string X0) /\ V.cell? ⟨w.heap.size,1,none⟩ = some (.int .i64 W0) /\ V.cell? ⟨w.heap.size,2,none⟩ = some (.int .i64 N0) /\ V.cell? ⟨w.heap.size,3,none⟩ = some (.int .i64 N1) /\ V.cell? ⟨w.heap.size,4,none⟩ = some (.slice a1 n1 c1) /\ V.cell? ⟨w.heap.size,5,none⟩ = some (.slice a2 n2 c2) /\ V.cell? ⟨w.heap.size,6,none⟩ = some (.int .i64 G0) /\ V.cell? ⟨w.heap.size,7,none⟩ = some (.int .i64 E0) /\ V.cell? ⟨w.heap.size,8,none⟩ = some (.int .i64 B0) /\ V.cell? ⟨w.heap.size,9,none⟩ = some (.int .i64 M0)) -> Hid (HeldS w [(⟨w.heap.size,0,none⟩,.string X0),(⟨w.heap.size,1,none⟩,.int .i64 W0),(⟨w.heap.size,2,none⟩,.int .i64 N0),(⟨w.heap.size,3,none⟩,.int .i64 N1),(⟨w.heap.size,4,none⟩,.slice a1 n1 c1),(⟨w.heap.size,5,none⟩,.slice a2 n2 c2),(⟨w.heap.size,6,none⟩,.int .i64 G0),(⟨w.heap.size,7,none⟩,.int .i64 E0),(⟨w.heap.size,8,none⟩,.int .i64 B0),(⟨w.heap.size,9,none⟩,.int .i64 M0)] (V.alloc o)) /\ (V.alloc o).cell? ⟨w.heap.size,0,none⟩ = some (.string X0) /\ (V.alloc o).cell? ⟨w.heap.size,1,none⟩ = some (.int .i64 W0) /\ (V.alloc o).cell? ⟨w.heap.size,2,none⟩ = some (.int .i64 N0) /\ (V.alloc o).cell? ⟨w.heap.size,3,none⟩ = some (.int .i64 N1) /\ (V.alloc o).cell? ⟨w.heap.size,4,none⟩ = some (.slice a1 n1 c1) /\ (V.alloc o).cell? ⟨w.heap.size,5,none⟩ = some (.slice a2 n2 c2) /\ (V.alloc o).cell? ⟨w.heap.size,6,none⟩ = some (.int .i64 G0) /\ (V.alloc o).cell? ⟨w.heap.size,7,none⟩ = some (.int .i64 E0) /\ (V.alloc o).cell? ⟨w.heap.size,8,none⟩ = some (.int .i64 B0) /\ (V.alloc o).cell? ⟨w.heap.size,9,none⟩ = some (.int .i64 M0)) := fun V o h => unhide sall _ ((unhide h.1).alloc o)
  have kcall : Hid (∀ V V',(Hid (HeldS w [(⟨w.heap.size,0,none⟩,.string X0),(⟨w.heap.size,1,none⟩,.int .i64 W0),(⟨w.heap.size,2,none⟩,.int .i64 N0),(⟨w.heap.size,3,none⟩,.int .i64 N1),(⟨w.heap.size,4,none⟩,.slice a1 n1 c1),(⟨w.heap.size,5,none⟩,.slice a2 n2 c2),(⟨w.heap.size,6,none⟩,.int .i64 G0),(⟨w.heap.size,7,none⟩,.int .i64 E0),(⟨w.heap.size,8,none⟩,.int .i64 B0),(⟨w.heap.size,9,none⟩,.int .i64 M0)] V) /\ V.cell? ⟨w.heap.size,0,none⟩ = some (.string X0) /\ V.cell? ⟨w.heap.size,1,none⟩ = some (.int .i64 W0) /\ V.cell? ⟨w.heap.size,2,none⟩ = some (.int .i64 N0) /\ V.cell? ⟨w.heap.size,3,none⟩ = some (.int .i64 N1) /\ V.cell? ⟨w.heap.size,4,none⟩ = some (.slice a1 n1 c1) /\ V.cell? ⟨w.heap.size,5,none⟩ = some (.slice a2 n2 c2) /\ V.cell? ⟨w.heap.size,6,none⟩ = some (.int .i64 G0) /\ V.cell? ⟨w.heap.size,7,none⟩ = some (.int .i64 E0) /\ V.cell? ⟨w.heap.size,8,none⟩ = some (.int .i64 B0) /\ V.cell? ⟨w.heap.size,9,none⟩ = some (.int .i64 M0)) -> Below V.heap.size V V' -> Hid (HeldS w [(⟨w.heap.size,0,none⟩,.string X0),(⟨w.heap.size,1,none⟩,.int .i64 W0),(⟨w.heap.size,2,none⟩,.int .i64 N0),(⟨w.heap.size,3,none⟩,.int .i64 N1),(⟨w.heap.size,4,none⟩,.slice a1 n1 c1),(⟨w.heap.size,5,none⟩,.slice a2 n2 c2),(⟨w.heap.size,6,none⟩,.int .i64 G0),(⟨w.heap.size,7,none⟩,.int .i64 E0),(⟨w.heap.size,8,none⟩,.int .i64 B0),(⟨w.heap.size,9,none⟩,.int .i64 M0)] V') /\ V'.cell? ⟨w.heap.size,0,none⟩ = some (.string X0) /\ V'.cell? ⟨w.heap.size,1,none⟩ = some (.int .i64 W0) /\ V'.cell? ⟨w.heap.size,2,none⟩ = some (.int .i64 N0) /\ V'.cell? ⟨w.heap.size,3,none⟩ = some (.int .i64 N1) /\ V'.cell? ⟨w.heap.size,4,none⟩ = some (.slice a1 n1 c1) /\ V'.cell? ⟨w.heap.size,5,none⟩ = some (.slice a2 n2 c2) /\ V'.cell? ⟨w.heap.size,6,none⟩ = some (.int .i64 G0) /\ V'.cell? ⟨w.heap.size,7,none⟩ = some (.int .i64 E0) /\ V'.cell? ⟨w.heap.size,8,none⟩ = some (.int .i64 B0) /\ V'.cell? ⟨w.heap.size,9,none⟩ = some (.int .i64 M0)) := fun V V' h hb => unhide sall _ ((unhide h.1).below hb)
  have hS : Hid (HeldS w [(⟨w.heap.size,0,none⟩,.string X0),(⟨w.heap.size,1,none⟩,.int .i64 W0),(⟨w.heap.size,2,none⟩,.int .i64 N0),(⟨w.heap.size,3,none⟩,.int .i64 N1),(⟨w.heap.size,4,none⟩,.slice a1 n1 c1),(⟨w.heap.size,5,none⟩,.slice a2 n2 c2),(⟨w.heap.size,6,none⟩,.int .i64 G0),(⟨w.heap.size,7,none⟩,.int .i64 E0),(⟨w.heap.size,8,none⟩,.int .i64 B0),(⟨w.heap.size,9,none⟩,.int .i64 M0)] (w.alloc (.cells #[.string X0,.int .i64 W0,.int .i64 N0,.int .i64 N1,.slice a1 n1 c1,.slice a2 n2 c2,.int .i64 G0,.int .i64 E0,.int .i64 B0,.int .i64 M0] 32))) /\ (w.alloc (.cells #[.string X0,.int .i64 W0,.int .i64 N0,.int .i64 N1,.slice a1 n1 c1,.slice a2 n2 c2,.int .i64 G0,.int .i64 E0,.int .i64 B0,.int .i64 M0] 32)).cell? ⟨w.heap.size,0,none⟩ = some (.string X0) /\ (w.alloc (.cells #[.string X0,.int .i64 W0,.int .i64 N0,.int .i64 N1,.slice a1 n1 c1,.slice a2 n2 c2,.int .i64 G0,.int .i64 E0,.int .i64 B0,.int .i64 M0] 32)).cell? ⟨w.heap.size,1,none⟩ = some (.int .i64 W0) /\ (w.alloc (.cells #[.string X0,.int .i64 W0,.int .i64 N0,.int .i64 N1,.slice a1 n1 c1,.slice a2 n2 c2,.int .i64 G0,.int .i64 E0,.int .i64 B0,.int .i64 M0] 32)).cell? ⟨w.heap.size,2,none⟩ = some (.int .i64 N0) /\ (w.alloc (.cells #[.string X0,.int .i64 W0,.int .i64 N0,.int .i64 N1,.slice a1 n1 c1,.slice a2 n2 c2,.int .i64 G0,.int .i64 E0,.int .i64 B0,.int .i64 M0] 32)).cell? ⟨w.heap.size,3,none⟩ = some (.int .i64 N1) /\ (w.alloc (.cells #[.string X0,.int .i64 W0,.int .i64 N0,.int .i64 N1,.slice a1 n1 c1,.slice a2 n2 c2,.int .i64 G0,.int .i64 E0,.int .i64 B0,.int .i64 M0] 32)).cell? ⟨w.heap.size,4,none⟩ = some (.slice a1 n1 c1) /\ (w.alloc (.cells #[.string X0,.int .i64 W0,.int .i64 N0,.int .i64 N1,.slice a1 n1 c1,.slice a2 n2 c2,.int .i64 G0,.int .i64 E0,.int .i64 B0,.int .i64 M0] 32)).cell? ⟨w.heap.size,5,none⟩ = some (.slice a2 n2 c2) /\ (w.alloc (.cells #[.string X0,.int .i64 W0,.int .i64 N0,.int .i64 N1,.slice a1 n1 c1,.slice a2 n2 c2,.int .i64 G0,.int .i64 E0,.int .i64 B0,.int .i64 M0] 32)).cell? ⟨w.heap.size,6,none⟩ = some (.int .i64 G0) /\ (w.alloc (.cells #[.string X0,.int .i64 W0,.int .i64 N0,.int .i64 N1,.slice a1 n1 c1,.slice a2 n2 c2,.int .i64 G0,.int .i64 E0,.int .i64 B0,.int .i64 M0] 32)).cell? ⟨w.heap.size,7,none⟩ = some (.int .i64 E0) /\ (w.alloc (.cells #[.string X0,.int .i64 W0,.int .i64 N0,.int .i64 N1,.slice a1 n1 c1,.slice a2 n2 c2,.int .i64 G0,.int .i64 E0,.int .i64 B0,.int .i64 M0] 32)).cell? ⟨w.heap.size,8,none⟩ = some (.int .i64 B0) /\ (w.alloc (.cells #[.string X0,.int .i64 W0,.int .i64 N0,.int .i64 N1,.slice a1 n1 c1,.slice a2 n2 c2,.int .i64 G0,.int .i64 E0,.int .i64 B0,.int .i64 M0] 32)).cell? ⟨w.heap.size,9,none⟩ = some (.int .i64 M0) := unhide sall _ ⟨boxb _,fun x hx => by simp only [List.mem_cons,List.not_mem_nil,or_false] at hx; rcases hx with rfl | rfl | rfl | rfl | rfl | rfl | rfl | rfl | rfl | rfl <;> simp [go_sem]⟩
  clear sall
  cases qt
  · have cU6 : Hid (∀ V bb ee,bb = .bool false -> ee = .int .i64 1 -> Calls Tryz.prog 103 #[bb,ee] V fun r w' => r = .returned (.int .i64 z6) /\ w' = V) := fun V bb ee e1 e2 => by rw [e1,e2,hz6]; exact unless_any false 1 V
    clear hz6
    go_enter Tryz.func64,Tryz.ntmps64
    go_wp2_with fail
    refine wp_region_noPanic ?_
    refine wp_region_held_drew (S := fun V => Hid (HeldS w [(⟨w.heap.size,0,none⟩,.string X0),(⟨w.heap.size,1,none⟩,.int .i64 W0),(⟨w.heap.size,2,none⟩,.int .i64 N0),(⟨w.heap.size,3,none⟩,.int .i64 N1),(⟨w.heap.size,4,none⟩,.slice a1 n1 c1),(⟨w.heap.size,5,none⟩,.slice a2 n2 c2),(⟨w.heap.size,6,none⟩,.int .i64 G0),(⟨w.heap.size,7,none⟩,.int .i64 E0),(⟨w.heap.size,8,none⟩,.int .i64 B0),(⟨w.heap.size,9,none⟩,.int .i64 M0)] V) /\ V.cell? ⟨w.heap.size,0,none⟩ = some (.string X0) /\ V.cell? ⟨w.heap.size,1,none⟩ = some (.int .i64 W0) /\ V.cell? ⟨w.heap.size,2,none⟩ = some (.int .i64 N0) /\ V.cell? ⟨w.heap.size,3,none⟩ = some (.int .i64 N1) /\ V.cell? ⟨w.heap.size,4,none⟩ = some (.slice a1 n1 c1) /\ V.cell? ⟨w.heap.size,5,none⟩ = some (.slice a2 n2 c2) /\ V.cell? ⟨w.heap.size,6,none⟩ = some (.int .i64 G0) /\ V.cell? ⟨w.heap.size,7,none⟩ = some (.int .i64 E0) /\ V.cell? ⟨w.heap.size,8,none⟩ = some (.int .i64 B0) /\ V.cell? ⟨w.heap.size,9,none⟩ = some (.int .i64 M0)) (by kernel_rfl) (unhide kdrew _ hS) (fun hHeld0 => ?_)
    refine takeH6 (i := 0) (d := 3) (v := ?_) rfl rfl (by kernel_rfl) (by kernel_rfl) (by kernel_rfl) (fun _ _ _ h => h) (Or.inl ⟨by rfl,?_⟩) (by assumption) ?_
    rotate_left
    · (intro W hSW; (try dsimp only at hSW); go_simp; try (with_reducible rfl))
    try simp only [Act.put,List.setIfInBounds_toArray,List.set_cons_zero,List.set_cons_succ]
    refine takeH6 (i := 1) (d := 4) (v := ?_) rfl rfl (by kernel_rfl) (by kernel_rfl) (by kernel_rfl) (fun _ _ _ h => h) (Or.inl ⟨by rfl,?_⟩) (by assumption) ?_
    rotate_left
    · (intro W hSW; (try dsimp only at hSW); go_simp; try (with_reducible rfl))
    try simp only [Act.put,List.setIfInBounds_toArray,List.set_cons_zero,List.set_cons_succ]
    refine takeH6 (i := 5) (d := 8) (v := ?_) rfl rfl (by kernel_rfl) (by kernel_rfl) (by kernel_rfl) (fun _ _ _ h => h) (Or.inl ⟨by rfl,?_⟩) (by assumption) ?_
    rotate_left
    · (intro W hSW; (try dsimp only at hSW); go_simp; try (with_reducible rfl))
    try simp only [Act.put,List.setIfInBounds_toArray,List.set_cons_zero,List.set_cons_succ]
    refine takeH6 (i := 6) (d := 9) (v := ?_) rfl rfl (by kernel_rfl) (by kernel_rfl) (by kernel_rfl) (fun _ _ _ h => h) (Or.inl ⟨by rfl,?_⟩) (by assumption) ?_
    rotate_left
    · (intro W hSW; (try dsimp only at hSW); go_simp; try (with_reducible rfl))
    try simp only [Act.put,List.setIfInBounds_toArray,List.set_cons_zero,List.set_cons_succ]
    refine takeH6 (i := 9) (d := 12) (v := ?_) rfl rfl (by kernel_rfl) (by kernel_rfl) (by kernel_rfl) (fun _ _ _ h => h) (Or.inl ⟨by rfl,?_⟩) (by assumption) ?_
    rotate_left
    · (intro W hSW; (try dsimp only at hSW); go_simp; try (with_reducible rfl))
    try simp only [Act.put,List.setIfInBounds_toArray,List.set_cons_zero,List.set_cons_succ]
    refine takeH6 (i := 10) (d := 13) (v := ?_) rfl rfl (by kernel_rfl) (by kernel_rfl) (by kernel_rfl) (fun _ _ _ h => h) (Or.inl ⟨by rfl,?_⟩) (by assumption) ?_
    rotate_left
    · (intro W hSW; (try dsimp only at hSW); go_simp; try (with_reducible rfl))
    try simp only [Act.put,List.setIfInBounds_toArray,List.set_cons_zero,List.set_cons_succ]
    refine takeH6 (i := 12) (d := 15) (v := ?_) rfl rfl (by kernel_rfl) (by kernel_rfl) (by kernel_rfl) (fun _ _ _ h => h) (Or.inl ⟨by rfl,?_⟩) (by assumption) ?_
    rotate_left
    · (intro W hSW; (try dsimp only at hSW); go_simp; try (with_reducible rfl))
    try simp only [Act.put,List.setIfInBounds_toArray,List.set_cons_zero,List.set_cons_succ]
    refine takeH6 (i := 13) (d := 16) (v := ?_) rfl rfl (by kernel_rfl) (by kernel_rfl) (by kernel_rfl) (fun _ _ _ h => h) (Or.inl ⟨by rfl,?_⟩) (by assumption) ?_
    rotate_left
    · (intro W hSW; (try dsimp only at hSW); go_simp; try (with_reducible rfl))
    try simp only [Act.put,List.setIfInBounds_toArray,List.set_cons_zero,List.set_cons_succ]
    refine takeH6 (i := 15) (d := 18) (v := ?_) rfl rfl (by kernel_rfl) (by kernel_rfl) (by kernel_rfl) (fun _ _ _ h => h) (Or.inl ⟨by rfl,?_⟩) (by assumption) ?_
    rotate_left
    · (intro W hSW; (try dsimp only at hSW); go_simp; try (with_reducible rfl))
    try simp only [Act.put,List.setIfInBounds_toArray,List.set_cons_zero,List.set_cons_succ]
    refine takeH6 (i := 16) (d := 19) (v := ?_) rfl rfl (by kernel_rfl) (by kernel_rfl) (by kernel_rfl) (fun _ _ _ h => h) (Or.inl ⟨by rfl,?_⟩) (by assumption) ?_
    rotate_left
    · (intro W hSW; (try dsimp only at hSW); go_simp; try (with_reducible rfl))
    try simp only [Act.put,List.setIfInBounds_toArray,List.set_cons_zero,List.set_cons_succ]
    refine takeH6 (i := 18) (d := 21) (v := ?_) rfl rfl (by kernel_rfl) (by kernel_rfl) (by kernel_rfl) (fun _ _ _ h => h) (Or.inl ⟨by rfl,?_⟩) (by assumption) ?_
    rotate_left
    · (intro W hSW; (try dsimp only at hSW); go_simp; try (with_reducible rfl))
    try simp only [Act.put,List.setIfInBounds_toArray,List.set_cons_zero,List.set_cons_succ]
    refine takeH6 (i := 19) (d := 22) (v := ?_) rfl rfl (by kernel_rfl) (by kernel_rfl) (by kernel_rfl) (fun _ _ _ h => h) (Or.inl ⟨by rfl,?_⟩) (by assumption) ?_
    rotate_left
    · (intro W hSW; (try dsimp only at hSW); go_simp; try (with_reducible rfl))
    try simp only [Act.put,List.setIfInBounds_toArray,List.set_cons_zero,List.set_cons_succ]
    refine takeH6 (i := 27) (d := 30) (v := ?_) rfl rfl (by kernel_rfl) (by kernel_rfl) (by kernel_rfl) (fun _ _ _ h => h) (Or.inl ⟨by rfl,?_⟩) (by assumption) ?_
    rotate_left
    · (intro W hSW; (try dsimp only at hSW); go_simp; try (with_reducible rfl))
    try simp only [Act.put,List.setIfInBounds_toArray,List.set_cons_zero,List.set_cons_succ]
    refine takeH6 (i := 28) (d := 31) (v := ?_) rfl rfl (by kernel_rfl) (by kernel_rfl) (by kernel_rfl) (fun _ _ _ h => h) (Or.inl ⟨by rfl,?_⟩) (by assumption) ?_
    rotate_left
    · (intro W hSW; (try dsimp only at hSW); go_simp; try (with_reducible rfl))
    try simp only [Act.put,List.setIfInBounds_toArray,List.set_cons_zero,List.set_cons_succ]
    refine takeH6 (i := 31) (d := 34) (v := ?_) rfl rfl (by kernel_rfl) (by kernel_rfl) (by kernel_rfl) (fun _ _ _ h => h) (Or.inl ⟨by rfl,?_⟩) (by assumption) ?_
    rotate_left
    · (intro W hSW; (try dsimp only at hSW); go_simp; try (with_reducible rfl))
    try simp only [Act.put,List.setIfInBounds_toArray,List.set_cons_zero,List.set_cons_succ]
    refine takeH6 (i := 32) (d := 35) (v := ?_) rfl rfl (by kernel_rfl) (by kernel_rfl) (by kernel_rfl) (fun _ _ _ h => h) (Or.inl ⟨by rfl,?_⟩) (by assumption) ?_
    rotate_left
    · (intro W hSW; (try dsimp only at hSW); go_simp; try (with_reducible rfl))
    try simp only [Act.put,List.setIfInBounds_toArray,List.set_cons_zero,List.set_cons_succ]
    refine wpAnyH_ready (rs := [2]) (by kernel_rfl) (by simp) ?_
    refine AllReadyH.cons (o := _) rfl (fun K hK => ?_) AllReadyH.nil
    go_simp
    refine hK.out _ _ ?_ (fun hHeld1 => ?_)
    · (try dsimp only)
      (first | (with_reducible exact hS) | (with_reducible assumption) | (with_reducible refine unhide kdrew _ ?_; with_reducible assumption) | (with_reducible refine unhide kalloc _ _ ?_; with_reducible assumption) | (refine unhide kcall _ _ ?_ (by assumption); with_reducible assumption) | (with_reducible refine unhide kdrew _ (unhide kalloc _ _ ?_); with_reducible assumption) | (with_reducible refine unhide kalloc _ _ (unhide kdrew _ ?_); with_reducible assumption))
    clear hK K hHeld0
    try simp only [Act.put,List.setIfInBounds_toArray,List.set_cons_zero,List.set_cons_succ]
    refine wpAnyH_ready (rs := [3]) (by kernel_rfl) (by simp) ?_
    refine AllReadyH.cons (o := _) rfl (fun K hK => ?_) AllReadyH.nil
    go_simp
    (go_at_call 104; refine (unhide cNm _ _ (by simp [go_sem])).mono ?_; rintro e w9 ⟨rfl,rfl⟩)
    refine hK.out _ _ ?_ (fun hHeld2 => ?_)
    · (try dsimp only)
      (first | (with_reducible exact hS) | (with_reducible assumption) | (with_reducible refine unhide kdrew _ ?_; with_reducible assumption) | (with_reducible refine unhide kalloc _ _ ?_; with_reducible assumption) | (refine unhide kcall _ _ ?_ (by assumption); with_reducible assumption) | (with_reducible refine unhide kdrew _ (unhide kalloc _ _ ?_); with_reducible assumption) | (with_reducible refine unhide kalloc _ _ (unhide kdrew _ ?_); with_reducible assumption))
    clear hK K hHeld1
    try simp only [Act.put,List.setIfInBounds_toArray,List.set_cons_zero,List.set_cons_succ]
    refine wpAnyH_ready (rs := [4]) (by kernel_rfl) (by simp) ?_
    refine AllReadyH.cons (o := _) rfl (fun K hK => ?_) AllReadyH.nil
    go_simp
    (go_at_call 103; refine (unhide cU1 _ _ _ (by rfl) (by rfl)).mono ?_; rintro e w9 ⟨rfl,rfl⟩)
    refine hK.out _ _ ?_ (fun hHeld3 => ?_)
    · (try dsimp only)
      (first | (with_reducible exact hS) | (with_reducible assumption) | (with_reducible refine unhide kdrew _ ?_; with_reducible assumption) | (with_reducible refine unhide kalloc _ _ ?_; with_reducible assumption) | (refine unhide kcall _ _ ?_ (by assumption); with_reducible assumption) | (with_reducible refine unhide kdrew _ (unhide kalloc _ _ ?_); with_reducible assumption) | (with_reducible refine unhide kalloc _ _ (unhide kdrew _ ?_); with_reducible assumption))
    clear hK K hHeld2
    try simp only [Act.put,List.setIfInBounds_toArray,List.set_cons_zero,List.set_cons_succ]
    refine wpAnyH_ready (rs := [7]) (by kernel_rfl) (by simp) ?_
    refine AllReadyH.cons (o := _) rfl (fun K hK => ?_) AllReadyH.nil
    go_simp
    (go_at_call 106; refine (btw_any _ _ _ _).mono ?_; rintro e w9 ⟨rfl,rfl⟩)
    refine hK.out _ _ ?_ (fun hHeld4 => ?_)
    · (try dsimp only)
      (first | (with_reducible exact hS) | (with_reducible assumption) | (with_reducible refine unhide kdrew _ ?_; with_reducible assumption) | (with_reducible refine unhide kalloc _ _ ?_; with_reducible assumption) | (refine unhide kcall _ _ ?_ (by assumption); with_reducible assumption) | (with_reducible refine unhide kdrew _ (unhide kalloc _ _ ?_); with_reducible assumption) | (with_reducible refine unhide kalloc _ _ (unhide kdrew _ ?_); with_reducible assumption))
    clear hK K hHeld3
    try simp only [Act.put,List.setIfInBounds_toArray,List.set_cons_zero,List.set_cons_succ]
    refine wpAnyH_ready (rs := [8]) (by kernel_rfl) (by simp) ?_
    refine AllReadyH.cons (o := _) rfl (fun K hK => ?_) AllReadyH.nil
    go_simp
    (go_at_call 103; refine (unhide cU2 _ _ _ (by rfl) (by rfl)).mono ?_; rintro e w9 ⟨rfl,rfl⟩)
    refine hK.out _ _ ?_ (fun hHeld5 => ?_)
    · (try dsimp only)
      (first | (with_reducible exact hS) | (with_reducible assumption) | (with_reducible refine unhide kdrew _ ?_; with_reducible assumption) | (with_reducible refine unhide kalloc _ _ ?_; with_reducible assumption) | (refine unhide kcall _ _ ?_ (by assumption); with_reducible assumption) | (with_reducible refine unhide kdrew _ (unhide kalloc _ _ ?_); with_reducible assumption) | (with_reducible refine unhide kalloc _ _ (unhide kdrew _ ?_); with_reducible assumption))
    clear hK K hHeld4
    try simp only [Act.put,List.setIfInBounds_toArray,List.set_cons_zero,List.set_cons_succ]
    refine wpAnyH_ready (rs := [11]) (by kernel_rfl) (by simp) ?_
    refine AllReadyH.cons (o := _) rfl (fun K hK => ?_) AllReadyH.nil
    go_simp
    (go_at_call 105; refine (unhide k2 _).mono ?_; rintro e w9 ⟨rfl,hw9⟩)
    refine hK.out _ _ ?_ (fun hHeld6 => ?_)
    · (try dsimp only)
      (first | (with_reducible exact hS) | (with_reducible assumption) | (with_reducible refine unhide kdrew _ ?_; with_reducible assumption) | (with_reducible refine unhide kalloc _ _ ?_; with_reducible assumption) | (refine unhide kcall _ _ ?_ (by assumption); with_reducible assumption) | (with_reducible refine unhide kdrew _ (unhide kalloc _ _ ?_); with_reducible assumption) | (with_reducible refine unhide kalloc _ _ (unhide kdrew _ ?_); with_reducible assumption))
    clear hK K hHeld5 hw9
    try simp only [Act.put,List.setIfInBounds_toArray,List.set_cons_zero,List.set_cons_succ]
    refine wpAnyH_ready (rs := [14]) (by kernel_rfl) (by simp) ?_
    refine AllReadyH.cons (o := _) rfl (fun K hK => ?_) AllReadyH.nil
    go_simp
    (go_at_call 107; with_reducible refine (unhide k4 _ ?_).mono ?_; with_reducible assumption; rintro e w9 ⟨rfl,hw9⟩)
    refine hK.out _ _ ?_ (fun hHeld7 => ?_)
    · (try dsimp only)
      (first | (with_reducible exact hS) | (with_reducible assumption) | (with_reducible refine unhide kdrew _ ?_; with_reducible assumption) | (with_reducible refine unhide kalloc _ _ ?_; with_reducible assumption) | (refine unhide kcall _ _ ?_ (by assumption); with_reducible assumption) | (with_reducible refine unhide kdrew _ (unhide kalloc _ _ ?_); with_reducible assumption) | (with_reducible refine unhide kalloc _ _ (unhide kdrew _ ?_); with_reducible assumption))
    clear hK K hHeld6 hw9
    try simp only [Act.put,List.setIfInBounds_toArray,List.set_cons_zero,List.set_cons_succ]
    refine wpAnyH_ready (rs := [17]) (by kernel_rfl) (by simp) ?_
    refine AllReadyH.cons (o := _) rfl (fun K hK => ?_) AllReadyH.nil
    go_simp
    (go_at_call 113; with_reducible refine (unhide k5 _ ?_).mono ?_; with_reducible assumption; rintro e w9 ⟨rfl,hw9⟩)
    refine hK.out _ _ ?_ (fun hHeld8 => ?_)
    · (try dsimp only)
      (first | (with_reducible exact hS) | (with_reducible assumption) | (with_reducible refine unhide kdrew _ ?_; with_reducible assumption) | (with_reducible refine unhide kalloc _ _ ?_; with_reducible assumption) | (refine unhide kcall _ _ ?_ (by assumption); with_reducible assumption) | (with_reducible refine unhide kdrew _ (unhide kalloc _ _ ?_); with_reducible assumption) | (with_reducible refine unhide kalloc _ _ (unhide kdrew _ ?_); with_reducible assumption))
    clear hK K hHeld7 hw9
    try simp only [Act.put,List.setIfInBounds_toArray,List.set_cons_zero,List.set_cons_succ]
    refine wpAnyH_ready (rs := [20]) (by kernel_rfl) (by simp) ?_
    refine AllReadyH.cons (o := _) rfl (fun K hK => ?_) AllReadyH.nil
    go_simp
    (go_at_call 111; refine (unhide kT _).mono ?_; rintro e w9 ⟨rfl,rfl⟩)
    refine hK.out _ _ ?_ (fun hHeld9 => ?_)
    · (try dsimp only)
      (first | (with_reducible exact hS) | (with_reducible assumption) | (with_reducible refine unhide kdrew _ ?_; with_reducible assumption) | (with_reducible refine unhide kalloc _ _ ?_; with_reducible assumption) | (refine unhide kcall _ _ ?_ (by assumption); with_reducible assumption) | (with_reducible refine unhide kdrew _ (unhide kalloc _ _ ?_); with_reducible assumption) | (with_reducible refine unhide kalloc _ _ (unhide kdrew _ ?_); with_reducible assumption))
    clear hK K hHeld8
    try simp only [Act.put,List.setIfInBounds_toArray,List.set_cons_zero,List.set_cons_succ]
    refine takeH6 (i := 21) (d := 24) (v := ?_) rfl rfl (by kernel_rfl) (by kernel_rfl) (by kernel_rfl) (fun _ _ _ h => h) (Or.inl ⟨by rfl,?_⟩) (by assumption) ?_
    rotate_left
    · (intro W hSW; (try dsimp only at hSW); go_simp; try (with_reducible rfl))
    try simp only [Act.put,List.setIfInBounds_toArray,List.set_cons_zero,List.set_cons_succ]
    refine takeH6 (i := 22) (d := 25) (v := undef) rfl rfl (by kernel_rfl) (by kernel_rfl) (by kernel_rfl) (fun _ _ _ h => h) (Or.inr ⟨by rfl,rfl⟩) (by assumption) ?_
    try simp only [Act.put,List.setIfInBounds_toArray,List.set_cons_zero,List.set_cons_succ]
    refine takeH6 (i := 23) (d := 26) (v := undef) rfl rfl (by kernel_rfl) (by kernel_rfl) (by kernel_rfl) (fun _ _ _ h => h) (Or.inr ⟨by rfl,rfl⟩) (by assumption) ?_
    try simp only [Act.put,List.setIfInBounds_toArray,List.set_cons_zero,List.set_cons_succ]
    refine takeH6 (i := 24) (d := 27) (v := undef) rfl rfl (by kernel_rfl) (by kernel_rfl) (by kernel_rfl) (fun _ _ _ h => h) (Or.inr ⟨by rfl,rfl⟩) (by assumption) ?_
    try simp only [Act.put,List.setIfInBounds_toArray,List.set_cons_zero,List.set_cons_succ]
    refine takeH6 (i := 25) (d := 28) (v := ?_) rfl rfl (by kernel_rfl) (by kernel_rfl) (by kernel_rfl) (fun _ _ _ h => h) (Or.inl ⟨by rfl,?_⟩) (by assumption) ?_
    rotate_left
    · (intro W hSW; (try dsimp only at hSW); go_simp; try (with_reducible rfl))
    try simp only [Act.put,List.setIfInBounds_toArray,List.set_cons_zero,List.set_cons_succ]
    refine wpAnyH_ready (rs := [26]) (by kernel_rfl) (by simp) ?_
    refine AllReadyH.cons (o := _) rfl (fun K hK => ?_) AllReadyH.nil
    go_simp
    (go_at_call 103; refine (unhide cU6 _ _ _ (by rfl) (by rfl)).mono ?_; rintro e w9 ⟨rfl,rfl⟩)
    refine hK.out _ _ ?_ (fun hHeld10 => ?_)
    · (try dsimp only)
      (first | (with_reducible exact hS) | (with_reducible assumption) | (with_reducible refine unhide kdrew _ ?_; with_reducible assumption) | (with_reducible refine unhide kalloc _ _ ?_; with_reducible assumption) | (refine unhide kcall _ _ ?_ (by assumption); with_reducible assumption) | (with_reducible refine unhide kdrew _ (unhide kalloc _ _ ?_); with_reducible assumption) | (with_reducible refine unhide kalloc _ _ (unhide kdrew _ ?_); with_reducible assumption))
    clear hK K hHeld9
    try simp only [Act.put,List.setIfInBounds_toArray,List.set_cons_zero,List.set_cons_succ]
    refine wpAnyH_ready (rs := [29]) (by kernel_rfl) (by simp) ?_
    refine AllReadyH.cons (o := _) rfl (fun K hK => ?_) AllReadyH.nil
    go_simp
    (go_at_call 106; refine (btw_any _ _ _ _).mono ?_; rintro e w9 ⟨rfl,rfl⟩)
    refine hK.out _ _ ?_ (fun hHeld11 => ?_)
    · (try dsimp only)
      (first | (with_reducible exact hS) | (with_reducible assumption) | (with_reducible refine unhide kdrew _ ?_; with_reducible assumption) | (with_reducible refine unhide kalloc _ _ ?_; with_reducible assumption) | (refine unhide kcall _ _ ?_ (by assumption); with_reducible assumption) | (with_reducible refine unhide kdrew _ (unhide kalloc _ _ ?_); with_reducible assumption) | (with_reducible refine unhide kalloc _ _ (unhide kdrew _ ?_); with_reducible assumption))
    clear hK K hHeld10
    try simp only [Act.put,List.setIfInBounds_toArray,List.set_cons_zero,List.set_cons_succ]
    refine wpAnyH_ready (rs := [30]) (by kernel_rfl) (by simp) ?_
    refine AllReadyH.cons (o := _) rfl (fun K hK => ?_) AllReadyH.nil
    go_simp
    (go_at_call 103; refine (unhide cU7 _ _ _ (by rfl) (by rfl)).mono ?_; rintro e w9 ⟨rfl,rfl⟩)
    refine hK.out _ _ ?_ (fun hHeld12 => ?_)
    · (try dsimp only)
      (first | (with_reducible exact hS) | (with_reducible assumption) | (with_reducible refine unhide kdrew _ ?_; with_reducible assumption) | (with_reducible refine unhide kalloc _ _ ?_; with_reducible assumption) | (refine unhide kcall _ _ ?_ (by assumption); with_reducible assumption) | (with_reducible refine unhide kdrew _ (unhide kalloc _ _ ?_); with_reducible assumption) | (with_reducible refine unhide kalloc _ _ (unhide kdrew _ ?_); with_reducible assumption))
    clear hK K hHeld11
    try simp only [Act.put,List.setIfInBounds_toArray,List.set_cons_zero,List.set_cons_succ]
    refine wpAnyH_ready (rs := [33]) (by kernel_rfl) (by simp) ?_
    refine AllReadyH.cons (o := _) rfl (fun K hK => ?_) AllReadyH.nil
    go_simp
    (go_at_call 106; refine (btw_any _ _ _ _).mono ?_; rintro e w9 ⟨rfl,rfl⟩)
    refine hK.out _ _ ?_ (fun hHeld13 => ?_)
    · (try dsimp only)
      (first | (with_reducible exact hS) | (with_reducible assumption) | (with_reducible refine unhide kdrew _ ?_; with_reducible assumption) | (with_reducible refine unhide kalloc _ _ ?_; with_reducible assumption) | (refine unhide kcall _ _ ?_ (by assumption); with_reducible assumption) | (with_reducible refine unhide kdrew _ (unhide kalloc _ _ ?_); with_reducible assumption) | (with_reducible refine unhide kalloc _ _ (unhide kdrew _ ?_); with_reducible assumption))
    clear hK K hHeld12
    try simp only [Act.put,List.setIfInBounds_toArray,List.set_cons_zero,List.set_cons_succ]
    refine wpAnyH_ready (rs := [34]) (by kernel_rfl) (by simp) ?_
    refine AllReadyH.cons (o := _) rfl (fun K hK => ?_) AllReadyH.nil
    go_simp
    (go_at_call 103; refine (unhide cU8 _ _ _ (by rfl) (by rfl)).mono ?_; rintro e w9 ⟨rfl,rfl⟩)
    refine hK.out _ _ ?_ (fun hHeld14 => ?_)
    · (try dsimp only)
      (first | (with_reducible exact hS) | (with_reducible assumption) | (with_reducible refine unhide kdrew _ ?_; with_reducible assumption) | (with_reducible refine unhide kalloc _ _ ?_; with_reducible assumption) | (refine unhide kcall _ _ ?_ (by assumption); with_reducible assumption) | (with_reducible refine unhide kdrew _ (unhide kalloc _ _ ?_); with_reducible assumption) | (with_reducible refine unhide kalloc _ _ (unhide kdrew _ ?_); with_reducible assumption))
    clear hK K hHeld13
    try simp only [Act.put,List.setIfInBounds_toArray,List.set_cons_zero,List.set_cons_succ]
    refine wpAnyH_ready (rs := [35]) (by kernel_rfl) (by simp) ?_
    refine AllReadyH.cons (o := _) rfl (fun K hK => ?_) AllReadyH.nil
    go_simp
    refine hK.out _ _ ?_ (fun hHeld15 => ?_)
    · (try dsimp only)
      (first | (with_reducible exact hS) | (with_reducible assumption) | (with_reducible refine unhide kdrew _ ?_; with_reducible assumption) | (with_reducible refine unhide kalloc _ _ ?_; with_reducible assumption) | (refine unhide kcall _ _ ?_ (by assumption); with_reducible assumption) | (with_reducible refine unhide kdrew _ (unhide kalloc _ _ ?_); with_reducible assumption) | (with_reducible refine unhide kalloc _ _ (unhide kdrew _ ?_); with_reducible assumption))
    clear hK K hHeld14
    try simp only [Act.put,List.setIfInBounds_toArray,List.set_cons_zero,List.set_cons_succ]
    refine wpAnyH_ready (rs := [36]) (by kernel_rfl) (by simp) ?_
    refine AllReadyH.cons (o := _) rfl (fun K hK => ?_) AllReadyH.nil
    go_simp
    (go_at_call 102; refine (unhide cOr _ _ (by simp [go_sem]) (by simp [go_sem]) (by simp [go_sem]) (by simp [go_sem]) (by simp [go_sem]) (by simp [go_sem]) (by simp [go_sem]) (by simp [go_sem])).mono ?_; rintro e w9 ⟨rfl,rfl⟩)
    refine hK.out _ _ ?_ (fun hHeld16 => ?_)
    · (try dsimp only)
      (first | (with_reducible exact hS) | (with_reducible assumption) | (with_reducible refine unhide kdrew _ ?_; with_reducible assumption) | (with_reducible refine unhide kalloc _ _ ?_; with_reducible assumption) | (refine unhide kcall _ _ ?_ (by assumption); with_reducible assumption) | (with_reducible refine unhide kdrew _ (unhide kalloc _ _ ?_); with_reducible assumption) | (with_reducible refine unhide kalloc _ _ (unhide kdrew _ ?_); with_reducible assumption))
    clear hK K hHeld15
    try simp only [Act.put,List.setIfInBounds_toArray,List.set_cons_zero,List.set_cons_succ]
    refine takeH6 (i := 37) (d := 2) (v := ?_) rfl rfl (by kernel_rfl) (by kernel_rfl) (by kernel_rfl) (fun _ _ _ h => h) (Or.inl ⟨by rfl,?_⟩) (by assumption) ?_
    rotate_left
    · (intro W hSW; (try dsimp only at hSW); go_simp; try (with_reducible rfl))
    try simp only [Act.put,List.setIfInBounds_toArray,List.set_cons_zero,List.set_cons_succ]
    refine wpAnyH_done (by kernel_rfl) ?_ _
    refine NoPanic.normal ?_
    have hHeld := hHeld16
    clear hHeld16

    go_wp2_with fail
    go_ret
    exact ⟨rfl,(unhide hHeld.1).gr⟩
  · have cU6 : Hid (∀ V bb ee,bb = .bool (btwB 0 E0 1073741824) -> ee = .int .i64 1 -> Calls Tryz.prog 103 #[bb,ee] V fun r w' => r = .returned (.int .i64 z6) /\ w' = V) := fun V bb ee e1 e2 => by rw [e1,e2,hz6]; exact unless_any (btwB 0 E0 1073741824) 1 V
    clear hz6
    go_enter Tryz.func64,Tryz.ntmps64
    go_wp2_with fail
    refine wp_region_noPanic ?_
    refine wp_region_held_drew (S := fun V => Hid (HeldS w [(⟨w.heap.size,0,none⟩,.string X0),(⟨w.heap.size,1,none⟩,.int .i64 W0),(⟨w.heap.size,2,none⟩,.int .i64 N0),(⟨w.heap.size,3,none⟩,.int .i64 N1),(⟨w.heap.size,4,none⟩,.slice a1 n1 c1),(⟨w.heap.size,5,none⟩,.slice a2 n2 c2),(⟨w.heap.size,6,none⟩,.int .i64 G0),(⟨w.heap.size,7,none⟩,.int .i64 E0),(⟨w.heap.size,8,none⟩,.int .i64 B0),(⟨w.heap.size,9,none⟩,.int .i64 M0)] V) /\ V.cell? ⟨w.heap.size,0,none⟩ = some (.string X0) /\ V.cell? ⟨w.heap.size,1,none⟩ = some (.int .i64 W0) /\ V.cell? ⟨w.heap.size,2,none⟩ = some (.int .i64 N0) /\ V.cell? ⟨w.heap.size,3,none⟩ = some (.int .i64 N1) /\ V.cell? ⟨w.heap.size,4,none⟩ = some (.slice a1 n1 c1) /\ V.cell? ⟨w.heap.size,5,none⟩ = some (.slice a2 n2 c2) /\ V.cell? ⟨w.heap.size,6,none⟩ = some (.int .i64 G0) /\ V.cell? ⟨w.heap.size,7,none⟩ = some (.int .i64 E0) /\ V.cell? ⟨w.heap.size,8,none⟩ = some (.int .i64 B0) /\ V.cell? ⟨w.heap.size,9,none⟩ = some (.int .i64 M0)) (by kernel_rfl) (unhide kdrew _ hS) (fun hHeld0 => ?_)
    refine takeH6 (i := 0) (d := 3) (v := ?_) rfl rfl (by kernel_rfl) (by kernel_rfl) (by kernel_rfl) (fun _ _ _ h => h) (Or.inl ⟨by rfl,?_⟩) (by assumption) ?_
    rotate_left
    · (intro W hSW; (try dsimp only at hSW); go_simp; try (with_reducible rfl))
    try simp only [Act.put,List.setIfInBounds_toArray,List.set_cons_zero,List.set_cons_succ]
    refine takeH6 (i := 1) (d := 4) (v := ?_) rfl rfl (by kernel_rfl) (by kernel_rfl) (by kernel_rfl) (fun _ _ _ h => h) (Or.inl ⟨by rfl,?_⟩) (by assumption) ?_
    rotate_left
    · (intro W hSW; (try dsimp only at hSW); go_simp; try (with_reducible rfl))
    try simp only [Act.put,List.setIfInBounds_toArray,List.set_cons_zero,List.set_cons_succ]
    refine takeH6 (i := 5) (d := 8) (v := ?_) rfl rfl (by kernel_rfl) (by kernel_rfl) (by kernel_rfl) (fun _ _ _ h => h) (Or.inl ⟨by rfl,?_⟩) (by assumption) ?_
    rotate_left
    · (intro W hSW; (try dsimp only at hSW); go_simp; try (with_reducible rfl))
    try simp only [Act.put,List.setIfInBounds_toArray,List.set_cons_zero,List.set_cons_succ]
    refine takeH6 (i := 6) (d := 9) (v := ?_) rfl rfl (by kernel_rfl) (by kernel_rfl) (by kernel_rfl) (fun _ _ _ h => h) (Or.inl ⟨by rfl,?_⟩) (by assumption) ?_
    rotate_left
    · (intro W hSW; (try dsimp only at hSW); go_simp; try (with_reducible rfl))
    try simp only [Act.put,List.setIfInBounds_toArray,List.set_cons_zero,List.set_cons_succ]
    refine takeH6 (i := 9) (d := 12) (v := ?_) rfl rfl (by kernel_rfl) (by kernel_rfl) (by kernel_rfl) (fun _ _ _ h => h) (Or.inl ⟨by rfl,?_⟩) (by assumption) ?_
    rotate_left
    · (intro W hSW; (try dsimp only at hSW); go_simp; try (with_reducible rfl))
    try simp only [Act.put,List.setIfInBounds_toArray,List.set_cons_zero,List.set_cons_succ]
    refine takeH6 (i := 10) (d := 13) (v := ?_) rfl rfl (by kernel_rfl) (by kernel_rfl) (by kernel_rfl) (fun _ _ _ h => h) (Or.inl ⟨by rfl,?_⟩) (by assumption) ?_
    rotate_left
    · (intro W hSW; (try dsimp only at hSW); go_simp; try (with_reducible rfl))
    try simp only [Act.put,List.setIfInBounds_toArray,List.set_cons_zero,List.set_cons_succ]
    refine takeH6 (i := 12) (d := 15) (v := ?_) rfl rfl (by kernel_rfl) (by kernel_rfl) (by kernel_rfl) (fun _ _ _ h => h) (Or.inl ⟨by rfl,?_⟩) (by assumption) ?_
    rotate_left
    · (intro W hSW; (try dsimp only at hSW); go_simp; try (with_reducible rfl))
    try simp only [Act.put,List.setIfInBounds_toArray,List.set_cons_zero,List.set_cons_succ]
    refine takeH6 (i := 13) (d := 16) (v := ?_) rfl rfl (by kernel_rfl) (by kernel_rfl) (by kernel_rfl) (fun _ _ _ h => h) (Or.inl ⟨by rfl,?_⟩) (by assumption) ?_
    rotate_left
    · (intro W hSW; (try dsimp only at hSW); go_simp; try (with_reducible rfl))
    try simp only [Act.put,List.setIfInBounds_toArray,List.set_cons_zero,List.set_cons_succ]
    refine takeH6 (i := 15) (d := 18) (v := ?_) rfl rfl (by kernel_rfl) (by kernel_rfl) (by kernel_rfl) (fun _ _ _ h => h) (Or.inl ⟨by rfl,?_⟩) (by assumption) ?_
    rotate_left
    · (intro W hSW; (try dsimp only at hSW); go_simp; try (with_reducible rfl))
    try simp only [Act.put,List.setIfInBounds_toArray,List.set_cons_zero,List.set_cons_succ]
    refine takeH6 (i := 16) (d := 19) (v := ?_) rfl rfl (by kernel_rfl) (by kernel_rfl) (by kernel_rfl) (fun _ _ _ h => h) (Or.inl ⟨by rfl,?_⟩) (by assumption) ?_
    rotate_left
    · (intro W hSW; (try dsimp only at hSW); go_simp; try (with_reducible rfl))
    try simp only [Act.put,List.setIfInBounds_toArray,List.set_cons_zero,List.set_cons_succ]
    refine takeH6 (i := 18) (d := 21) (v := ?_) rfl rfl (by kernel_rfl) (by kernel_rfl) (by kernel_rfl) (fun _ _ _ h => h) (Or.inl ⟨by rfl,?_⟩) (by assumption) ?_
    rotate_left
    · (intro W hSW; (try dsimp only at hSW); go_simp; try (with_reducible rfl))
    try simp only [Act.put,List.setIfInBounds_toArray,List.set_cons_zero,List.set_cons_succ]
    refine takeH6 (i := 19) (d := 22) (v := ?_) rfl rfl (by kernel_rfl) (by kernel_rfl) (by kernel_rfl) (fun _ _ _ h => h) (Or.inl ⟨by rfl,?_⟩) (by assumption) ?_
    rotate_left
    · (intro W hSW; (try dsimp only at hSW); go_simp; try (with_reducible rfl))
    try simp only [Act.put,List.setIfInBounds_toArray,List.set_cons_zero,List.set_cons_succ]
    refine takeH6 (i := 27) (d := 30) (v := ?_) rfl rfl (by kernel_rfl) (by kernel_rfl) (by kernel_rfl) (fun _ _ _ h => h) (Or.inl ⟨by rfl,?_⟩) (by assumption) ?_
    rotate_left
    · (intro W hSW; (try dsimp only at hSW); go_simp; try (with_reducible rfl))
    try simp only [Act.put,List.setIfInBounds_toArray,List.set_cons_zero,List.set_cons_succ]
    refine takeH6 (i := 28) (d := 31) (v := ?_) rfl rfl (by kernel_rfl) (by kernel_rfl) (by kernel_rfl) (fun _ _ _ h => h) (Or.inl ⟨by rfl,?_⟩) (by assumption) ?_
    rotate_left
    · (intro W hSW; (try dsimp only at hSW); go_simp; try (with_reducible rfl))
    try simp only [Act.put,List.setIfInBounds_toArray,List.set_cons_zero,List.set_cons_succ]
    refine takeH6 (i := 31) (d := 34) (v := ?_) rfl rfl (by kernel_rfl) (by kernel_rfl) (by kernel_rfl) (fun _ _ _ h => h) (Or.inl ⟨by rfl,?_⟩) (by assumption) ?_
    rotate_left
    · (intro W hSW; (try dsimp only at hSW); go_simp; try (with_reducible rfl))
    try simp only [Act.put,List.setIfInBounds_toArray,List.set_cons_zero,List.set_cons_succ]
    refine takeH6 (i := 32) (d := 35) (v := ?_) rfl rfl (by kernel_rfl) (by kernel_rfl) (by kernel_rfl) (fun _ _ _ h => h) (Or.inl ⟨by rfl,?_⟩) (by assumption) ?_
    rotate_left
    · (intro W hSW; (try dsimp only at hSW); go_simp; try (with_reducible rfl))
    try simp only [Act.put,List.setIfInBounds_toArray,List.set_cons_zero,List.set_cons_succ]
    refine wpAnyH_ready (rs := [2]) (by kernel_rfl) (by simp) ?_
    refine AllReadyH.cons (o := _) rfl (fun K hK => ?_) AllReadyH.nil
    go_simp
    refine hK.out _ _ ?_ (fun hHeld1 => ?_)
    · (try dsimp only)
      (first | (with_reducible exact hS) | (with_reducible assumption) | (with_reducible refine unhide kdrew _ ?_; with_reducible assumption) | (with_reducible refine unhide kalloc _ _ ?_; with_reducible assumption) | (refine unhide kcall _ _ ?_ (by assumption); with_reducible assumption) | (with_reducible refine unhide kdrew _ (unhide kalloc _ _ ?_); with_reducible assumption) | (with_reducible refine unhide kalloc _ _ (unhide kdrew _ ?_); with_reducible assumption))
    clear hK K hHeld0
    try simp only [Act.put,List.setIfInBounds_toArray,List.set_cons_zero,List.set_cons_succ]
    refine wpAnyH_ready (rs := [3]) (by kernel_rfl) (by simp) ?_
    refine AllReadyH.cons (o := _) rfl (fun K hK => ?_) AllReadyH.nil
    go_simp
    (go_at_call 104; refine (unhide cNm _ _ (by simp [go_sem])).mono ?_; rintro e w9 ⟨rfl,rfl⟩)
    refine hK.out _ _ ?_ (fun hHeld2 => ?_)
    · (try dsimp only)
      (first | (with_reducible exact hS) | (with_reducible assumption) | (with_reducible refine unhide kdrew _ ?_; with_reducible assumption) | (with_reducible refine unhide kalloc _ _ ?_; with_reducible assumption) | (refine unhide kcall _ _ ?_ (by assumption); with_reducible assumption) | (with_reducible refine unhide kdrew _ (unhide kalloc _ _ ?_); with_reducible assumption) | (with_reducible refine unhide kalloc _ _ (unhide kdrew _ ?_); with_reducible assumption))
    clear hK K hHeld1
    try simp only [Act.put,List.setIfInBounds_toArray,List.set_cons_zero,List.set_cons_succ]
    refine wpAnyH_ready (rs := [4]) (by kernel_rfl) (by simp) ?_
    refine AllReadyH.cons (o := _) rfl (fun K hK => ?_) AllReadyH.nil
    go_simp
    (go_at_call 103; refine (unhide cU1 _ _ _ (by rfl) (by rfl)).mono ?_; rintro e w9 ⟨rfl,rfl⟩)
    refine hK.out _ _ ?_ (fun hHeld3 => ?_)
    · (try dsimp only)
      (first | (with_reducible exact hS) | (with_reducible assumption) | (with_reducible refine unhide kdrew _ ?_; with_reducible assumption) | (with_reducible refine unhide kalloc _ _ ?_; with_reducible assumption) | (refine unhide kcall _ _ ?_ (by assumption); with_reducible assumption) | (with_reducible refine unhide kdrew _ (unhide kalloc _ _ ?_); with_reducible assumption) | (with_reducible refine unhide kalloc _ _ (unhide kdrew _ ?_); with_reducible assumption))
    clear hK K hHeld2
    try simp only [Act.put,List.setIfInBounds_toArray,List.set_cons_zero,List.set_cons_succ]
    refine wpAnyH_ready (rs := [7]) (by kernel_rfl) (by simp) ?_
    refine AllReadyH.cons (o := _) rfl (fun K hK => ?_) AllReadyH.nil
    go_simp
    (go_at_call 106; refine (btw_any _ _ _ _).mono ?_; rintro e w9 ⟨rfl,rfl⟩)
    refine hK.out _ _ ?_ (fun hHeld4 => ?_)
    · (try dsimp only)
      (first | (with_reducible exact hS) | (with_reducible assumption) | (with_reducible refine unhide kdrew _ ?_; with_reducible assumption) | (with_reducible refine unhide kalloc _ _ ?_; with_reducible assumption) | (refine unhide kcall _ _ ?_ (by assumption); with_reducible assumption) | (with_reducible refine unhide kdrew _ (unhide kalloc _ _ ?_); with_reducible assumption) | (with_reducible refine unhide kalloc _ _ (unhide kdrew _ ?_); with_reducible assumption))
    clear hK K hHeld3
    try simp only [Act.put,List.setIfInBounds_toArray,List.set_cons_zero,List.set_cons_succ]
    refine wpAnyH_ready (rs := [8]) (by kernel_rfl) (by simp) ?_
    refine AllReadyH.cons (o := _) rfl (fun K hK => ?_) AllReadyH.nil
    go_simp
    (go_at_call 103; refine (unhide cU2 _ _ _ (by rfl) (by rfl)).mono ?_; rintro e w9 ⟨rfl,rfl⟩)
    refine hK.out _ _ ?_ (fun hHeld5 => ?_)
    · (try dsimp only)
      (first | (with_reducible exact hS) | (with_reducible assumption) | (with_reducible refine unhide kdrew _ ?_; with_reducible assumption) | (with_reducible refine unhide kalloc _ _ ?_; with_reducible assumption) | (refine unhide kcall _ _ ?_ (by assumption); with_reducible assumption) | (with_reducible refine unhide kdrew _ (unhide kalloc _ _ ?_); with_reducible assumption) | (with_reducible refine unhide kalloc _ _ (unhide kdrew _ ?_); with_reducible assumption))
    clear hK K hHeld4
    try simp only [Act.put,List.setIfInBounds_toArray,List.set_cons_zero,List.set_cons_succ]
    refine wpAnyH_ready (rs := [11]) (by kernel_rfl) (by simp) ?_
    refine AllReadyH.cons (o := _) rfl (fun K hK => ?_) AllReadyH.nil
    go_simp
    (go_at_call 105; refine (unhide k2 _).mono ?_; rintro e w9 ⟨rfl,hw9⟩)
    refine hK.out _ _ ?_ (fun hHeld6 => ?_)
    · (try dsimp only)
      (first | (with_reducible exact hS) | (with_reducible assumption) | (with_reducible refine unhide kdrew _ ?_; with_reducible assumption) | (with_reducible refine unhide kalloc _ _ ?_; with_reducible assumption) | (refine unhide kcall _ _ ?_ (by assumption); with_reducible assumption) | (with_reducible refine unhide kdrew _ (unhide kalloc _ _ ?_); with_reducible assumption) | (with_reducible refine unhide kalloc _ _ (unhide kdrew _ ?_); with_reducible assumption))
    clear hK K hHeld5 hw9
    try simp only [Act.put,List.setIfInBounds_toArray,List.set_cons_zero,List.set_cons_succ]
    refine wpAnyH_ready (rs := [14]) (by kernel_rfl) (by simp) ?_
    refine AllReadyH.cons (o := _) rfl (fun K hK => ?_) AllReadyH.nil
    go_simp
    (go_at_call 107; with_reducible refine (unhide k4 _ ?_).mono ?_; with_reducible assumption; rintro e w9 ⟨rfl,hw9⟩)
    refine hK.out _ _ ?_ (fun hHeld7 => ?_)
    · (try dsimp only)
      (first | (with_reducible exact hS) | (with_reducible assumption) | (with_reducible refine unhide kdrew _ ?_; with_reducible assumption) | (with_reducible refine unhide kalloc _ _ ?_; with_reducible assumption) | (refine unhide kcall _ _ ?_ (by assumption); with_reducible assumption) | (with_reducible refine unhide kdrew _ (unhide kalloc _ _ ?_); with_reducible assumption) | (with_reducible refine unhide kalloc _ _ (unhide kdrew _ ?_); with_reducible assumption))
    clear hK K hHeld6 hw9
    try simp only [Act.put,List.setIfInBounds_toArray,List.set_cons_zero,List.set_cons_succ]
    refine wpAnyH_ready (rs := [17]) (by kernel_rfl) (by simp) ?_
    refine AllReadyH.cons (o := _) rfl (fun K hK => ?_) AllReadyH.nil
    go_simp
    (go_at_call 113; with_reducible refine (unhide k5 _ ?_).mono ?_; with_reducible assumption; rintro e w9 ⟨rfl,hw9⟩)
    refine hK.out _ _ ?_ (fun hHeld8 => ?_)
    · (try dsimp only)
      (first | (with_reducible exact hS) | (with_reducible assumption) | (with_reducible refine unhide kdrew _ ?_; with_reducible assumption) | (with_reducible refine unhide kalloc _ _ ?_; with_reducible assumption) | (refine unhide kcall _ _ ?_ (by assumption); with_reducible assumption) | (with_reducible refine unhide kdrew _ (unhide kalloc _ _ ?_); with_reducible assumption) | (with_reducible refine unhide kalloc _ _ (unhide kdrew _ ?_); with_reducible assumption))
    clear hK K hHeld7 hw9
    try simp only [Act.put,List.setIfInBounds_toArray,List.set_cons_zero,List.set_cons_succ]
    refine wpAnyH_ready (rs := [20]) (by kernel_rfl) (by simp) ?_
    refine AllReadyH.cons (o := _) rfl (fun K hK => ?_) AllReadyH.nil
    go_simp
    (go_at_call 111; refine (unhide kT _).mono ?_; rintro e w9 ⟨rfl,rfl⟩)
    refine hK.out _ _ ?_ (fun hHeld9 => ?_)
    · (try dsimp only)
      (first | (with_reducible exact hS) | (with_reducible assumption) | (with_reducible refine unhide kdrew _ ?_; with_reducible assumption) | (with_reducible refine unhide kalloc _ _ ?_; with_reducible assumption) | (refine unhide kcall _ _ ?_ (by assumption); with_reducible assumption) | (with_reducible refine unhide kdrew _ (unhide kalloc _ _ ?_); with_reducible assumption) | (with_reducible refine unhide kalloc _ _ (unhide kdrew _ ?_); with_reducible assumption))
    clear hK K hHeld8
    try simp only [Act.put,List.setIfInBounds_toArray,List.set_cons_zero,List.set_cons_succ]
    refine takeH6 (i := 21) (d := 24) (v := ?_) rfl rfl (by kernel_rfl) (by kernel_rfl) (by kernel_rfl) (fun _ _ _ h => h) (Or.inl ⟨by rfl,?_⟩) (by assumption) ?_
    rotate_left
    · (intro W hSW; (try dsimp only at hSW); go_simp; try (with_reducible rfl))
    try simp only [Act.put,List.setIfInBounds_toArray,List.set_cons_zero,List.set_cons_succ]
    refine takeH6 (i := 22) (d := 25) (v := ?_) rfl rfl (by kernel_rfl) (by kernel_rfl) (by kernel_rfl) (fun _ _ _ h => h) (Or.inl ⟨by rfl,?_⟩) (by assumption) ?_
    rotate_left
    · (intro W hSW; (try dsimp only at hSW); go_simp; try (with_reducible rfl))
    try simp only [Act.put,List.setIfInBounds_toArray,List.set_cons_zero,List.set_cons_succ]
    refine takeH6 (i := 23) (d := 26) (v := ?_) rfl rfl (by kernel_rfl) (by kernel_rfl) (by kernel_rfl) (fun _ _ _ h => h) (Or.inl ⟨by rfl,?_⟩) (by assumption) ?_
    rotate_left
    · (intro W hSW; (try dsimp only at hSW); go_simp; try (with_reducible rfl))
    try simp only [Act.put,List.setIfInBounds_toArray,List.set_cons_zero,List.set_cons_succ]
    refine wpAnyH_ready (rs := [24]) (by kernel_rfl) (by simp) ?_
    refine AllReadyH.cons (o := _) rfl (fun K hK => ?_) AllReadyH.nil
    go_simp
    (go_at_call 114; refine (btw64_any _ _ _ _).mono ?_; rintro e w9 ⟨rfl,rfl⟩)
    refine hK.out _ _ ?_ (fun hHeld10 => ?_)
    · (try dsimp only)
      (first | (with_reducible exact hS) | (with_reducible assumption) | (with_reducible refine unhide kdrew _ ?_; with_reducible assumption) | (with_reducible refine unhide kalloc _ _ ?_; with_reducible assumption) | (refine unhide kcall _ _ ?_ (by assumption); with_reducible assumption) | (with_reducible refine unhide kdrew _ (unhide kalloc _ _ ?_); with_reducible assumption) | (with_reducible refine unhide kalloc _ _ (unhide kdrew _ ?_); with_reducible assumption))
    clear hK K hHeld9
    try simp only [Act.put,List.setIfInBounds_toArray,List.set_cons_zero,List.set_cons_succ]
    refine takeH6 (i := 25) (d := 28) (v := ?_) rfl rfl (by kernel_rfl) (by kernel_rfl) (by kernel_rfl) (fun _ _ _ h => h) (Or.inl ⟨by rfl,?_⟩) (by assumption) ?_
    rotate_left
    · (intro W hSW; (try dsimp only at hSW); go_simp; try (with_reducible rfl))
    try simp only [Act.put,List.setIfInBounds_toArray,List.set_cons_zero,List.set_cons_succ]
    refine wpAnyH_ready (rs := [26]) (by kernel_rfl) (by simp) ?_
    refine AllReadyH.cons (o := _) rfl (fun K hK => ?_) AllReadyH.nil
    go_simp
    (go_at_call 103; refine (unhide cU6 _ _ _ (by rfl) (by rfl)).mono ?_; rintro e w9 ⟨rfl,rfl⟩)
    refine hK.out _ _ ?_ (fun hHeld11 => ?_)
    · (try dsimp only)
      (first | (with_reducible exact hS) | (with_reducible assumption) | (with_reducible refine unhide kdrew _ ?_; with_reducible assumption) | (with_reducible refine unhide kalloc _ _ ?_; with_reducible assumption) | (refine unhide kcall _ _ ?_ (by assumption); with_reducible assumption) | (with_reducible refine unhide kdrew _ (unhide kalloc _ _ ?_); with_reducible assumption) | (with_reducible refine unhide kalloc _ _ (unhide kdrew _ ?_); with_reducible assumption))
    clear hK K hHeld10
    try simp only [Act.put,List.setIfInBounds_toArray,List.set_cons_zero,List.set_cons_succ]
    refine wpAnyH_ready (rs := [29]) (by kernel_rfl) (by simp) ?_
    refine AllReadyH.cons (o := _) rfl (fun K hK => ?_) AllReadyH.nil
    go_simp
    (go_at_call 106; refine (btw_any _ _ _ _).mono ?_; rintro e w9 ⟨rfl,rfl⟩)
    refine hK.out _ _ ?_ (fun hHeld12 => ?_)
    · (try dsimp only)
      (first | (with_reducible exact hS) | (with_reducible assumption) | (with_reducible refine unhide kdrew _ ?_; with_reducible assumption) | (with_reducible refine unhide kalloc _ _ ?_; with_reducible assumption) | (refine unhide kcall _ _ ?_ (by assumption); with_reducible assumption) | (with_reducible refine unhide kdrew _ (unhide kalloc _ _ ?_); with_reducible assumption) | (with_reducible refine unhide kalloc _ _ (unhide kdrew _ ?_); with_reducible assumption))
    clear hK K hHeld11
    try simp only [Act.put,List.setIfInBounds_toArray,List.set_cons_zero,List.set_cons_succ]
    refine wpAnyH_ready (rs := [30]) (by kernel_rfl) (by simp) ?_
    refine AllReadyH.cons (o := _) rfl (fun K hK => ?_) AllReadyH.nil
    go_simp
    (go_at_call 103; refine (unhide cU7 _ _ _ (by rfl) (by rfl)).mono ?_; rintro e w9 ⟨rfl,rfl⟩)
    refine hK.out _ _ ?_ (fun hHeld13 => ?_)
    · (try dsimp only)
      (first | (with_reducible exact hS) | (with_reducible assumption) | (with_reducible refine unhide kdrew _ ?_; with_reducible assumption) | (with_reducible refine unhide kalloc _ _ ?_; with_reducible assumption) | (refine unhide kcall _ _ ?_ (by assumption); with_reducible assumption) | (with_reducible refine unhide kdrew _ (unhide kalloc _ _ ?_); with_reducible assumption) | (with_reducible refine unhide kalloc _ _ (unhide kdrew _ ?_); with_reducible assumption))
    clear hK K hHeld12
    try simp only [Act.put,List.setIfInBounds_toArray,List.set_cons_zero,List.set_cons_succ]
    refine wpAnyH_ready (rs := [33]) (by kernel_rfl) (by simp) ?_
    refine AllReadyH.cons (o := _) rfl (fun K hK => ?_) AllReadyH.nil
    go_simp
    (go_at_call 106; refine (btw_any _ _ _ _).mono ?_; rintro e w9 ⟨rfl,rfl⟩)
    refine hK.out _ _ ?_ (fun hHeld14 => ?_)
    · (try dsimp only)
      (first | (with_reducible exact hS) | (with_reducible assumption) | (with_reducible refine unhide kdrew _ ?_; with_reducible assumption) | (with_reducible refine unhide kalloc _ _ ?_; with_reducible assumption) | (refine unhide kcall _ _ ?_ (by assumption); with_reducible assumption) | (with_reducible refine unhide kdrew _ (unhide kalloc _ _ ?_); with_reducible assumption) | (with_reducible refine unhide kalloc _ _ (unhide kdrew _ ?_); with_reducible assumption))
    clear hK K hHeld13
    try simp only [Act.put,List.setIfInBounds_toArray,List.set_cons_zero,List.set_cons_succ]
    refine wpAnyH_ready (rs := [34]) (by kernel_rfl) (by simp) ?_
    refine AllReadyH.cons (o := _) rfl (fun K hK => ?_) AllReadyH.nil
    go_simp
    (go_at_call 103; refine (unhide cU8 _ _ _ (by rfl) (by rfl)).mono ?_; rintro e w9 ⟨rfl,rfl⟩)
    refine hK.out _ _ ?_ (fun hHeld15 => ?_)
    · (try dsimp only)
      (first | (with_reducible exact hS) | (with_reducible assumption) | (with_reducible refine unhide kdrew _ ?_; with_reducible assumption) | (with_reducible refine unhide kalloc _ _ ?_; with_reducible assumption) | (refine unhide kcall _ _ ?_ (by assumption); with_reducible assumption) | (with_reducible refine unhide kdrew _ (unhide kalloc _ _ ?_); with_reducible assumption) | (with_reducible refine unhide kalloc _ _ (unhide kdrew _ ?_); with_reducible assumption))
    clear hK K hHeld14
    try simp only [Act.put,List.setIfInBounds_toArray,List.set_cons_zero,List.set_cons_succ]
    refine wpAnyH_ready (rs := [35]) (by kernel_rfl) (by simp) ?_
    refine AllReadyH.cons (o := _) rfl (fun K hK => ?_) AllReadyH.nil
    go_simp
    refine hK.out _ _ ?_ (fun hHeld16 => ?_)
    · (try dsimp only)
      (first | (with_reducible exact hS) | (with_reducible assumption) | (with_reducible refine unhide kdrew _ ?_; with_reducible assumption) | (with_reducible refine unhide kalloc _ _ ?_; with_reducible assumption) | (refine unhide kcall _ _ ?_ (by assumption); with_reducible assumption) | (with_reducible refine unhide kdrew _ (unhide kalloc _ _ ?_); with_reducible assumption) | (with_reducible refine unhide kalloc _ _ (unhide kdrew _ ?_); with_reducible assumption))
    clear hK K hHeld15
    try simp only [Act.put,List.setIfInBounds_toArray,List.set_cons_zero,List.set_cons_succ]
    refine wpAnyH_ready (rs := [36]) (by kernel_rfl) (by simp) ?_
    refine AllReadyH.cons (o := _) rfl (fun K hK => ?_) AllReadyH.nil
    go_simp
    (go_at_call 102; refine (unhide cOr _ _ (by simp [go_sem]) (by simp [go_sem]) (by simp [go_sem]) (by simp [go_sem]) (by simp [go_sem]) (by simp [go_sem]) (by simp [go_sem]) (by simp [go_sem])).mono ?_; rintro e w9 ⟨rfl,rfl⟩)
    refine hK.out _ _ ?_ (fun hHeld17 => ?_)
    · (try dsimp only)
      (first | (with_reducible exact hS) | (with_reducible assumption) | (with_reducible refine unhide kdrew _ ?_; with_reducible assumption) | (with_reducible refine unhide kalloc _ _ ?_; with_reducible assumption) | (refine unhide kcall _ _ ?_ (by assumption); with_reducible assumption) | (with_reducible refine unhide kdrew _ (unhide kalloc _ _ ?_); with_reducible assumption) | (with_reducible refine unhide kalloc _ _ (unhide kdrew _ ?_); with_reducible assumption))
    clear hK K hHeld16
    try simp only [Act.put,List.setIfInBounds_toArray,List.set_cons_zero,List.set_cons_succ]
    refine takeH6 (i := 37) (d := 2) (v := ?_) rfl rfl (by kernel_rfl) (by kernel_rfl) (by kernel_rfl) (fun _ _ _ h => h) (Or.inl ⟨by rfl,?_⟩) (by assumption) ?_
    rotate_left
    · (intro W hSW; (try dsimp only at hSW); go_simp; try (with_reducible rfl))
    try simp only [Act.put,List.setIfInBounds_toArray,List.set_cons_zero,List.set_cons_succ]
    refine wpAnyH_done (by kernel_rfl) ?_ _
    refine NoPanic.normal ?_
    have hHeld := hHeld17
    clear hHeld17

    go_wp2_with fail
    go_ret
    exact ⟨rfl,(unhide hHeld.1).gr⟩
end Go.Proofs.YtfpfdnapamdhjaaGreatDoor
