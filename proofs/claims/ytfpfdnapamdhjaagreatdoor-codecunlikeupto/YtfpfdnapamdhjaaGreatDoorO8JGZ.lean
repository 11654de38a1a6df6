/- Layer 8: the program's Pod -/
import Derived.Test.YtfpfdnapamdhjaaGreatDoorO8EGZ
namespace Go.Proofs.YtfpfdnapamdhjaaGreatDoor
open Go.RowKit Suf Val

theorem max3 (n3 n4 n5 : Nat) : decide ((if (if n3 < n4 then (n4 : Int) else (n3 : Int)) < (n5 : Int) then (n5 : Int) else if n3 < n4 then (n4 : Int) else (n3 : Int)) <= 3) = decide (n3 <= 3 /\ n4 <= 3 /\ n5 <= 3) := by
  rw [decide_eq_decide]
  by_cases h : n3 < n4
  · rw [if_pos h]
    by_cases h2 : (n4 : Int) < (n5 : Int)
    · rw [if_pos h2]; omega
    · rw [if_neg h2]; omega
  · rw [if_neg h]
    by_cases h2 : (n3 : Int) < (n5 : Int)
    · rw [if_pos h2]; omega
    · rw [if_neg h2]; omega
set_option maxRecDepth 100000 in
set_option maxHeartbeats 64000000 in
theorem ppod_any (p : VPod) (u1 u2 u3 u4 u5 : Value) (w : World) (hL : Laid w) (h : PodIn w p u1 u2 u3 u4 u5) :
    Calls Tryz.prog 63 #[podA p u1 u2 u3 u4 u5] w fun e w' => e = .returned (.int .i64 (podR p)) /\ Below w.heap.size w w' := by
  have hR : Hid (podR p = orE [unl (nameB p.name && nameB p.app) 7,Am.chkA p.need.1 p.need.2,unl (btwB (-1000) p.prio 1000) 1,moreR 8 p.reqs,Ta.Val.tolsR p.tols,unl (decide (p.spread.length <= 3 /\ p.near.length <= 3 /\ p.apart.length <= 3)) 3,allE spreadE p.spread,allE termE p.near,allE termE p.apart,unl (timeB p.since) 1,unl (onB p.on) 7]) := rfl
  obtain ⟨R,hRR⟩ : ∃ R,R = podR p := ⟨_,rfl⟩
  rw [<- hRR] at hR ⊢
  clear hRR
  have cNm := hide (names2 p.name p.app h.n1 h.n2)
  have k2 := hide (Am.checkAll_any p.need.1 p.need.2)
  have cOn := hide (onone_any p.on h.n3)
  have hq1 := h.rq
  have hq2 := h.tl
  have hq3 := h.sp
  have hq4 := h.nr
  have hq5 := h.ap
  obtain ⟨a1,c1,hu1⟩ := h.rq.val
  obtain ⟨n1,hn1⟩ : ∃ n,n = p.reqs.length := ⟨_,rfl⟩
  obtain ⟨a2,c2,hu2⟩ := h.tl.val
  obtain ⟨n2,hn2⟩ : ∃ n,n = p.tols.length := ⟨_,rfl⟩
  obtain ⟨a3,c3,hu3⟩ := h.sp.val
  obtain ⟨n3,hn3⟩ : ∃ n,n = p.spread.length := ⟨_,rfl⟩
  obtain ⟨a4,c4,hu4⟩ := h.nr.val
  obtain ⟨n4,hn4⟩ : ∃ n,n = p.near.length := ⟨_,rfl⟩
  obtain ⟨a5,c5,hu5⟩ := h.ap.val
  obtain ⟨n5,hn5⟩ : ∃ n,n = p.apart.length := ⟨_,rfl⟩
  unfold podA
  rw [hu1,hu2,hu3,hu4,hu5]
  rw [hu1,<- hn1] at hq1
  rw [hu2,<- hn2] at hq2
  rw [hu3,<- hn3] at hq3
  rw [hu4,<- hn4] at hq4
  rw [hu5,<- hn5] at hq5
  rw [<- hn1,<- hn2,<- hn3,<- hn4,<- hn5]
  rw [<- hn3,<- hn4,<- hn5] at hR
  clear hu1 hu2 hu3 hu4 hu5 h
  obtain ⟨q1,hqq1⟩ : ∃ z,z = (nameB p.name && nameB p.app) := ⟨_,rfl⟩
  obtain ⟨z2,hz2⟩ : ∃ z,z = Am.chkA p.need.1 p.need.2 := ⟨_,rfl⟩
  obtain ⟨z4,hz4⟩ : ∃ z,z = moreR 8 p.reqs := ⟨_,rfl⟩
  obtain ⟨z5,hz5⟩ : ∃ z,z = Ta.Val.tolsR p.tols := ⟨_,rfl⟩
  obtain ⟨z7,hz7⟩ : ∃ z,z = allE spreadE p.spread := ⟨_,rfl⟩
  obtain ⟨z8,hz8⟩ : ∃ z,z = allE termE p.near := ⟨_,rfl⟩
  obtain ⟨z9,hz9⟩ : ∃ z,z = allE termE p.apart := ⟨_,rfl⟩
  obtain ⟨q11,hq11⟩ : ∃ z,z = onB p.on := ⟨_,rfl⟩
  obtain ⟨X0,hX0⟩ : ∃ z,z = bytesT p.name := ⟨_,rfl⟩
  obtain ⟨X1,hX1⟩ : ∃ z,z = bytesT p.app := ⟨_,rfl⟩
  obtain ⟨X2,hX2⟩ : ∃ z,z = bytesT p.on := ⟨_,rfl⟩
  obtain ⟨N0,hN0⟩ : ∃ z,z = p.need.1 := ⟨_,rfl⟩
  obtain ⟨N1,hN1⟩ : ∃ z,z = p.need.2 := ⟨_,rfl⟩
  obtain ⟨P0,hP0⟩ : ∃ z,z = p.prio := ⟨_,rfl⟩
  obtain ⟨S0,hS0⟩ : ∃ z,z = p.since := ⟨_,rfl⟩
  rw [<- hqq1,<- hz2,<- hz4,<- hz5,<- hz7,<- hz8,<- hz9,<- hq11,<- hP0,<- hS0] at hR
  rw [<- hqq1,<- hX0,<- hX1] at cNm
  rw [<- hz2,<- hN0,<- hN1] at k2
  rw [<- hq11,<- hX2] at cOn
  rw [<- hX0,<- hX1,<- hX2,<- hN0,<- hN1,<- hP0,<- hS0]
  obtain ⟨z1,hz1⟩ : ∃ z,z = unl q1 7 := ⟨_,rfl⟩
  obtain ⟨z3,hz3⟩ : ∃ z,z = unl (btwB (-1000) P0 1000) 1 := ⟨_,rfl⟩
  obtain ⟨z6,hz6⟩ : ∃ z,z = unl (decide (n3 <= 3 /\ n4 <= 3 /\ n5 <= 3)) 3 := ⟨_,rfl⟩
  obtain ⟨z10,hz10⟩ : ∃ z,z = unl (timeB S0) 1 := ⟨_,rfl⟩
  obtain ⟨z11,hz11⟩ : ∃ z,z = unl q11 7 := ⟨_,rfl⟩
  rw [<- hz1,<- hz3,<- hz6,<- hz10,<- hz11] at hR
  have cU1 : Hid (∀ V bb ee,bb = .bool (q1) -> ee = .int .i64 7 -> Calls Tryz.prog 103 #[bb,ee] V fun r w' => r = .returned (.int .i64 z1) /\ w' = V) := fun V bb ee e1 e2 => by rw [e1,e2,hz1]; exact unless_any (q1) 7 V
  have cU3 : Hid (∀ V bb ee,bb = .bool (btwB (-1000) P0 1000) -> ee = .int .i64 1 -> Calls Tryz.prog 103 #[bb,ee] V fun r w' => r = .returned (.int .i64 z3) /\ w' = V) := fun V bb ee e1 e2 => by rw [e1,e2,hz3]; exact unless_any (btwB (-1000) P0 1000) 1 V
  have cU10 : Hid (∀ V bb ee,bb = .bool (timeB S0) -> ee = .int .i64 1 -> Calls Tryz.prog 103 #[bb,ee] V fun r w' => r = .returned (.int .i64 z10) /\ w' = V) := fun V bb ee e1 e2 => by rw [e1,e2,hz10]; exact unless_any (timeB S0) 1 V
  have cU11 : Hid (∀ V bb ee,bb = .bool (q11) -> ee = .int .i64 7 -> Calls Tryz.prog 103 #[bb,ee] V fun r w' => r = .returned (.int .i64 z11) /\ w' = V) := fun V bb ee e1 e2 => by rw [e1,e2,hz11]; exact unless_any (q11) 7 V
  obtain ⟨m1,e34⟩ : ∃ m,(if n3 < n4 then (n4 : Int) else (n3 : Int)) = m := ⟨_,rfl⟩
  obtain ⟨m2,e5⟩ : ∃ m,(if m1 < (n5 : Int) then (n5 : Int) else m1) = m := ⟨_,rfl⟩
  have cU6 : Hid (∀ V bb ee,bb = .bool (decide (m2 <= 3)) -> ee = .int .i64 3 -> Calls Tryz.prog 103 #[bb,ee] V fun r w' => r = .returned (.int .i64 z6) /\ w' = V) := fun V bb ee e1 e2 => by rw [e1,e2,hz6,<- e5,<- e34,max3]; exact unless_any _ 3 V
  have cOr : Hid (∀ V B,V.cell? ⟨B,0,none⟩ = some (.int .i64 z1) -> V.cell? ⟨B,1,none⟩ = some (.int .i64 z2) -> V.cell? ⟨B,2,none⟩ = some (.int .i64 z3) -> V.cell? ⟨B,3,none⟩ = some (.int .i64 z4) -> V.cell? ⟨B,4,none⟩ = some (.int .i64 z5) -> V.cell? ⟨B,5,none⟩ = some (.int .i64 z6) -> V.cell? ⟨B,6,none⟩ = some (.int .i64 z7) -> V.cell? ⟨B,7,none⟩ = some (.int .i64 z8) -> V.cell? ⟨B,8,none⟩ = some (.int .i64 z9) -> V.cell? ⟨B,9,none⟩ = some (.int .i64 z10) -> V.cell? ⟨B,10,none⟩ = some (.int .i64 z11) -> Calls Tryz.prog 102 #[.slice (some ⟨B,0,none⟩) 11 11] V fun r w' => r = .returned (.int .i64 R) /\ w' = V) := fun V B g0 g1 g2 g3 g4 g5 g6 g7 g8 g9 g10 => by rw [unhide hR]; exact or8_11 z1 z2 z3 z4 z5 z6 z7 z8 z9 z10 z11 g0 g1 g2 g3 g4 g5 g6 g7 g8 g9 g10
  have G (V : World) (h : HeldS w [(⟨w.heap.size,0,none⟩,.string X0),(⟨w.heap.size,1,none⟩,.string X1),(⟨w.heap.size,2,none⟩,.int .i64 N0),(⟨w.heap.size,3,none⟩,.int .i64 N1),(⟨w.heap.size,4,none⟩,.int .i64 P0),(⟨w.heap.size,5,none⟩,.slice a1 n1 c1),(⟨w.heap.size,6,none⟩,.slice a2 n2 c2),(⟨w.heap.size,7,none⟩,.slice a3 n3 c3),(⟨w.heap.size,8,none⟩,.slice a4 n4 c4),(⟨w.heap.size,9,none⟩,.slice a5 n5 c5),(⟨w.heap.size,10,none⟩,.int .i64 S0),(⟨w.heap.size,11,none⟩,.string X2)] V) : Below w.heap.size w V := h.gr
  have k4 : Hid (∀ V,(Hid (HeldS w [(⟨w.heap.size,0,none⟩,.string X0),(⟨w.heap.size,1,none⟩,.string X1),(⟨w.heap.size,2,none⟩,.int .i64 N0),(⟨w.heap.size,3,none⟩,.int .i64 N1),(⟨w.heap.size,4,none⟩,.int .i64 P0),(⟨w.heap.size,5,none⟩,.slice a1 n1 c1),(⟨w.heap.size,6,none⟩,.slice a2 n2 c2),(⟨w.heap.size,7,none⟩,.slice a3 n3 c3),(⟨w.heap.size,8,none⟩,.slice a4 n4 c4),(⟨w.heap.size,9,none⟩,.slice a5 n5 c5),(⟨w.heap.size,10,none⟩,.int .i64 S0),(⟨w.heap.size,11,none⟩,.string X2)] V) /\ V.cell? ⟨w.heap.size,0,none⟩ = some (.string X0) /\ V.cell? ⟨w.heap.size,1,none⟩ = some (.string X1) /\ V.cell? ⟨w.heap.size,2,none⟩ = some (.int .i64 N0) /\ V.cell? ⟨w.heap.size,3,none⟩ = some (.int .i64 N1) /\ V.cell? ⟨w.heap.size,4,none⟩ = some (.int .i64 P0) /\ V.cell? ⟨w.heap.size,5,none⟩ = some (.slice a1 n1 c1) /\ V.cell? ⟨w.heap.size,6,none⟩ = some (.slice a2 n2 c2) /\ V.cell? ⟨w.heap.size,7,none⟩ = some (.slice a3 n3 c3) /\ V.cell? ⟨w.heap.size,8,none⟩ = some (.slice a4 n4 c4) /\ V.cell? ⟨w.heap.size,9,none⟩ = some (.slice a5 n5 c5) /\ V.cell? ⟨w.heap.size,10,none⟩ = some (.int .i64 S0) /\ V.cell? ⟨w.heap.size,11,none⟩ = some (.string X2)) -> Calls Tryz.prog 107 #[.slice a1 n1 c1] V fun e w' => e = .returned (.int .i64 z4) /\ Below V.heap.size V w') := fun V hs => by rw [hz4]; exact rcheckL_any _ _ V (hL.below (G V (unhide hs.1))) (hq1.below (G V (unhide hs.1)))
  have k5 : Hid (∀ V,(Hid (HeldS w [(⟨w.heap.size,0,none⟩,.string X0),(⟨w.heap.size,1,none⟩,.string X1),(⟨w.heap.size,2,none⟩,.int .i64 N0),(⟨w.heap.size,3,none⟩,.int .i64 N1),(⟨w.heap.size,4,none⟩,.int .i64 P0),(⟨w.heap.size,5,none⟩,.slice a1 n1 c1),(⟨w.heap.size,6,none⟩,.slice a2 n2 c2),(⟨w.heap.size,7,none⟩,.slice a3 n3 c3),(⟨w.heap.size,8,none⟩,.slice a4 n4 c4),(⟨w.heap.size,9,none⟩,.slice a5 n5 c5),(⟨w.heap.size,10,none⟩,.int .i64 S0),(⟨w.heap.size,11,none⟩,.string X2)] V) /\ V.cell? ⟨w.heap.size,0,none⟩ = some (.string X0) /\ V.cell? ⟨w.heap.size,1,none⟩ = some (.string X1) /\ V.cell? ⟨w.heap.size,2,none⟩ = some (.int .i64 N0) /\ V.cell? ⟨w.heap.size,3,none⟩ = some (.int .i64 N1) /\ V.cell? ⟨w.heap.size,4,none⟩ = some (.int .i64 P0) /\ V.cell? ⟨w.heap.size,5,none⟩ = some (.slice a1 n1 c1) /\ V.cell? ⟨w.heap.size,6,none⟩ = some (.slice a2 n2 c2) /\ V.cell? ⟨w.heap.size,7,none⟩ = some (.slice a3 n3 c3) /\ V.cell? ⟨w.heap.size,8,none⟩ = some (.slice a4 n4 c4) /\ V.cell? ⟨w.heap.size,9,none⟩ = some (.slice a5 n5 c5) /\ V.cell? ⟨w.heap.size,10,none⟩ = some (.int .i64 S0) /\ V.cell? ⟨w.heap.size,11,none⟩ = some (.string X2)) -> Calls Tryz.prog 108 #[.slice a2 n2 c2] V fun e w' => e = .returned (.int .i64 z5) /\ Below V.heap.size V w') := fun V hs => by rw [hz5]; exact Ta.ptols_any _ _ V (hL.below (G V (unhide hs.1))) (hq2.below (G V (unhide hs.1)))
  have k7 : Hid (∀ V,(Hid (HeldS w [(⟨w.heap.size,0,none⟩,.string X0),(⟨w.heap.size,1,none⟩,.string X1),(⟨w.heap.size,2,none⟩,.int .i64 N0),(⟨w.heap.size,3,none⟩,.int .i64 N1),(⟨w.heap.size,4,none⟩,.int .i64 P0),(⟨w.heap.size,5,none⟩,.slice a1 n1 c1),(⟨w.heap.size,6,none⟩,.slice a2 n2 c2),(⟨w.heap.size,7,none⟩,.slice a3 n3 c3),(⟨w.heap.size,8,none⟩,.slice a4 n4 c4),(⟨w.heap.size,9,none⟩,.slice a5 n5 c5),(⟨w.heap.size,10,none⟩,.int .i64 S0),(⟨w.heap.size,11,none⟩,.string X2)] V) /\ V.cell? ⟨w.heap.size,0,none⟩ = some (.string X0) /\ V.cell? ⟨w.heap.size,1,none⟩ = some (.string X1) /\ V.cell? ⟨w.heap.size,2,none⟩ = some (.int .i64 N0) /\ V.cell? ⟨w.heap.size,3,none⟩ = some (.int .i64 N1) /\ V.cell? ⟨w.heap.size,4,none⟩ = some (.int .i64 P0) /\ V.cell? ⟨w.heap.size,5,none⟩ = some (.slice a1 n1 c1) /\ V.cell? ⟨w.heap.size,6,none⟩ = some (.slice a2 n2 c2) /\ V.cell? ⟨w.heap.size,7,none⟩ = some (.slice a3 n3 c3) /\ V.cell? ⟨w.heap.size,8,none⟩ = some (.slice a4 n4 c4) /\ V.cell? ⟨w.heap.size,9,none⟩ = some (.slice a5 n5 c5) /\ V.cell? ⟨w.heap.size,10,none⟩ = some (.int .i64 S0) /\ V.cell? ⟨w.heap.size,11,none⟩ = some (.string X2)) -> Calls Tryz.prog 109 #[.slice a3 n3 c3] V fun e w' => e = .returned (.int .i64 z7) /\ Below V.heap.size V w') := fun V hs => by rw [hz7]; exact pspreads_any _ _ V (hq3.below (G V (unhide hs.1)))
  have k8 : Hid (∀ V vv,(Hid (HeldS w [(⟨w.heap.size,0,none⟩,.string X0),(⟨w.heap.size,1,none⟩,.string X1),(⟨w.heap.size,2,none⟩,.int .i64 N0),(⟨w.heap.size,3,none⟩,.int .i64 N1),(⟨w.heap.size,4,none⟩,.int .i64 P0),(⟨w.heap.size,5,none⟩,.slice a1 n1 c1),(⟨w.heap.size,6,none⟩,.slice a2 n2 c2),(⟨w.heap.size,7,none⟩,.slice a3 n3 c3),(⟨w.heap.size,8,none⟩,.slice a4 n4 c4),(⟨w.heap.size,9,none⟩,.slice a5 n5 c5),(⟨w.heap.size,10,none⟩,.int .i64 S0),(⟨w.heap.size,11,none⟩,.string X2)] V) /\ V.cell? ⟨w.heap.size,0,none⟩ = some (.string X0) /\ V.cell? ⟨w.heap.size,1,none⟩ = some (.string X1) /\ V.cell? ⟨w.heap.size,2,none⟩ = some (.int .i64 N0) /\ V.cell? ⟨w.heap.size,3,none⟩ = some (.int .i64 N1) /\ V.cell? ⟨w.heap.size,4,none⟩ = some (.int .i64 P0) /\ V.cell? ⟨w.heap.size,5,none⟩ = some (.slice a1 n1 c1) /\ V.cell? ⟨w.heap.size,6,none⟩ = some (.slice a2 n2 c2) /\ V.cell? ⟨w.heap.size,7,none⟩ = some (.slice a3 n3 c3) /\ V.cell? ⟨w.heap.size,8,none⟩ = some (.slice a4 n4 c4) /\ V.cell? ⟨w.heap.size,9,none⟩ = some (.slice a5 n5 c5) /\ V.cell? ⟨w.heap.size,10,none⟩ = some (.int .i64 S0) /\ V.cell? ⟨w.heap.size,11,none⟩ = some (.string X2)) -> vv = .slice a4 n4 c4 -> Calls Tryz.prog 110 #[vv] V fun e w' => e = .returned (.int .i64 z8) /\ Below V.heap.size V w') := fun V vv hs e => by rw [hz8,e]; exact pterms_any _ _ V (hq4.below (G V (unhide hs.1)))
  have k9 : Hid (∀ V vv,(Hid (HeldS w [(⟨w.heap.size,0,none⟩,.string X0),(⟨w.heap.size,1,none⟩,.string X1),(⟨w.heap.size,2,none⟩,.int .i64 N0),(⟨w.heap.size,3,none⟩,.int .i64 N1),(⟨w.heap.size,4,none⟩,.int .i64 P0),(⟨w.heap.size,5,none⟩,.slice a1 n1 c1),(⟨w.heap.size,6,none⟩,.slice a2 n2 c2),(⟨w.heap.size,7,none⟩,.slice a3 n3 c3),(⟨w.heap.size,8,none⟩,.slice a4 n4 c4),(⟨w.heap.size,9,none⟩,.slice a5 n5 c5),(⟨w.heap.size,10,none⟩,.int .i64 S0),(⟨w.heap.size,11,none⟩,.string X2)] V) /\ V.cell? ⟨w.heap.size,0,none⟩ = some (.string X0) /\ V.cell? ⟨w.heap.size,1,none⟩ = some (.string X1) /\ V.cell? ⟨w.heap.size,2,none⟩ = some (.int .i64 N0) /\ V.cell? ⟨w.heap.size,3,none⟩ = some (.int .i64 N1) /\ V.cell? ⟨w.heap.size,4,none⟩ = some (.int .i64 P0) /\ V.cell? ⟨w.heap.size,5,none⟩ = some (.slice a1 n1 c1) /\ V.cell? ⟨w.heap.size,6,none⟩ = some (.slice a2 n2 c2) /\ V.cell? ⟨w.heap.size,7,none⟩ = some (.slice a3 n3 c3) /\ V.cell? ⟨w.heap.size,8,none⟩ = some (.slice a4 n4 c4) /\ V.cell? ⟨w.heap.size,9,none⟩ = some (.slice a5 n5 c5) /\ V.cell? ⟨w.heap.size,10,none⟩ = some (.int .i64 S0) /\ V.cell? ⟨w.heap.size,11,none⟩ = some (.string X2)) -> vv = .slice a5 n5 c5 -> Calls Tryz.prog 110 #[vv] V fun e w' => e = .returned (.int .i64 z9) /\ Below V.heap.size V w') := fun V vv hs e => by rw [hz9,e]; exact pterms_any _ _ V (hq5.below (G V (unhide hs.1)))
  clear hn1 hn2 hn3 hn4 hn5 hqq1 hz2 hz4 hz5 hz7 hz8 hz9 hq11 hX0 hX1 hX2 hN0 hN1 hP0 hS0 hz1 hz3 hz6 hz10 hz11 hq1 hq2 hq3 hq4 hq5 hL G hR
  have sall : Hid (∀ V,HeldS w [(⟨w.heap.size,0,none⟩,.string X0),(⟨w.heap.size,1,none⟩,.string X1),(⟨w.heap.size,2,none⟩,.int .i64 N0),(⟨w.heap.size,3,none⟩,.int .i64 N1),(⟨w.heap.size,4,none⟩,.int .i64 P0),(⟨w.heap.size,5,none⟩,.slice a1 n1 c1),(⟨w.heap.size,6,none⟩,.slice a2 n2 c2),(⟨w.heap.size,7,none⟩,.slice a3 n3 c3),(⟨w.heap.size,8,none⟩,.slice a4 n4 c4),(⟨w.heap.size,9,none⟩,.slice a5 n5 c5),(⟨w.heap.size,10,none⟩,.int .i64 S0),(⟨w.heap.size,11,none⟩,.string X2)] V -> Hid (HeldS w [(⟨w.heap.size,0,none⟩,.string X0),(⟨w.heap.size,1,none⟩,.string X1),(⟨w.heap.size,2,none⟩,.int .i64 N0),(⟨w.heap.size,3,none⟩,.int .i64 N1),(⟨w.heap.size,4,none⟩,.int .i64 P0),(⟨w.heap.size,5,none⟩,.slice a1 n1 c1),(⟨w.heap.size,6,none⟩,.slice a2 n2 c2),(⟨w.heap.size,7,none⟩,.slice a3 n3 c3),(⟨w.heap.size,8,none⟩,.slice a4 n4 c4),(⟨w.heap.size,9,none⟩,.slice a5 n5 c5),(⟨w.heap.size,10,none⟩,.int .i64 S0),(⟨w.heap.size,11,none⟩,.string X2)] V) /\ V.cell? ⟨w.heap.size,0,none⟩ = some (.string X0) /\ V.cell? ⟨w.heap.size,1,none⟩ = some (.string X1) /\ V.cell? ⟨w.heap.size,2,none⟩ = some (.int .i64 N0) /\ V.cell? ⟨w.heap.size,3,none⟩ = some (.int .i64 N1) /\ V.cell? ⟨w.heap.size,4,none⟩ = some (.int .i64 P0) /\ V.cell? ⟨w.heap.size,5,none⟩ = some (.slice a1 n1 c1) /\ V.cell? ⟨w.heap.size,6,none⟩ = some (.slice a2 n2 c2) /\ V.cell? ⟨w.heap.size,7,none⟩ = some (.slice a3 n3 c3) /\ V.cell? ⟨w.heap.size,8,none⟩ = some (.slice a4 n4 c4) /\ V.cell? ⟨w.heap.size,9,none⟩ = some (.slice a5 n5 c5) /\ V.cell? ⟨w.heap.size,10,none⟩ = some (.int .i64 S0) /\ V.cell? ⟨w.heap.size,11,none⟩ = some (.string X2)) := fun V h => ⟨h,h.at 0 rfl,h.at 1 rfl,h.at 2 rfl,h.at 3 rfl,h.at 4 rfl,h.at 5 rfl,h.at 6 rfl,h.at 7 rfl,h.at 8 rfl,h.at 9 rfl,h.at 10 rfl,h.at 11 rfl⟩
  have kdrew : Hid (∀ V,(Hid (HeldS w [(⟨w.heap.size,0,none⟩,.string X0),(⟨w.heap.size,1,none⟩,.string X1),(⟨w.heap.size,2,none⟩,.int .i64 N0),(⟨w.heap.size,3,none⟩,.int .i64 N1),(⟨w.heap.size,4,none⟩,.int .i64 P0),(⟨w.heap.size,5,none⟩,.slice a1 n1 c1),(⟨w.heap.size,6,none⟩,.slice a2 n2 c2),(⟨w.heap.size,7,none⟩,.slice a3 n3 c3),(⟨w.heap.size,8,none⟩,.slice a4 n4 c4),(⟨w.heap.size,9,none⟩,.slice a5 n5 c5),(⟨w.heap.size,10,none⟩,.int .i64 S0),(⟨w.heap.size,11,none⟩,.string X2)] V) /\ V.cell? ⟨w.heap.size,0,none⟩ = some (.string X0) /\ V.cell? ⟨w.heap.size,1,none⟩ = some (.string X1) /\ V.cell? ⟨w.heap.size,2,none⟩ = some (.int .i64 N0) /\ V.cell? ⟨w.heap.size,3,none⟩ = some (.int .i64 N1) /\ V.cell? ⟨w.heap.size,4,none⟩ = some (.int .i64 P0) /\ V.cell? ⟨w.heap.size,5,none⟩ = some (.slice a1 n1 c1) /\ V.cell? ⟨w.heap.size,6,none⟩ = some (.slice a2 n2 c2) /\ V.cell? ⟨w.heap.size,7,none⟩ = some (.slice a3 n3 c3) /\ V.cell? ⟨w.heap.size,8,none⟩ = some (.slice a4 n4 c4) /\ V.cell? ⟨w.heap.size,9,none⟩ = some (.slice a5 n5 c5) /\ V.cell? ⟨w.heap.size,10,none⟩ = some (.int .i64 S0) /\ V.cell? ⟨w.heap.size,11,none⟩ = some (.string X2)) -> Hid (HeldS w [(⟨w.heap.size,0,none⟩,.string X0),(⟨w.heap.size,1,none⟩,.string X1),(⟨w.heap.size,2,none⟩,.int .i64 N0),(⟨w.heap.size,3,none⟩,.int .i64 N1),(⟨w.heap.size,4,none⟩,.int .i64 P0),(⟨w.heap.size,5,none⟩,.slice a1 n1 c1),(⟨w.heap.size,6,none⟩,.slice a2 n2 c2),(⟨w.heap.size,7,none⟩,.slice a3 n3 c3),(⟨w.heap.size,8,none⟩,.slice a4 n4 c4),(⟨w.heap.size,9,none⟩,.slice a5 n5 c5),(⟨w.heap.size,10,none⟩,.int .i64 S0),(⟨w.heap.size,11,none⟩,.string X2)] V.drew) /\ V.drew.cell? ⟨w.heap.size,0,none⟩ = some (.string X0) /\ V.drew.cell? ⟨w.heap.size,1,none⟩ = some (.string X1) /\ V.drew.cell? ⟨w.heap.size,2,none⟩ = some (.int .i64 N0) /\ V.drew.cell? ⟨w.heap.size,3,none⟩ = some (.int .i64 N1) /\ V.drew.cell? ⟨w.heap.size,4,none⟩ = some (.int .i64 P0) /\ V.drew.cell? ⟨w.heap.size,5,none⟩ = some (.slice a1 n1 c1) /\ V.drew.cell? ⟨w.heap.size,6,none⟩ = some (.slice a2 n2 c2) /\ V.drew.cell? ⟨w.heap.size,7,none⟩ = some (.slice a3 n3 c3) /\ V.drew.cell? ⟨w.heap.size,8,none⟩ = some (.slice a4 n4 c4) /\ V.drew.cell? ⟨w.heap.size,9,none⟩ = some (.slice a5 n5 c5) /\ V.drew.cell? ⟨w.heap.size,10,none⟩ = some (.int .i64 S0) /\ V.drew.cell? ⟨w.heap.size,11,none⟩ = some (.string X2)) := fun V h => unhide sall _ (unhide h.1).drew
  have kalloc : Hid (∀ V o,(Hid (HeldS w [(⟨w.heap.size,0,none⟩,.string X0),(⟨w.heap.size,1,none⟩,.string X1),(⟨w.heap.size,2,none⟩,.int .i64 N0),(⟨w.heap.size,3,none⟩,.int .i64 N1),(⟨w.heap.size,4,none⟩,.int .i64 P0),(⟨w.heap.size,5,none⟩,.slice a1 n1 c1),(⟨w.heap.size,6,none⟩,.slice a2 n2 c2),(⟨w.heap.size,7,none⟩,.slice a3 n3 c3),(⟨w.heap.size,8,none⟩,.slice a4 n4 c4),(⟨w.heap.size,9,none⟩,.slice a5 n5 c5),(⟨w.heap.size,10,none⟩,.int .i64 S0),(⟨w.heap.size,11,none⟩,.string X2)] V) /\ V.cell? ⟨w.heap.size,0,none⟩ = some (.string X0) /\ V.cell? ⟨w.heap.size,1,none⟩ = some (.string X1) /\ V.cell? ⟨w.heap.size,2,none⟩ = some (.int .i64 N0) /\ V.cell? ⟨w.heap.size,3,none⟩ = some (.int .i64 N1) /\ V.cell? ⟨w.heap.size,4,none⟩ = some (.int .i64 P0) /\ V.cell? ⟨w.heap.size,5,none⟩ = some (.slice a1 n1 c1) /\ V.cell? ⟨w.heap.size,6,none⟩ = some (.slice a2 n2 c2) /\ V.cell? ⟨w.heap.size,7,none⟩ = some (.slice a3 n3 c3) /\ V.cell? ⟨w.heap.size,8,none⟩ = some (.slice a4 n4 c4) /\ V.cell? ⟨w.heap.size,9,none⟩ = some (.slice a5 n5 c5) /\ V.cell? ⟨w.heap.size,10,none⟩ = some (.int .i64 S0) /\ V.cell? ⟨w.heap.size,11,none⟩ = some (.string X2)) -> Hid (HeldS w [(⟨w.heap.size,0,none⟩,.string X0),(⟨w.heap.size,1,none⟩,.string X1),(⟨w.heap.size,2,none⟩,.int .i64 N0),(⟨w.heap.size,3,none⟩,.int .i64 N1),(⟨w.heap.size,4,none⟩,.int .i64 P0),(⟨w.heap.size,5,none⟩,.slice a1 n1 c1),(⟨w.heap.size,6,none⟩,.slice a2 n2 c2),(⟨w.heap.size,7,none⟩,.slice a3 n3 c3),(⟨w.heap.size,8,none⟩,.slice a4 n4 c4),(⟨w.heap.size,9,none⟩,.slice a5 n5 c5),(⟨w.heap.size,10,none⟩,.int .i64 S0),(⟨w.heap.size,11,none⟩,.string X2)] (V.alloc o)) /\ (V.alloc o).cell? ⟨w.heap.size,0,none⟩ = some (.string X0) /\ (V.alloc o).cell? ⟨w.heap.size,1,none⟩ = some (.string X1) /\ (V.alloc o).cell? ⟨w.heap.size,2,none⟩ = some (.int .i64 N0) /\ (V.alloc o).cell? ⟨w.heap.size,3,none⟩ = some (.int .i64 N1) /\ (V.alloc o).cell? ⟨w.heap.size,4,none⟩ = some (.int .i64 P0) /\ (V.alloc o).cell? ⟨w.heap.size,5,none⟩ = some (.slice a1 n1 c1) /\ (V.alloc o).cell? ⟨w.heap.size,6,none⟩ = some (.slice a2 n2 c2) /\ (V.alloc o).cell? ⟨w.heap.size,7,none⟩ = some (.slice a3 n3 c3) /\ (V.alloc o).cell? ⟨w.heap.size,8,none⟩ = some (.slice a4 n4 c4) /\ (V.alloc o).cell? ⟨w.heap.size,9,none⟩ = some (.slice a5 n5 c5) /\ (V.alloc o).cell? ⟨w.heap.size,10,none⟩ = some (.int .i64 S0) /\ (V.alloc o).cell? ⟨w.heap.size,11,none⟩ = some (.string X2)) := fun V o h => unhide sall _ ((unhide h.1).alloc o)
  have kcall : Hid (∀ V V',(Hid (HeldS w [(⟨w.heap.size,0,none⟩,.string X0),(⟨w.heap.size,1,none⟩,.string X1),(⟨w.heap.size,2,none⟩,.int .i64 N0),(⟨w.heap.size,3,none⟩,.int .i64 N1),(⟨w.heap.size,4,none⟩,.int .i64 P0),(⟨w.heap.size,5,none⟩,.slice a1 n1 c1),(⟨w.heap.size,6,none⟩,.slice a2 n2 c2),(⟨w.heap.size,7,none⟩,.slice a3 n3 c3),(⟨w.heap.size,8,none⟩,.slice a4 n4 c4),(⟨w.heap.size,9,none⟩,.slice a5 n5 c5),(⟨w.heap.size,10,none⟩,.int .i64 S0),(⟨w.heap.size,11,none⟩,.string X2)] V) /\ V.cell? ⟨w.heap.size,0,none⟩ = some (.string X0) /\ V.cell? ⟨w.heap.size,1,none⟩ = some (.string X1) /\ V.cell? ⟨w.heap.size,2,none⟩ = some (.int .i64 N0) /\ V.cell? ⟨w.heap.size,3,none⟩ = some (.int .i64 N1) /\ V.cell? ⟨w.heap.size,4,none⟩ = some (.int .i64 P0) /\ V.cell? ⟨w.heap.size,5,none⟩ = some (.slice a1 n1 c1) /\ V.cell? ⟨w.heap.size,6,none⟩ = some (.slice a2 n2 c2) /\ V.cell? ⟨w.heap.size,7,none⟩ = some (.slice a3 n3 c3) /\ V.cell? ⟨w.heap.size,8,none⟩ = some (.slice a4 n4 c4) /\ V.cell? ⟨w.heap.size,9,none⟩ = some (.slice a5 n5 c5) /\ V.cell? ⟨w.heap.size,10,none⟩ = some (.int .i64 S0) /\ V.cell? ⟨w.heap.size,11,none⟩ = some (.string X2)) -> Below V.heap.size V V' -> Hid (HeldS w [(⟨w.heap.size,0,none⟩,.string X0),(⟨w.heap.size,1,none⟩,.string X1),(⟨w.heap.size,2,none⟩,.int .i64 N0),(⟨w.heap.size,3,none⟩,.int .i64 N1),(⟨w.heap.size,4,none⟩,.int .i64 P0),(⟨w.heap.size,5,none⟩,.slice a1 n1 c1),(⟨w.heap.size,6,none⟩,.slice a2 n2 c2),(⟨w.heap.size,7,none⟩,.slice a3 n3 c3),(⟨w.heap.size,8,none⟩,.slice a4 n4 c4),(⟨w.heap.size,9,none⟩,.slice a5 n5 c5),(⟨w.heap.size,10,none⟩,.int .i64 S0),(⟨w.heap.size,11,none⟩,.string X2)] V') /\ V'.cell? ⟨w.heap.size,0,none⟩ = some (.string X0) /\ V'.cell? ⟨w.heap.size,1,none⟩ = some (.string X1) /\ V'.cell? ⟨w.heap.size,2,none⟩ = some (.int .i64 N0) /\ V'.cell? ⟨w.heap.size,3,none⟩ = some (.int .i64 N1) /\ V'.cell? ⟨w.heap.size,4,none⟩ = some (.int .i64 P0) /\ V'.cell? ⟨w.heap.size,5,none⟩ = some (.slice a1 n1 c1) /\ V'.cell? ⟨w.heap.size,6,none⟩ = some (.slice a2 n2 c2) /\ V'.cell? ⟨w.heap.size,7,none⟩ = some (.slice a3 n3 c3) /\ V'.cell? ⟨w.heap.size,8,none⟩ = some (.slice a4 n4 c4) /\ V'.cell? ⟨w.heap.size,9,none⟩ = some (.slice a5 n5 c5) /\ V'.cell? ⟨w.heap.size,10,none⟩ = some (.int .i64 S0) /\ V'.cell? ⟨w.heap.size,11,none⟩ = some (.string X2)) := fun V V' h hb => unhide sall _ ((unhide h.1).below hb)
  have hS : Hid (HeldS w [(⟨w.heap.size,0,none⟩,.string X0),(⟨w.heap.size,1,none⟩,.string X1),(⟨w.heap.size,2,none⟩,.int .i64 N0),(⟨w.heap.size,3,none⟩,.int .i64 N1),(⟨w.heap.size,4,none⟩,.int .i64 P0),(⟨w.heap.size,5,none⟩,.slice a1 n1 c1),(⟨w.heap.size,6,none⟩,.slice a2 n2 c2),(⟨w.heap.size,7,none⟩,.slice a3 n3 c3),(⟨w.heap.size,8,none⟩,.slice a4 n4 c4),(⟨w.heap.size,9,none⟩,.slice a5 n5 c5),(⟨w.heap.size,10,none⟩,.int .i64 S0),(⟨w.heap.size,11,none⟩,.string X2)] (w.alloc (.cells #[.string X0,.string X1,.int .i64 N0,.int .i64 N1,.int .i64 P0,.slice a1 n1 c1,.slice a2 n2 c2,.slice a3 n3 c3,.slice a4 n4 c4,.slice a5 n5 c5,.int .i64 S0,.string X2] 29))) /\ (w.alloc (.cells #[.string X0,.string X1,.int .i64 N0,.int .i64 N1,.int .i64 P0,.slice a1 n1 c1,.slice a2 n2 c2,.slice a3 n3 c3,.slice a4 n4 c4,.slice a5 n5 c5,.int .i64 S0,.string X2] 29)).cell? ⟨w.heap.size,0,none⟩ = some (.string X0) /\ (w.alloc (.cells #[.string X0,.string X1,.int .i64 N0,.int .i64 N1,.int .i64 P0,.slice a1 n1 c1,.slice a2 n2 c2,.slice a3 n3 c3,.slice a4 n4 c4,.slice a5 n5 c5,.int .i64 S0,.string X2] 29)).cell? ⟨w.heap.size,1,none⟩ = some (.string X1) /\ (w.alloc (.cells #[.string X0,.string X1,.int .i64 N0,.int .i64 N1,.int .i64 P0,.slice a1 n1 c1,.slice a2 n2 c2,.slice a3 n3 c3,.slice a4 n4 c4,.slice a5 n5 c5,.int .i64 S0,.string X2] 29)).cell? ⟨w.heap.size,2,none⟩ = some (.int .i64 N0) /\ (w.alloc (.cells #[.string X0,.string X1,.int .i64 N0,.int .i64 N1,.int .i64 P0,.slice a1 n1 c1,.slice a2 n2 c2,.slice a3 n3 c3,.slice a4 n4 c4,.slice a5 n5 c5,.int .i64 S0,.string X2] 29)).cell? ⟨w.heap.size,3,none⟩ = some (.int .i64 N1) /\ (w.alloc (.cells #[.string X0,.string X1,.int .i64 N0,.int .i64 N1,.int .i64 P0,.slice a1 n1 c1,.slice a2 n2 c2,.slice a3 n3 c3,.slice a4 n4 c4,.slice a5 n5 c5,.int .i64 S0,.string X2] 29)).cell? ⟨w.heap.size,4,none⟩ = some (.int .i64 P0) /\ (w.alloc (.cells #[.string X0,.string X1,.int .i64 N0,.int .i64 N1,.int .i64 P0,.slice a1 n1 c1,.slice a2 n2 c2,.slice a3 n3 c3,.slice a4 n4 c4,.slice a5 n5 c5,.int .i64 S0,.string X2] 29)).cell? ⟨w.heap.size,5,none⟩ = some (.slice a1 n1 c1) /\ (w.alloc (.cells #[.string X0,.string X1,.int .i64 N0,.int .i64 N1,.int .i64 P0,.slice a1 n1 c1,.slice a2 n2 c2,.slice a3 n3 c3,.slice a4 n4 c4,.slice a5 n5 c5,.int .i64 S0,.string X2] 29)).cell? ⟨w.heap.size,6,none⟩ = some (.slice a2 n2 c2) /\ (w.alloc (.cells #[.string X0,.string X1,.int .i64 N0,.int .i64 N1,.int .i64 P0,.slice a1 n1 c1,.slice a2 n2 c2,.slice a3 n3 c3,.slice a4 n4 c4,.slice a5 n5 c5,.int .i64 S0,.string X2] 29)).cell? ⟨w.heap.size,7,none⟩ = some (.slice a3 n3 c3) /\ (w.alloc (.cells #[.string X0,.string X1,.int .i64 N0,.int .i64 N1,.int .i64 P0,.slice a1 n1 c1,.slice a2 n2 c2,.slice a3 n3 c3,.slice a4 n4 c4,.slice a5 n5 c5,.int .i64 S0,.string X2] 29)).cell? ⟨w.heap.size,8,none⟩ = some (.slice a4 n4 c4) /\ (w.alloc (.cells #[.string X0,.string X1,.int .i64 N0,.int .i64 N1,.int .i64 P0,.slice a1 n1 c1,.slice a2 n2 c2,.slice a3 n3 c3,.slice a4 n4 c4,.slice a5 n5 c5,.int .i64 S0,.string X2] 29)).cell? ⟨w.heap.size,9,none⟩ = some (.slice a5 n5 c5) /\ (w.alloc (.cells #[.string X0,.string X1,.int .i64 N0,.int .i64 N1,.int .i64 P0,.slice a1 n1 c1,.slice a2 n2 c2,.slice a3 n3 c3,.slice a4 n4 c4,.slice a5 n5 c5,.int .i64 S0,.string X2] 29)).cell? ⟨w.heap.size,10,none⟩ = some (.int .i64 S0) /\ (w.alloc (.cells #[.string X0,.string X1,.int .i64 N0,.int .i64 N1,.int .i64 P0,.slice a1 n1 c1,.slice a2 n2 c2,.slice a3 n3 c3,.slice a4 n4 c4,.slice a5 n5 c5,.int .i64 S0,.string X2] 29)).cell? ⟨w.heap.size,11,none⟩ = some (.string X2) := unhide sall _ ⟨boxb _,fun x hx => by simp only [List.mem_cons,List.not_mem_nil,or_false] at hx; rcases hx with rfl | rfl | rfl | rfl | rfl | rfl | rfl | rfl | rfl | rfl | rfl | rfl <;> simp [go_sem]⟩
  clear sall
  go_enter Tryz.func63,Tryz.ntmps63
  go_wp2_with fail
  refine wp_region_noPanic ?_
  refine wp_region_held_drew (S := fun V => Hid (HeldS w [(⟨w.heap.size,0,none⟩,.string X0),(⟨w.heap.size,1,none⟩,.string X1),(⟨w.heap.size,2,none⟩,.int .i64 N0),(⟨w.heap.size,3,none⟩,.int .i64 N1),(⟨w.heap.size,4,none⟩,.int .i64 P0),(⟨w.heap.size,5,none⟩,.slice a1 n1 c1),(⟨w.heap.size,6,none⟩,.slice a2 n2 c2),(⟨w.heap.size,7,none⟩,.slice a3 n3 c3),(⟨w.heap.size,8,none⟩,.slice a4 n4 c4),(⟨w.heap.size,9,none⟩,.slice a5 n5 c5),(⟨w.heap.size,10,none⟩,.int .i64 S0),(⟨w.heap.size,11,none⟩,.string X2)] V) /\ V.cell? ⟨w.heap.size,0,none⟩ = some (.string X0) /\ V.cell? ⟨w.heap.size,1,none⟩ = some (.string X1) /\ V.cell? ⟨w.heap.size,2,none⟩ = some (.int .i64 N0) /\ V.cell? ⟨w.heap.size,3,none⟩ = some (.int .i64 N1) /\ V.cell? ⟨w.heap.size,4,none⟩ = some (.int .i64 P0) /\ V.cell? ⟨w.heap.size,5,none⟩ = some (.slice a1 n1 c1) /\ V.cell? ⟨w.heap.size,6,none⟩ = some (.slice a2 n2 c2) /\ V.cell? ⟨w.heap.size,7,none⟩ = some (.slice a3 n3 c3) /\ V.cell? ⟨w.heap.size,8,none⟩ = some (.slice a4 n4 c4) /\ V.cell? ⟨w.heap.size,9,none⟩ = some (.slice a5 n5 c5) /\ V.cell? ⟨w.heap.size,10,none⟩ = some (.int .i64 S0) /\ V.cell? ⟨w.heap.size,11,none⟩ = some (.string X2)) (by kernel_rfl) (unhide kdrew _ hS) (fun hHeld0 => ?_)
  refine takeH6 (i := 0) (d := 3) (v := ?_) rfl rfl (by kernel_rfl) (by kernel_rfl) (by kernel_rfl) (fun _ _ _ h => h) (Or.inl ⟨by rfl,?_⟩) (by assumption) ?_
  rotate_left
  · (intro W hSW; (try dsimp only at hSW); go_simp; try (with_reducible rfl))
  try simp only [Act.put,List.setIfInBounds_toArray,List.set_cons_zero,List.set_cons_succ]
  refine takeH6 (i := 1) (d := 4) (v := ?_) rfl rfl (by kernel_rfl) (by kernel_rfl) (by kernel_rfl) (fun _ _ _ h => h) (Or.inl ⟨by rfl,?_⟩) (by assumption) ?_
  rotate_left
  · (intro W hSW; (try dsimp only at hSW); go_simp; try (with_reducible rfl))
  try simp only [Act.put,List.setIfInBounds_toArray,List.set_cons_zero,List.set_cons_succ]
  refine takeH6 (i := 2) (d := 5) (v := ?_) rfl rfl (by kernel_rfl) (by kernel_rfl) (by kernel_rfl) (fun _ _ _ h => h) (Or.inl ⟨by rfl,?_⟩) (by assumption) ?_
  rotate_left
  · (intro W hSW; (try dsimp only at hSW); go_simp; try (with_reducible rfl))
  try simp only [Act.put,List.setIfInBounds_toArray,List.set_cons_zero,List.set_cons_succ]
  refine takeH6 (i := 3) (d := 6) (v := ?_) rfl rfl (by kernel_rfl) (by kernel_rfl) (by kernel_rfl) (fun _ _ _ h => h) (Or.inl ⟨by rfl,?_⟩) (by assumption) ?_
  rotate_left
  · (intro W hSW; (try dsimp only at hSW); go_simp; try (with_reducible rfl))
  try simp only [Act.put,List.setIfInBounds_toArray,List.set_cons_zero,List.set_cons_succ]
  refine takeH6 (i := 7) (d := 10) (v := ?_) rfl rfl (by kernel_rfl) (by kernel_rfl) (by kernel_rfl) (fun _ _ _ h => h) (Or.inl ⟨by rfl,?_⟩) (by assumption) ?_
  rotate_left
  · (intro W hSW; (try dsimp only at hSW); go_simp; try (with_reducible rfl))
  try simp only [Act.put,List.setIfInBounds_toArray,List.set_cons_zero,List.set_cons_succ]
  refine takeH6 (i := 8) (d := 11) (v := ?_) rfl rfl (by kernel_rfl) (by kernel_rfl) (by kernel_rfl) (fun _ _ _ h => h) (Or.inl ⟨by rfl,?_⟩) (by assumption) ?_
  rotate_left
  · (intro W hSW; (try dsimp only at hSW); go_simp; try (with_reducible rfl))
  try simp only [Act.put,List.setIfInBounds_toArray,List.set_cons_zero,List.set_cons_succ]
  refine takeH6 (i := 10) (d := 13) (v := ?_) rfl rfl (by kernel_rfl) (by kernel_rfl) (by kernel_rfl) (fun _ _ _ h => h) (Or.inl ⟨by rfl,?_⟩) (by assumption) ?_
  rotate_left
  · (intro W hSW; (try dsimp only at hSW); go_simp; try (with_reducible rfl))
  try simp only [Act.put,List.setIfInBounds_toArray,List.set_cons_zero,List.set_cons_succ]
  refine takeH6 (i := 11) (d := 14) (v := ?_) rfl rfl (by kernel_rfl) (by kernel_rfl) (by kernel_rfl) (fun _ _ _ h => h) (Or.inl ⟨by rfl,?_⟩) (by assumption) ?_
  rotate_left
  · (intro W hSW; (try dsimp only at hSW); go_simp; try (with_reducible rfl))
  try simp only [Act.put,List.setIfInBounds_toArray,List.set_cons_zero,List.set_cons_succ]
  refine takeH6 (i := 14) (d := 17) (v := ?_) rfl rfl (by kernel_rfl) (by kernel_rfl) (by kernel_rfl) (fun _ _ _ h => h) (Or.inl ⟨by rfl,?_⟩) (by assumption) ?_
  rotate_left
  · (intro W hSW; (try dsimp only at hSW); go_simp; try (with_reducible rfl))
  try simp only [Act.put,List.setIfInBounds_toArray,List.set_cons_zero,List.set_cons_succ]
  refine takeH6 (i := 15) (d := 18) (v := ?_) rfl rfl (by kernel_rfl) (by kernel_rfl) (by kernel_rfl) (fun _ _ _ h => h) (Or.inl ⟨by rfl,?_⟩) (by assumption) ?_
  rotate_left
  · (intro W hSW; (try dsimp only at hSW); go_simp; try (with_reducible rfl))
  try simp only [Act.put,List.setIfInBounds_toArray,List.set_cons_zero,List.set_cons_succ]
  refine takeH6 (i := 17) (d := 20) (v := ?_) rfl rfl (by kernel_rfl) (by kernel_rfl) (by kernel_rfl) (fun _ _ _ h => h) (Or.inl ⟨by rfl,?_⟩) (by assumption) ?_
  rotate_left
  · (intro W hSW; (try dsimp only at hSW); go_simp; try (with_reducible rfl))
  try simp only [Act.put,List.setIfInBounds_toArray,List.set_cons_zero,List.set_cons_succ]
  refine takeH6 (i := 18) (d := 21) (v := ?_) rfl rfl (by kernel_rfl) (by kernel_rfl) (by kernel_rfl) (fun _ _ _ h => h) (Or.inl ⟨by rfl,?_⟩) (by assumption) ?_
  rotate_left
  · (intro W hSW; (try dsimp only at hSW); go_simp; try (with_reducible rfl))
  try simp only [Act.put,List.setIfInBounds_toArray,List.set_cons_zero,List.set_cons_succ]
  refine takeH6 (i := 20) (d := 23) (v := ?_) rfl rfl (by kernel_rfl) (by kernel_rfl) (by kernel_rfl) (fun _ _ _ h => h) (Or.inl ⟨by rfl,?_⟩) (by assumption) ?_
  rotate_left
  · (intro W hSW; (try dsimp only at hSW); go_simp; try (with_reducible rfl))
  try simp only [Act.put,List.setIfInBounds_toArray,List.set_cons_zero,List.set_cons_succ]
  refine takeH6 (i := 21) (d := 24) (v := ?_) rfl rfl (by kernel_rfl) (by kernel_rfl) (by kernel_rfl) (fun _ _ _ h => h) (Or.inl ⟨by rfl,?_⟩) (by assumption) ?_
  rotate_left
  · (intro W hSW; (try dsimp only at hSW); go_simp; try (with_reducible rfl))
  try simp only [Act.put,List.setIfInBounds_toArray,List.set_cons_zero,List.set_cons_succ]
  refine takeH6 (i := 22) (d := 25) (v := ?_) rfl rfl (by kernel_rfl) (by kernel_rfl) (by kernel_rfl) (fun _ _ _ h => h) (Or.inl ⟨by rfl,?_⟩) (by assumption) ?_
  rotate_left
  · (intro W hSW; (try dsimp only at hSW); go_simp; try (with_reducible rfl))
  try simp only [Act.put,List.setIfInBounds_toArray,List.set_cons_zero,List.set_cons_succ]
  refine takeH6 (i := 23) (d := 26) (v := ?_) rfl rfl (by kernel_rfl) (by kernel_rfl) (by kernel_rfl) (fun _ _ _ h => h) (Or.inl ⟨by rfl,?_⟩) (by assumption) ?_
  rotate_left
  · (intro W hSW; (try dsimp only at hSW); go_simp; try (with_reducible rfl))
  try simp only [Act.put,List.setIfInBounds_toArray,List.set_cons_zero,List.set_cons_succ]
  refine takeH6 (i := 24) (d := 27) (v := ?_) rfl rfl (by kernel_rfl) (by kernel_rfl) (by kernel_rfl) (fun _ _ _ h => h) (Or.inl ⟨by rfl,?_⟩) (by assumption) ?_
  rotate_left
  · (intro W hSW; (try dsimp only at hSW); go_simp; try (with_reducible rfl))
  try simp only [Act.put,List.setIfInBounds_toArray,List.set_cons_zero,List.set_cons_succ]
  refine takeH6 (i := 25) (d := 28) (v := ?_) rfl rfl (by kernel_rfl) (by kernel_rfl) (by kernel_rfl) (fun _ _ _ h => h) (Or.inl ⟨by rfl,?_⟩) (by assumption) ?_
  rotate_left
  · (intro W hSW; (try dsimp only at hSW); go_simp; try (with_reducible rfl))
  try simp only [Act.put,List.setIfInBounds_toArray,List.set_cons_zero,List.set_cons_succ]
  refine takeH6 (i := 26) (d := 29) (v := ?_) rfl rfl (by kernel_rfl) (by kernel_rfl) (by kernel_rfl) (fun _ _ _ h => h) (Or.inl ⟨by rfl,?_⟩) (by assumption) ?_
  rotate_left
  · (intro W hSW; (try dsimp only at hSW); go_simp; try (with_reducible rfl))
  try simp only [Act.put,List.setIfInBounds_toArray,List.set_cons_zero,List.set_cons_succ]
  refine takeH6 (i := 27) (d := 30) (v := ?_) rfl rfl (by kernel_rfl) (by kernel_rfl) (by kernel_rfl) (fun _ _ _ h => h) (Or.inl ⟨by rfl,?_⟩) (by assumption) ?_
  rotate_left
  · (intro W hSW; (try dsimp only at hSW); go_simp; try (with_reducible rfl))
  try simp only [Act.put,List.setIfInBounds_toArray,List.set_cons_zero,List.set_cons_succ]
  refine takeH6 (i := 28) (d := 31) (v := ?_) rfl rfl (by kernel_rfl) (by kernel_rfl) (by kernel_rfl) (fun _ _ _ h => h) (Or.inl ⟨by rfl,?_⟩) (by assumption) ?_
  rotate_left
  · (intro W hSW; (try dsimp only at hSW); go_simp; try (with_reducible rfl))
  try simp only [Act.put,List.setIfInBounds_toArray,List.set_cons_zero,List.set_cons_succ]
  refine takeH6 (i := 29) (d := 32) (v := ?_) rfl rfl (by kernel_rfl) (by kernel_rfl) (by kernel_rfl) (fun _ _ _ h => h) (Or.inl ⟨by rfl,?_⟩) (by assumption) ?_
  rotate_left
  · (intro W hSW; (try dsimp only at hSW); go_simp; try (with_reducible rfl))
  try simp only [Act.put,List.setIfInBounds_toArray,List.set_cons_zero,List.set_cons_succ]
  refine takeH6 (i := 30) (d := 33) (v := ?_) rfl rfl (by kernel_rfl) (by kernel_rfl) (by kernel_rfl) (fun _ _ _ h => h) (Or.inl ⟨by rfl,?_⟩) (by assumption) ?_
  rotate_left
  · (intro W hSW; (try dsimp only at hSW); go_simp; try (with_reducible rfl))
  try simp only [Act.put,List.setIfInBounds_toArray,List.set_cons_zero,List.set_cons_succ]
  refine takeH6 (i := 32) (d := 35) (v := ?_) rfl rfl (by kernel_rfl) (by kernel_rfl) (by kernel_rfl) (fun _ _ _ h => h) (Or.inl ⟨by rfl,?_⟩) (by assumption) ?_
  rotate_left
  · (intro W hSW; (try dsimp only at hSW); go_simp; try (with_reducible rfl))
  try simp only [Act.put,List.setIfInBounds_toArray,List.set_cons_zero,List.set_cons_succ]
  refine takeH6 (i := 33) (d := 36) (v := ?_) rfl rfl (by kernel_rfl) (by kernel_rfl) (by kernel_rfl) (fun _ _ _ h => h) (Or.inl ⟨by rfl,?_⟩) (by assumption) ?_
  rotate_left
  · (intro W hSW; (try dsimp only at hSW); go_simp; try (with_reducible rfl))
  try simp only [Act.put,List.setIfInBounds_toArray,List.set_cons_zero,List.set_cons_succ]
  refine takeH6 (i := 35) (d := 38) (v := ?_) rfl rfl (by kernel_rfl) (by kernel_rfl) (by kernel_rfl) (fun _ _ _ h => h) (Or.inl ⟨by rfl,?_⟩) (by assumption) ?_
  rotate_left
  · (intro W hSW; (try dsimp only at hSW); go_simp; try (with_reducible rfl))
  try simp only [Act.put,List.setIfInBounds_toArray,List.set_cons_zero,List.set_cons_succ]
  refine takeH6 (i := 36) (d := 39) (v := ?_) rfl rfl (by kernel_rfl) (by kernel_rfl) (by kernel_rfl) (fun _ _ _ h => h) (Or.inl ⟨by rfl,?_⟩) (by assumption) ?_
  rotate_left
  · (intro W hSW; (try dsimp only at hSW); go_simp; try (with_reducible rfl))
  try simp only [Act.put,List.setIfInBounds_toArray,List.set_cons_zero,List.set_cons_succ]
  refine takeH6 (i := 38) (d := 41) (v := ?_) rfl rfl (by kernel_rfl) (by kernel_rfl) (by kernel_rfl) (fun _ _ _ h => h) (Or.inl ⟨by rfl,?_⟩) (by assumption) ?_
  rotate_left
  · (intro W hSW; (try dsimp only at hSW); go_simp; try (with_reducible rfl))
  try simp only [Act.put,List.setIfInBounds_toArray,List.set_cons_zero,List.set_cons_succ]
  refine takeH6 (i := 39) (d := 42) (v := ?_) rfl rfl (by kernel_rfl) (by kernel_rfl) (by kernel_rfl) (fun _ _ _ h => h) (Or.inl ⟨by rfl,?_⟩) (by assumption) ?_
  rotate_left
  · (intro W hSW; (try dsimp only at hSW); go_simp; try (with_reducible rfl))
  try simp only [Act.put,List.setIfInBounds_toArray,List.set_cons_zero,List.set_cons_succ]
  refine takeH6 (i := 41) (d := 44) (v := ?_) rfl rfl (by kernel_rfl) (by kernel_rfl) (by kernel_rfl) (fun _ _ _ h => h) (Or.inl ⟨by rfl,?_⟩) (by assumption) ?_
  rotate_left
  · (intro W hSW; (try dsimp only at hSW); go_simp; try (with_reducible rfl))
  try simp only [Act.put,List.setIfInBounds_toArray,List.set_cons_zero,List.set_cons_succ]
  refine takeH6 (i := 42) (d := 45) (v := ?_) rfl rfl (by kernel_rfl) (by kernel_rfl) (by kernel_rfl) (fun _ _ _ h => h) (Or.inl ⟨by rfl,?_⟩) (by assumption) ?_
  rotate_left
  · (intro W hSW; (try dsimp only at hSW); go_simp; try (with_reducible rfl))
  try simp only [Act.put,List.setIfInBounds_toArray,List.set_cons_zero,List.set_cons_succ]
  refine takeH6 (i := 45) (d := 48) (v := ?_) rfl rfl (by kernel_rfl) (by kernel_rfl) (by kernel_rfl) (fun _ _ _ h => h) (Or.inl ⟨by rfl,?_⟩) (by assumption) ?_
  rotate_left
  · (intro W hSW; (try dsimp only at hSW); go_simp; try (with_reducible rfl))
  try simp only [Act.put,List.setIfInBounds_toArray,List.set_cons_zero,List.set_cons_succ]
  refine takeH6 (i := 46) (d := 49) (v := ?_) rfl rfl (by kernel_rfl) (by kernel_rfl) (by kernel_rfl) (fun _ _ _ h => h) (Or.inl ⟨by rfl,?_⟩) (by assumption) ?_
  rotate_left
  · (intro W hSW; (try dsimp only at hSW); go_simp; try (with_reducible rfl))
  try simp only [Act.put,List.setIfInBounds_toArray,List.set_cons_zero,List.set_cons_succ]
  refine wpAnyH_ready (rs := [4]) (by kernel_rfl) (by simp) ?_
  refine AllReadyH.cons (o := _) rfl (fun K hK => ?_) AllReadyH.nil
  go_simp
  refine hK.out _ _ ?_ (fun hHeld1 => ?_)
  · (try dsimp only)
    (first | (with_reducible exact hS) | (with_reducible assumption) | (with_reducible refine unhide kdrew _ ?_; with_reducible assumption) | (with_reducible refine unhide kalloc _ _ ?_; with_reducible assumption) | (refine unhide kcall _ _ ?_ (by assumption); with_reducible assumption) | (with_reducible refine unhide kdrew _ (unhide kalloc _ _ ?_); with_reducible assumption) | (with_reducible refine unhide kalloc _ _ (unhide kdrew _ ?_); with_reducible assumption))
  clear hK K hHeld0
  try simp only [Act.put,List.setIfInBounds_toArray,List.set_cons_zero,List.set_cons_succ]
  refine wpAnyH_ready (rs := [5]) (by kernel_rfl) (by simp) ?_
  refine AllReadyH.cons (o := _) rfl (fun K hK => ?_) AllReadyH.nil
  go_simp
  (go_at_call 104; refine (unhide cNm _ _ (by simp [go_sem]) (by simp [go_sem])).mono ?_; rintro e w9 ⟨rfl,rfl⟩)
  refine hK.out _ _ ?_ (fun hHeld2 => ?_)
  · (try dsimp only)
    (first | (with_reducible exact hS) | (with_reducible assumption) | (with_reducible refine unhide kdrew _ ?_; with_reducible assumption) | (with_reducible refine unhide kalloc _ _ ?_; with_reducible assumption) | (refine unhide kcall _ _ ?_ (by assumption); with_reducible assumption) | (with_reducible refine unhide kdrew _ (unhide kalloc _ _ ?_); with_reducible assumption) | (with_reducible refine unhide kalloc _ _ (unhide kdrew _ ?_); with_reducible assumption))
  clear hK K hHeld1
  try simp only [Act.put,List.setIfInBounds_toArray,List.set_cons_zero,List.set_cons_succ]
  refine wpAnyH_ready (rs := [6]) (by kernel_rfl) (by simp) ?_
  refine AllReadyH.cons (o := _) rfl (fun K hK => ?_) AllReadyH.nil
  go_simp
  (go_at_call 103; refine (unhide cU1 _ _ _ (by rfl) (by rfl)).mono ?_; rintro e w9 ⟨rfl,rfl⟩)
  refine hK.out _ _ ?_ (fun hHeld3 => ?_)
  · (try dsimp only)
    (first | (with_reducible exact hS) | (with_reducible assumption) | (with_reducible refine unhide kdrew _ ?_; with_reducible assumption) | (with_reducible refine unhide kalloc _ _ ?_; with_reducible assumption) | (refine unhide kcall _ _ ?_ (by assumption); with_reducible assumption) | (with_reducible refine unhide kdrew _ (unhide kalloc _ _ ?_); with_reducible assumption) | (with_reducible refine unhide kalloc _ _ (unhide kdrew _ ?_); with_reducible assumption))
  clear hK K hHeld2
  try simp only [Act.put,List.setIfInBounds_toArray,List.set_cons_zero,List.set_cons_succ]
  refine wpAnyH_ready (rs := [9]) (by kernel_rfl) (by simp) ?_
  refine AllReadyH.cons (o := _) rfl (fun K hK => ?_) AllReadyH.nil
  go_simp
  (go_at_call 105; refine (unhide k2 _).mono ?_; rintro e w9 ⟨rfl,hw9⟩)
  refine hK.out _ _ ?_ (fun hHeld4 => ?_)
  · (try dsimp only)
    (first | (with_reducible exact hS) | (with_reducible assumption) | (with_reducible refine unhide kdrew _ ?_; with_reducible assumption) | (with_reducible refine unhide kalloc _ _ ?_; with_reducible assumption) | (refine unhide kcall _ _ ?_ (by assumption); with_reducible assumption) | (with_reducible refine unhide kdrew _ (unhide kalloc _ _ ?_); with_reducible assumption) | (with_reducible refine unhide kalloc _ _ (unhide kdrew _ ?_); with_reducible assumption))
  clear hK K hHeld3 hw9
  try simp only [Act.put,List.setIfInBounds_toArray,List.set_cons_zero,List.set_cons_succ]
  refine wpAnyH_ready (rs := [12]) (by kernel_rfl) (by simp) ?_
  refine AllReadyH.cons (o := _) rfl (fun K hK => ?_) AllReadyH.nil
  go_simp
  (go_at_call 106; refine (btw_any _ _ _ _).mono ?_; rintro e w9 ⟨rfl,rfl⟩)
  refine hK.out _ _ ?_ (fun hHeld5 => ?_)
  · (try dsimp only)
    (first | (with_reducible exact hS) | (with_reducible assumption) | (with_reducible refine unhide kdrew _ ?_; with_reducible assumption) | (with_reducible refine unhide kalloc _ _ ?_; with_reducible assumption) | (refine unhide kcall _ _ ?_ (by assumption); with_reducible assumption) | (with_reducible refine unhide kdrew _ (unhide kalloc _ _ ?_); with_reducible assumption) | (with_reducible refine unhide kalloc _ _ (unhide kdrew _ ?_); with_reducible assumption))
  clear hK K hHeld4
  try simp only [Act.put,List.setIfInBounds_toArray,List.set_cons_zero,List.set_cons_succ]
  refine wpAnyH_ready (rs := [13]) (by kernel_rfl) (by simp) ?_
  refine AllReadyH.cons (o := _) rfl (fun K hK => ?_) AllReadyH.nil
  go_simp
  (go_at_call 103; refine (unhide cU3 _ _ _ (by rfl) (by rfl)).mono ?_; rintro e w9 ⟨rfl,rfl⟩)
  refine hK.out _ _ ?_ (fun hHeld6 => ?_)
  · (try dsimp only)
    (first | (with_reducible exact hS) | (with_reducible assumption) | (with_reducible refine unhide kdrew _ ?_; with_reducible assumption) | (with_reducible refine unhide kalloc _ _ ?_; with_reducible assumption) | (refine unhide kcall _ _ ?_ (by assumption); with_reducible assumption) | (with_reducible refine unhide kdrew _ (unhide kalloc _ _ ?_); with_reducible assumption) | (with_reducible refine unhide kalloc _ _ (unhide kdrew _ ?_); with_reducible assumption))
  clear hK K hHeld5
  try simp only [Act.put,List.setIfInBounds_toArray,List.set_cons_zero,List.set_cons_succ]
  refine wpAnyH_ready (rs := [16]) (by kernel_rfl) (by simp) ?_
  refine AllReadyH.cons (o := _) rfl (fun K hK => ?_) AllReadyH.nil
  go_simp
  (go_at_call 107; with_reducible refine (unhide k4 _ ?_).mono ?_; with_reducible assumption; rintro e w9 ⟨rfl,hw9⟩)
  refine hK.out _ _ ?_ (fun hHeld7 => ?_)
  · (try dsimp only)
    (first | (with_reducible exact hS) | (with_reducible assumption) | (with_reducible refine unhide kdrew _ ?_; with_reducible assumption) | (with_reducible refine unhide kalloc _ _ ?_; with_reducible assumption) | (refine unhide kcall _ _ ?_ (by assumption); with_reducible assumption) | (with_reducible refine unhide kdrew _ (unhide kalloc _ _ ?_); with_reducible assumption) | (with_reducible refine unhide kalloc _ _ (unhide kdrew _ ?_); with_reducible assumption))
  clear hK K hHeld6 hw9
  try simp only [Act.put,List.setIfInBounds_toArray,List.set_cons_zero,List.set_cons_succ]
  refine wpAnyH_ready (rs := [19]) (by kernel_rfl) (by simp) ?_
  refine AllReadyH.cons (o := _) rfl (fun K hK => ?_) AllReadyH.nil
  go_simp
  (go_at_call 108; with_reducible refine (unhide k5 _ ?_).mono ?_; with_reducible assumption; rintro e w9 ⟨rfl,hw9⟩)
  refine hK.out _ _ ?_ (fun hHeld8 => ?_)
  · (try dsimp only)
    (first | (with_reducible exact hS) | (with_reducible assumption) | (with_reducible refine unhide kdrew _ ?_; with_reducible assumption) | (with_reducible refine unhide kalloc _ _ ?_; with_reducible assumption) | (refine unhide kcall _ _ ?_ (by assumption); with_reducible assumption) | (with_reducible refine unhide kdrew _ (unhide kalloc _ _ ?_); with_reducible assumption) | (with_reducible refine unhide kalloc _ _ (unhide kdrew _ ?_); with_reducible assumption))
  clear hK K hHeld7 hw9
  try simp only [Act.put,List.setIfInBounds_toArray,List.set_cons_zero,List.set_cons_succ]
  refine wpAnyH_ready (rs := [31]) (by kernel_rfl) (by simp) ?_
  refine AllReadyH.cons (o := _) rfl (fun K hK => ?_) AllReadyH.nil
  go_simp
  (go_at_call 103; refine (unhide cU6 _ _ _ (by rfl) (by rfl)).mono ?_; rintro e w9 ⟨rfl,rfl⟩)
  refine hK.out _ _ ?_ (fun hHeld9 => ?_)
  · (try dsimp only)
    (first | (with_reducible exact hS) | (with_reducible assumption) | (with_reducible refine unhide kdrew _ ?_; with_reducible assumption) | (with_reducible refine unhide kalloc _ _ ?_; with_reducible assumption) | (refine unhide kcall _ _ ?_ (by assumption); with_reducible assumption) | (with_reducible refine unhide kdrew _ (unhide kalloc _ _ ?_); with_reducible assumption) | (with_reducible refine unhide kalloc _ _ (unhide kdrew _ ?_); with_reducible assumption))
  clear hK K hHeld8
  try simp only [Act.put,List.setIfInBounds_toArray,List.set_cons_zero,List.set_cons_succ]
  refine wpAnyH_ready (rs := [34]) (by kernel_rfl) (by simp) ?_
  refine AllReadyH.cons (o := _) rfl (fun K hK => ?_) AllReadyH.nil
  go_simp
  (go_at_call 109; with_reducible refine (unhide k7 _ ?_).mono ?_; with_reducible assumption; rintro e w9 ⟨rfl,hw9⟩)
  refine hK.out _ _ ?_ (fun hHeld10 => ?_)
  · (try dsimp only)
    (first | (with_reducible exact hS) | (with_reducible assumption) | (with_reducible refine unhide kdrew _ ?_; with_reducible assumption) | (with_reducible refine unhide kalloc _ _ ?_; with_reducible assumption) | (refine unhide kcall _ _ ?_ (by assumption); with_reducible assumption) | (with_reducible refine unhide kdrew _ (unhide kalloc _ _ ?_); with_reducible assumption) | (with_reducible refine unhide kalloc _ _ (unhide kdrew _ ?_); with_reducible assumption))
  clear hK K hHeld9 hw9
  try simp only [Act.put,List.setIfInBounds_toArray,List.set_cons_zero,List.set_cons_succ]
  refine wpAnyH_ready (rs := [37]) (by kernel_rfl) (by simp) ?_
  refine AllReadyH.cons (o := _) rfl (fun K hK => ?_) AllReadyH.nil
  go_simp
  (go_at_call 110; refine (unhide k8 _ _ ?_ (by rfl)).mono ?_; with_reducible assumption; rintro e w9 ⟨rfl,hw9⟩)
  refine hK.out _ _ ?_ (fun hHeld11 => ?_)
  · (try dsimp only)
    (first | (with_reducible exact hS) | (with_reducible assumption) | (with_reducible refine unhide kdrew _ ?_; with_reducible assumption) | (with_reducible refine unhide kalloc _ _ ?_; with_reducible assumption) | (refine unhide kcall _ _ ?_ (by assumption); with_reducible assumption) | (with_reducible refine unhide kdrew _ (unhide kalloc _ _ ?_); with_reducible assumption) | (with_reducible refine unhide kalloc _ _ (unhide kdrew _ ?_); with_reducible assumption))
  clear hK K hHeld10 hw9
  try simp only [Act.put,List.setIfInBounds_toArray,List.set_cons_zero,List.set_cons_succ]
  refine wpAnyH_ready (rs := [40]) (by kernel_rfl) (by simp) ?_
  refine AllReadyH.cons (o := _) rfl (fun K hK => ?_) AllReadyH.nil
  go_simp
  (go_at_call 110; refine (unhide k9 _ _ ?_ (by rfl)).mono ?_; with_reducible assumption; rintro e w9 ⟨rfl,hw9⟩)
  refine hK.out _ _ ?_ (fun hHeld12 => ?_)
  · (try dsimp only)
    (first | (with_reducible exact hS) | (with_reducible assumption) | (with_reducible refine unhide kdrew _ ?_; with_reducible assumption) | (with_reducible refine unhide kalloc _ _ ?_; with_reducible assumption) | (refine unhide kcall _ _ ?_ (by assumption); with_reducible assumption) | (with_reducible refine unhide kdrew _ (unhide kalloc _ _ ?_); with_reducible assumption) | (with_reducible refine unhide kalloc _ _ (unhide kdrew _ ?_); with_reducible assumption))
  clear hK K hHeld11 hw9
  try simp only [Act.put,List.setIfInBounds_toArray,List.set_cons_zero,List.set_cons_succ]
  refine wpAnyH_ready (rs := [43]) (by kernel_rfl) (by simp) ?_
  refine AllReadyH.cons (o := _) rfl (fun K hK => ?_) AllReadyH.nil
  go_simp
  (go_at_call 111; refine (time_any _ _).mono ?_; rintro e w9 ⟨rfl,rfl⟩)
  refine hK.out _ _ ?_ (fun hHeld13 => ?_)
  · (try dsimp only)
    (first | (with_reducible exact hS) | (with_reducible assumption) | (with_reducible refine unhide kdrew _ ?_; with_reducible assumption) | (with_reducible refine unhide kalloc _ _ ?_; with_reducible assumption) | (refine unhide kcall _ _ ?_ (by assumption); with_reducible assumption) | (with_reducible refine unhide kdrew _ (unhide kalloc _ _ ?_); with_reducible assumption) | (with_reducible refine unhide kalloc _ _ (unhide kdrew _ ?_); with_reducible assumption))
  clear hK K hHeld12
  try simp only [Act.put,List.setIfInBounds_toArray,List.set_cons_zero,List.set_cons_succ]
  refine wpAnyH_ready (rs := [44]) (by kernel_rfl) (by simp) ?_
  refine AllReadyH.cons (o := _) rfl (fun K hK => ?_) AllReadyH.nil
  go_simp
  (go_at_call 103; refine (unhide cU10 _ _ _ (by rfl) (by rfl)).mono ?_; rintro e w9 ⟨rfl,rfl⟩)
  refine hK.out _ _ ?_ (fun hHeld14 => ?_)
  · (try dsimp only)
    (first | (with_reducible exact hS) | (with_reducible assumption) | (with_reducible refine unhide kdrew _ ?_; with_reducible assumption) | (with_reducible refine unhide kalloc _ _ ?_; with_reducible assumption) | (refine unhide kcall _ _ ?_ (by assumption); with_reducible assumption) | (with_reducible refine unhide kdrew _ (unhide kalloc _ _ ?_); with_reducible assumption) | (with_reducible refine unhide kalloc _ _ (unhide kdrew _ ?_); with_reducible assumption))
  clear hK K hHeld13
  try simp only [Act.put,List.setIfInBounds_toArray,List.set_cons_zero,List.set_cons_succ]
  refine wpAnyH_ready (rs := [47]) (by kernel_rfl) (by simp) ?_
  refine AllReadyH.cons (o := _) rfl (fun K hK => ?_) AllReadyH.nil
  go_simp
  (go_at_call 112; refine (unhide cOn _).mono ?_; rintro e w9 ⟨rfl,rfl⟩)
  refine hK.out _ _ ?_ (fun hHeld15 => ?_)
  · (try dsimp only)
    (first | (with_reducible exact hS) | (with_reducible assumption) | (with_reducible refine unhide kdrew _ ?_; with_reducible assumption) | (with_reducible refine unhide kalloc _ _ ?_; with_reducible assumption) | (refine unhide kcall _ _ ?_ (by assumption); with_reducible assumption) | (with_reducible refine unhide kdrew _ (unhide kalloc _ _ ?_); with_reducible assumption) | (with_reducible refine unhide kalloc _ _ (unhide kdrew _ ?_); with_reducible assumption))
  clear hK K hHeld14
  try simp only [Act.put,List.setIfInBounds_toArray,List.set_cons_zero,List.set_cons_succ]
  refine wpAnyH_ready (rs := [48]) (by kernel_rfl) (by simp) ?_
  refine AllReadyH.cons (o := _) rfl (fun K hK => ?_) AllReadyH.nil
  go_simp
  (go_at_call 103; refine (unhide cU11 _ _ _ (by rfl) (by rfl)).mono ?_; rintro e w9 ⟨rfl,rfl⟩)
  refine hK.out _ _ ?_ (fun hHeld16 => ?_)
  · (try dsimp only)
    (first | (with_reducible exact hS) | (with_reducible assumption) | (with_reducible refine unhide kdrew _ ?_; with_reducible assumption) | (with_reducible refine unhide kalloc _ _ ?_; with_reducible assumption) | (refine unhide kcall _ _ ?_ (by assumption); with_reducible assumption) | (with_reducible refine unhide kdrew _ (unhide kalloc _ _ ?_); with_reducible assumption) | (with_reducible refine unhide kalloc _ _ (unhide kdrew _ ?_); with_reducible assumption))
  clear hK K hHeld15
  try simp only [Act.put,List.setIfInBounds_toArray,List.set_cons_zero,List.set_cons_succ]
  refine wpAnyH_ready (rs := [49]) (by kernel_rfl) (by simp) ?_
  refine AllReadyH.cons (o := _) rfl (fun K hK => ?_) AllReadyH.nil
  go_simp
  refine hK.out _ _ ?_ (fun hHeld17 => ?_)
  · (try dsimp only)
    (first | (with_reducible exact hS) | (with_reducible assumption) | (with_reducible refine unhide kdrew _ ?_; with_reducible assumption) | (with_reducible refine unhide kalloc _ _ ?_; with_reducible assumption) | (refine unhide kcall _ _ ?_ (by assumption); with_reducible assumption) | (with_reducible refine unhide kdrew _ (unhide kalloc _ _ ?_); with_reducible assumption) | (with_reducible refine unhide kalloc _ _ (unhide kdrew _ ?_); with_reducible assumption))
  clear hK K hHeld16
  try simp only [Act.put,List.setIfInBounds_toArray,List.set_cons_zero,List.set_cons_succ]
  refine wpAnyH_ready (rs := [50]) (by kernel_rfl) (by simp) ?_
  refine AllReadyH.cons (o := _) rfl (fun K hK => ?_) AllReadyH.nil
  go_simp
  (go_at_call 102; refine (unhide cOr _ _ (by simp [go_sem]) (by simp [go_sem]) (by simp [go_sem]) (by simp [go_sem]) (by simp [go_sem]) (by simp [go_sem]) (by simp [go_sem]) (by simp [go_sem]) (by simp [go_sem]) (by simp [go_sem]) (by simp [go_sem])).mono ?_; rintro e w9 ⟨rfl,rfl⟩)
  refine hK.out _ _ ?_ (fun hHeld18 => ?_)
  · (try dsimp only)
    (first | (with_reducible exact hS) | (with_reducible assumption) | (with_reducible refine unhide kdrew _ ?_; with_reducible assumption) | (with_reducible refine unhide kalloc _ _ ?_; with_reducible assumption) | (refine unhide kcall _ _ ?_ (by assumption); with_reducible assumption) | (with_reducible refine unhide kdrew _ (unhide kalloc _ _ ?_); with_reducible assumption) | (with_reducible refine unhide kalloc _ _ (unhide kdrew _ ?_); with_reducible assumption))
  clear hK K hHeld17
  try simp only [Act.put,List.setIfInBounds_toArray,List.set_cons_zero,List.set_cons_succ]
  refine takeH6 (i := 51) (d := 2) (v := ?_) rfl rfl (by kernel_rfl) (by kernel_rfl) (by kernel_rfl) (fun _ _ _ h => h) (Or.inl ⟨by rfl,?_⟩) (by assumption) ?_
  rotate_left
  · (intro W hSW; (try dsimp only at hSW); go_simp; try (with_reducible rfl))
  try simp only [Act.put,List.setIfInBounds_toArray,List.set_cons_zero,List.set_cons_succ]
  refine wpAnyH_done (by kernel_rfl) ?_ _
  refine NoPanic.normal ?_
  have hHeld := hHeld18
  clear hHeld18
  go_wp2_with fail
  go_ret
  exact ⟨rfl,(unhide hHeld.1).gr⟩
end Go.Proofs.YtfpfdnapamdhjaaGreatDoor
