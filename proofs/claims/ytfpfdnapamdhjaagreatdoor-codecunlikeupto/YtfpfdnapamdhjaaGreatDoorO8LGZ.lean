/- Layer 8: the program's Command -/
import Derived.Test.YtfpfdnapamdhjaaGreatDoorO8EGZ
namespace Go.Proofs.YtfpfdnapamdhjaaGreatDoor
open Go.RowKit Suf Val

set_option maxRecDepth 100000 in
set_option maxHeartbeats 64000000 in
theorem pcmd_any (p : VCmd) (u1 u2 : Value) (w : World) (h : CmdIn w p u1 u2) :
    Calls Tryz.prog 66 #[cmdA p u1 u2] w fun e w' => e = .returned (.int .i64 (cmdR p)) /\ Below w.heap.size w w' := by
  have hR : Hid (cmdR p = orE [unl (btwB 1 p.cause 4) 1,unl (btwB 1 p.step 3) 1,nodesR p.nodes,unl (timeB p.til) 1,unl (onB p.fresh && onB p.pool) 7,offsR8 p.opts]) := rfl
  obtain ⟨R,hRR⟩ : ∃ R,R = cmdR p := ⟨_,rfl⟩
  rw [<- hRR] at hR ⊢
  clear hRR
  have kF : Hid (∀ V vv,vv = .string (bytesT p.fresh) -> Calls Tryz.prog 112 #[vv] V fun e w' => e = .returned (.bool (onB p.fresh)) /\ w' = V) := fun V vv e => by rw [e]; exact onone_any _ h.n1 V
  have kP : Hid (∀ V vv,vv = .string (bytesT p.pool) -> Calls Tryz.prog 112 #[vv] V fun e w' => e = .returned (.bool (onB p.pool)) /\ w' = V) := fun V vv e => by rw [e]; exact onone_any _ h.n2 V
  have hq1 := h.nd
  have hq2 := h.ops
  obtain ⟨a1,c1,hu1⟩ := h.nd.val
  obtain ⟨n1,hn1⟩ : ∃ n,n = p.nodes.length := ⟨_,rfl⟩
  obtain ⟨a2,c2,hu2⟩ := h.ops.val
  obtain ⟨n2,hn2⟩ : ∃ n,n = p.opts.length := ⟨_,rfl⟩
  unfold cmdA
  rw [hu1,hu2]
  rw [hu1,<- hn1] at hq1
  rw [hu2,<- hn2] at hq2
  rw [<- hn1,<- hn2]
  clear hu1 hu2 h
  obtain ⟨z3,hz3⟩ : ∃ z,z = nodesR p.nodes := ⟨_,rfl⟩
  obtain ⟨z6,hz6⟩ : ∃ z,z = offsR8 p.opts := ⟨_,rfl⟩
  obtain ⟨qf,hqf⟩ : ∃ z,z = onB p.fresh := ⟨_,rfl⟩
  obtain ⟨qp,hqp⟩ : ∃ z,z = onB p.pool := ⟨_,rfl⟩
  obtain ⟨X0,hX0⟩ : ∃ z,z = bytesT p.fresh := ⟨_,rfl⟩
  obtain ⟨X1,hX1⟩ : ∃ z,z = bytesT p.pool := ⟨_,rfl⟩
  obtain ⟨C0,hC0⟩ : ∃ z,z = p.cause := ⟨_,rfl⟩
  obtain ⟨T0,hT0⟩ : ∃ z,z = p.step := ⟨_,rfl⟩
  obtain ⟨U0,hU0⟩ : ∃ z,z = p.til := ⟨_,rfl⟩
  obtain ⟨D0,hD0⟩ : ∃ z,z = p.made := ⟨_,rfl⟩
  rw [<- hz3,<- hz6,<- hqf,<- hqp,<- hC0,<- hT0,<- hU0] at hR
  rw [<- hqf,<- hX0] at kF
  rw [<- hqp,<- hX1] at kP
  rw [<- hX0,<- hX1,<- hC0,<- hT0,<- hU0,<- hD0]
  obtain ⟨z1,hz1⟩ : ∃ z,z = unl (btwB 1 C0 4) 1 := ⟨_,rfl⟩
  obtain ⟨z2,hz2⟩ : ∃ z,z = unl (btwB 1 T0 3) 1 := ⟨_,rfl⟩
  obtain ⟨z4,hz4⟩ : ∃ z,z = unl (timeB U0) 1 := ⟨_,rfl⟩
  obtain ⟨z5,hz5⟩ : ∃ z,z = unl (qf && qp) 7 := ⟨_,rfl⟩
  rw [<- hz1,<- hz2,<- hz4,<- hz5] at hR
  have cU1 : Hid (∀ V bb ee,bb = .bool (btwB 1 C0 4) -> ee = .int .i64 1 -> Calls Tryz.prog 103 #[bb,ee] V fun r w' => r = .returned (.int .i64 z1) /\ w' = V) := fun V bb ee e1 e2 => by rw [e1,e2,hz1]; exact unless_any (btwB 1 C0 4) 1 V
  have cU2 : Hid (∀ V bb ee,bb = .bool (btwB 1 T0 3) -> ee = .int .i64 1 -> Calls Tryz.prog 103 #[bb,ee] V fun r w' => r = .returned (.int .i64 z2) /\ w' = V) := fun V bb ee e1 e2 => by rw [e1,e2,hz2]; exact unless_any (btwB 1 T0 3) 1 V
  have cU4 : Hid (∀ V bb ee,bb = .bool (timeB U0) -> ee = .int .i64 1 -> Calls Tryz.prog 103 #[bb,ee] V fun r w' => r = .returned (.int .i64 z4) /\ w' = V) := fun V bb ee e1 e2 => by rw [e1,e2,hz4]; exact unless_any (timeB U0) 1 V
  have cOr : Hid (∀ V B,V.cell? ⟨B,0,none⟩ = some (.int .i64 z1) -> V.cell? ⟨B,1,none⟩ = some (.int .i64 z2) -> V.cell? ⟨B,2,none⟩ = some (.int .i64 z3) -> V.cell? ⟨B,3,none⟩ = some (.int .i64 z4) -> V.cell? ⟨B,4,none⟩ = some (.int .i64 z5) -> V.cell? ⟨B,5,none⟩ = some (.int .i64 z6) -> Calls Tryz.prog 102 #[.slice (some ⟨B,0,none⟩) 6 6] V fun r w' => r = .returned (.int .i64 R) /\ w' = V) := fun V B g0 g1 g2 g3 g4 g5 => by rw [unhide hR]; exact or8_6 z1 z2 z3 z4 z5 z6 g0 g1 g2 g3 g4 g5
  have G (V : World) (h : HeldS w [(⟨w.heap.size,0,none⟩,.int .i64 C0),(⟨w.heap.size,1,none⟩,.slice a1 n1 c1),(⟨w.heap.size,2,none⟩,.int .i64 T0),(⟨w.heap.size,3,none⟩,.int .i64 U0),(⟨w.heap.size,4,none⟩,.string X0),(⟨w.heap.size,5,none⟩,.string X1),(⟨w.heap.size,6,none⟩,.slice a2 n2 c2),(⟨w.heap.size,7,none⟩,.bool D0)] V) : Below w.heap.size w V := h.gr
  have k3 : Hid (∀ V,(Hid (HeldS w [(⟨w.heap.size,0,none⟩,.int .i64 C0),(⟨w.heap.size,1,none⟩,.slice a1 n1 c1),(⟨w.heap.size,2,none⟩,.int .i64 T0),(⟨w.heap.size,3,none⟩,.int .i64 U0),(⟨w.heap.size,4,none⟩,.string X0),(⟨w.heap.size,5,none⟩,.string X1),(⟨w.heap.size,6,none⟩,.slice a2 n2 c2),(⟨w.heap.size,7,none⟩,.bool D0)] V) /\ V.cell? ⟨w.heap.size,0,none⟩ = some (.int .i64 C0) /\ V.cell? ⟨w.heap.size,1,none⟩ = some (.slice a1 n1 c1) /\ V.cell? ⟨w.heap.size,2,none⟩ = some (.int .i64 T0) /\ V.cell? ⟨w.heap.size,3,none⟩ = some (.int .i64 U0) /\ V.cell? ⟨w.heap.size,4,none⟩ = some (.string X0) /\ V.cell? ⟨w.heap.size,5,none⟩ = some (.string X1) /\ V.cell? ⟨w.heap.size,6,none⟩ = some (.slice a2 n2 c2) /\ V.cell? ⟨w.heap.size,7,none⟩ = some (.bool D0)) -> Calls Tryz.prog 118 #[.slice a1 n1 c1] V fun e w' => e = .returned (.int .i64 z3) /\ Below V.heap.size V w') := fun V hs => by rw [hz3]; exact pnodes_any _ _ V (hq1.below (G V (unhide hs.1)))
  have k6 : Hid (∀ V,(Hid (HeldS w [(⟨w.heap.size,0,none⟩,.int .i64 C0),(⟨w.heap.size,1,none⟩,.slice a1 n1 c1),(⟨w.heap.size,2,none⟩,.int .i64 T0),(⟨w.heap.size,3,none⟩,.int .i64 U0),(⟨w.heap.size,4,none⟩,.string X0),(⟨w.heap.size,5,none⟩,.string X1),(⟨w.heap.size,6,none⟩,.slice a2 n2 c2),(⟨w.heap.size,7,none⟩,.bool D0)] V) /\ V.cell? ⟨w.heap.size,0,none⟩ = some (.int .i64 C0) /\ V.cell? ⟨w.heap.size,1,none⟩ = some (.slice a1 n1 c1) /\ V.cell? ⟨w.heap.size,2,none⟩ = some (.int .i64 T0) /\ V.cell? ⟨w.heap.size,3,none⟩ = some (.int .i64 U0) /\ V.cell? ⟨w.heap.size,4,none⟩ = some (.string X0) /\ V.cell? ⟨w.heap.size,5,none⟩ = some (.string X1) /\ V.cell? ⟨w.heap.size,6,none⟩ = some (.slice a2 n2 c2) /\ V.cell? ⟨w.heap.size,7,none⟩ = some (.bool D0)) -> Calls Tryz.prog 117 #[.slice a2 n2 c2] V fun e w' => e = .returned (.int .i64 z6) /\ Below V.heap.size V w') := fun V hs => by rw [hz6]; exact poffers_any _ _ V (hq2.below (G V (unhide hs.1)))
  clear hn1 hn2 hz3 hz6 hqf hqp hX0 hX1 hC0 hT0 hU0 hD0 hz1 hz2 hz4 hq1 hq2 G hR
  have sall : Hid (∀ V,HeldS w [(⟨w.heap.size,0,none⟩,.int .i64 C0),(⟨w.heap.size,1,none⟩,.slice a1 n1 c1),(⟨w.heap.size,2,none⟩,.int .i64 T0),(⟨w.heap.size,3,none⟩,.int .i64 U0),(⟨w.heap.size,4,none⟩,.string X0),(⟨w.heap.size,5,none⟩,.string X1),(⟨w.heap.size,6,none⟩,.slice a2 n2 c2),(⟨w.heap.size,7,none⟩,.bool D0)] V -> Hid (HeldS w [(⟨w.heap.size,0,none⟩,.int .i64 C0),(⟨w.heap.size,1,none⟩,.slice a1 n1 c1),(⟨w.heap.size,2,none⟩,.int .i64 T0),(⟨w.heap.size,3,none⟩,.int .i64 U0),(⟨w.heap.size,4,none⟩,.string X0),(⟨w.heap.size,5,none⟩,.string X1),(⟨w.heap.size,6,none⟩,.slice a2 n2 c2),(⟨w.heap.size,7,none⟩,.bool D0)] V) /\ V.cell? ⟨w.heap.size,0,none⟩ = some (.int .i64 C0) /\ V.cell? ⟨w.heap.size,1,none⟩ = some (.slice a1 n1 c1) /\ V.cell? ⟨w.heap.size,2,none⟩ = some (.int .i64 T0) /\ V.cell? ⟨w.heap.size,3,none⟩ = some (.int .i64 U0) /\ V.cell? ⟨w.heap.size,4,none⟩ = some (.string X0) /\ V.cell? ⟨w.heap.size,5,none⟩ = some (.string X1) /\ V.cell? ⟨w.heap.size,6,none⟩ = some (.slice a2 n2 c2) /\ V.cell? ⟨w.heap.size,7,none⟩ = some (.bool D0)) := fun V h => ⟨h,h.at 0 rfl,h.at 1 rfl,h.at 2 rfl,h.at 3 rfl,h.at 4 rfl,h.at 5 rfl,h.at 6 rfl,h.at 7 rfl⟩
  have kdrew : Hid (∀ V,(Hid (HeldS w [(⟨w.heap.size,0,none⟩,.int .i64 C0),(⟨w.heap.size,1,none⟩,.slice a1 n1 c1),(⟨w.heap.size,2,none⟩,.int .i64 T0),(⟨w.heap.size,3,none⟩,.int .i64 U0),(⟨w.heap.size,4,none⟩,.string X0),(⟨w.heap.size,5,none⟩,.string X1),(⟨w.heap.size,6,none⟩,.slice a2 n2 c2),(⟨w.heap.size,7,none⟩,.bool D0)] V) /\ V.cell? ⟨w.heap.size,0,none⟩ = some (.int .i64 C0) /\ V.cell? ⟨w.heap.size,1,none⟩ = some (.slice a1 n1 c1) /\ V.cell? ⟨w.heap.size,2,none⟩ = some (.int .i64 T0) /\ V.cell? ⟨w.heap.size,3,none⟩ = some (.int .i64 U0) /\ V.cell? ⟨w.heap.size,4,none⟩ = some (.string X0) /\ V.cell? ⟨w.heap.size,5,none⟩ = some (.string X1) /\ V.cell? ⟨w.heap.size,6,none⟩ = some (.slice a2 n2 c2) /\ V.cell? ⟨w.heap.size,7,none⟩ = some (.bool D0)) -> Hid (HeldS w [(⟨w.heap.size,0,none⟩,.int .i64 C0),(⟨w.heap.size,1,none⟩,.slice a1 n1 c1),(⟨w.heap.size,2,none⟩,.int .i64 T0),(⟨w.heap.size,3,none⟩,.int .i64 U0),(⟨w.heap.size,4,none⟩,.string X0),(⟨w.heap.size,5,none⟩,.string X1),(⟨w.heap.size,6,none⟩,.slice a2 n2 c2),(⟨w.heap.size,7,none⟩,.bool D0)] V.drew) /\ V.drew.cell? ⟨w.heap.size,0,none⟩ = some (.int .i64 C0) /\ V.drew.cell? ⟨w.heap.size,1,none⟩ = some (.slice a1 n1 c1) /\ V.drew.cell? ⟨w.heap.size,2,none⟩ = some (.int .i64 T0) /\ V.drew.cell? ⟨w.heap.size,3,none⟩ = some (.int .i64 U0) /\ V.drew.cell? ⟨w.heap.size,4,none⟩ = some (.string X0) /\ V.drew.cell? ⟨w.heap.size,5,none⟩ = some (.string X1) /\ V.drew.cell? ⟨w.heap.size,6,none⟩ = some (.slice a2 n2 c2) /\ V.drew.cell? ⟨w.heap.size,7,none⟩ = some (.bool D0)) := fun V h => unhide sall _ (unhide h.1).drew
  have kalloc : Hid (∀ V o,(Hid (HeldS w [(⟨w.heap.size,0,none⟩,.int .i64 C0),(⟨w.heap.size,1,none⟩,.slice a1 n1 c1),(⟨w.heap.size,2,none⟩,.int .i64 T0),(⟨w.heap.size,3,none⟩,.int .i64 U0),(⟨w.heap.size,4,none⟩,.string X0),(⟨w.heap.size,5,none⟩,.string X1),(⟨w.heap.size,6,none⟩,.slice a2 n2 c2),(⟨w.heap.size,7,none⟩,.bool D0)] V) /\ V.cell? ⟨w.heap.size,0,none⟩ = some (.int .i64 C0) /\ V.cell? ⟨w.heap.size,1,none⟩ = some (.slice a1 n1 c1) /\ V.cell? ⟨w.heap.size,2,none⟩ = some (.int .i64 T0) /\ V.cell? ⟨w.heap.size,3,none⟩ = some (.int .i64 U0) /\ V.cell? ⟨w.heap.size,4,none⟩ = some (.string X0) /\ V.cell? ⟨w.heap.size,5,none⟩ = some (.string X1) /\ V.cell? ⟨w.heap.size,6,none⟩ = some (.slice a2 n2 c2) /\ V.cell? ⟨w.heap.size,7,none⟩ = some (.bool D0)) -> Hid (HeldS w [(⟨w.heap.size,0,none⟩,.int .i64 C0),(⟨w.heap.size,1,none⟩,.slice a1 n1 c1),(⟨w.heap.size,2,none⟩,.int .i64 T0),(⟨w.heap.size,3,none⟩,.int .i64 U0),(⟨w.heap.size,4,none⟩,.string X0),(⟨w.heap.size,5,none⟩,.string X1),(⟨w.heap.size,6,none⟩,.slice a2 n2 c2),(⟨w.heap.size,7,none⟩,.bool D0)] (V.alloc o)) /\ (V.alloc o).cell? ⟨w.heap.size,0,none⟩ = some (.int .i64 C0) /\ (V.alloc o).cell? ⟨w.heap.size,1,none⟩ = some (.slice a1 n1 c1) /\ (V.alloc o).cell? ⟨w.heap.size,2,none⟩ = some (.int .i64 T0) /\ (V.alloc o).cell? ⟨w.heap.size,3,none⟩ = some (.int .i64 U0) /\ (V.alloc o).cell? ⟨w.heap.size,4,none⟩ = some (.string X0) /\ (V.alloc o).cell? ⟨w.heap.size,5,none⟩ = some (.string X1) /\ (V.alloc o).cell? ⟨w.heap.size,6,none⟩ = some (.slice a2 n2 c2) /\ (V.alloc o).cell? ⟨w.heap.size,7,none⟩ = some (.bool D0)) := fun V o h => unhide sall _ ((unhide h.1).alloc o)
  have kcall : Hid (∀ V V',(Hid (HeldS w [(⟨w.heap.size,0,none⟩,.int .i64 C0),(⟨w.heap.size,1,none⟩,.slice a1 n1 c1),(⟨w.heap.size,2,none⟩,.int .i64 T0),(⟨w.heap.size,3,none⟩,.int .i64 U0),(⟨w.heap.size,4,none⟩,.string X0),(⟨w.heap.size,5,none⟩,.string X1),(⟨w.heap.size,6,none⟩,.slice a2 n2 c2),(⟨w.heap.size,7,none⟩,.bool D0)] V) /\ V.cell? ⟨w.heap.size,0,none⟩ = some (.int .i64 C0) /\ V.cell? ⟨w.heap.size,1,none⟩ = some (.slice a1 n1 c1) /\ V.cell? ⟨w.heap.size,2,none⟩ = some (.int .i64 T0) /\ V.cell? ⟨w.heap.size,3,none⟩ = some (.int .i64 U0) /\ V.cell? ⟨w.heap.size,4,none⟩ = some (.string X0) /\ V.cell? ⟨w.heap.size,5,none⟩ = some (.string X1) /\ V.cell? ⟨w.heap.size,6,none⟩ = some (.slice a2 n2 c2) /\ V.cell? ⟨w.heap.size,7,none⟩ = some (.bool D0)) -> Below V.heap.size V V' -> Hid (HeldS w [(⟨w.heap.size,0,none⟩,.int .i64 C0),(⟨w.heap.size,1,none⟩,.slice a1 n1 c1),(⟨w.heap.size,2,none⟩,.int .i64 T0),(⟨w.heap.size,3,none⟩,.int .i64 U0),(⟨w.heap.size,4,none⟩,.string X0),(⟨w.heap.size,5,none⟩,.string X1),(⟨w.heap.size,6,none⟩,.slice a2 n2 c2),(⟨w.heap.size,7,none⟩,.bool D0)] V') /\ V'.cell? ⟨w.heap.size,0,none⟩ = some (.int .i64 C0) /\ V'.cell? ⟨w.heap.size,1,none⟩ = some (.slice a1 n1 c1) /\ V'.cell? ⟨w.heap.size,2,none⟩ = some (.int .i64 T0) /\ V'.cell? ⟨w.heap.size,3,none⟩ = some (.int .i64 U0) /\ V'.cell? ⟨w.heap.size,4,none⟩ = some (.string X0) /\ V'.cell? ⟨w.heap.size,5,none⟩ = some (.string X1) /\ V'.cell? ⟨w.heap.size,6,none⟩ = some (.slice a2 n2 c2) /\ V'.cell? ⟨w.heap.size,7,none⟩ = some (.bool D0)) := fun V V' h hb => unhide sall _ ((unhide h.1).below hb)
  have hS : Hid (HeldS w [(⟨w.heap.size,0,none⟩,.int .i64 C0),(⟨w.heap.size,1,none⟩,.slice a1 n1 c1),(⟨w.heap.size,2,none⟩,.int .i64 T0),(⟨w.heap.size,3,none⟩,.int .i64 U0),(⟨w.heap.size,4,none⟩,.string X0),(⟨w.heap.size,5,none⟩,.string X1),(⟨w.heap.size,6,none⟩,.slice a2 n2 c2),(⟨w.heap.size,7,none⟩,.bool D0)] (w.alloc (.cells #[.int .i64 C0,.slice a1 n1 c1,.int .i64 T0,.int .i64 U0,.string X0,.string X1,.slice a2 n2 c2,.bool D0] 40))) /\ (w.alloc (.cells #[.int .i64 C0,.slice a1 n1 c1,.int .i64 T0,.int .i64 U0,.string X0,.string X1,.slice a2 n2 c2,.bool D0] 40)).cell? ⟨w.heap.size,0,none⟩ = some (.int .i64 C0) /\ (w.alloc (.cells #[.int .i64 C0,.slice a1 n1 c1,.int .i64 T0,.int .i64 U0,.string X0,.string X1,.slice a2 n2 c2,.bool D0] 40)).cell? ⟨w.heap.size,1,none⟩ = some (.slice a1 n1 c1) /\ (w.alloc (.cells #[.int .i64 C0,.slice a1 n1 c1,.int .i64 T0,.int .i64 U0,.string X0,.string X1,.slice a2 n2 c2,.bool D0] 40)).cell? ⟨w.heap.size,2,none⟩ = some (.int .i64 T0) /\ (w.alloc (.cells #[.int .i64 C0,.slice a1 n1 c1,.int .i64 T0,.int .i64 U0,.string X0,.string X1,.slice a2 n2 c2,.bool D0] 40)).cell? ⟨w.heap.size,3,none⟩ = some (.int .i64 U0) /\ (w.alloc (.cells #[.int .i64 C0,.slice a1 n1 c1,.int .i64 T0,.int .i64 U0,.string X0,.string X1,.slice a2 n2 c2,.bool D0] 40)).cell? ⟨w.heap.size,4,none⟩ = some (.string X0) /\ (w.alloc (.cells #[.int .i64 C0,.slice a1 n1 c1,.int .i64 T0,.int .i64 U0,.string X0,.string X1,.slice a2 n2 c2,.bool D0] 40)).cell? ⟨w.heap.size,5,none⟩ = some (.string X1) /\ (w.alloc (.cells #[.int .i64 C0,.slice a1 n1 c1,.int .i64 T0,.int .i64 U0,.string X0,.string X1,.slice a2 n2 c2,.bool D0] 40)).cell? ⟨w.heap.size,6,none⟩ = some (.slice a2 n2 c2) /\ (w.alloc (.cells #[.int .i64 C0,.slice a1 n1 c1,.int .i64 T0,.int .i64 U0,.string X0,.string X1,.slice a2 n2 c2,.bool D0] 40)).cell? ⟨w.heap.size,7,none⟩ = some (.bool D0) := unhide sall _ ⟨boxb _,fun x hx => by simp only [List.mem_cons,List.not_mem_nil,or_false] at hx; rcases hx with rfl | rfl | rfl | rfl | rfl | rfl | rfl | rfl <;> simp [go_sem]⟩
  clear sall
  cases qf
  · have cU5 : Hid (∀ V bb ee,bb = .bool false -> ee = .int .i64 7 -> Calls Tryz.prog 103 #[bb,ee] V fun r w' => r = .returned (.int .i64 z5) /\ w' = V) := fun V bb ee e1 e2 => by rw [e1,e2,hz5]; exact unless_any false 7 V
    clear hz5
    go_enter Tryz.func66,Tryz.ntmps66
    go_wp2_with fail
    refine wp_region_noPanic ?_
    refine wp_region_held_drew (S := fun V => Hid (HeldS w [(⟨w.heap.size,0,none⟩,.int .i64 C0),(⟨w.heap.size,1,none⟩,.slice a1 n1 c1),(⟨w.heap.size,2,none⟩,.int .i64 T0),(⟨w.heap.size,3,none⟩,.int .i64 U0),(⟨w.heap.size,4,none⟩,.string X0),(⟨w.heap.size,5,none⟩,.string X1),(⟨w.heap.size,6,none⟩,.slice a2 n2 c2),(⟨w.heap.size,7,none⟩,.bool D0)] V) /\ V.cell? ⟨w.heap.size,0,none⟩ = some (.int .i64 C0) /\ V.cell? ⟨w.heap.size,1,none⟩ = some (.slice a1 n1 c1) /\ V.cell? ⟨w.heap.size,2,none⟩ = some (.int .i64 T0) /\ V.cell? ⟨w.heap.size,3,none⟩ = some (.int .i64 U0) /\ V.cell? ⟨w.heap.size,4,none⟩ = some (.string X0) /\ V.cell? ⟨w.heap.size,5,none⟩ = some (.string X1) /\ V.cell? ⟨w.heap.size,6,none⟩ = some (.slice a2 n2 c2) /\ V.cell? ⟨w.heap.size,7,none⟩ = some (.bool D0)) (by kernel_rfl) (unhide kdrew _ hS) (fun hHeld0 => ?_)
    refine takeH6 (i := 0) (d := 3) (v := ?_) rfl rfl (by kernel_rfl) (by kernel_rfl) (by kernel_rfl) (fun _ _ _ h => h) (Or.inl ⟨by rfl,?_⟩) (by assumption) ?_
    rotate_left
    · (intro W hSW; (try dsimp only at hSW); go_simp; try (with_reducible rfl))
    try simp only [Act.put,List.setIfInBounds_toArray,List.set_cons_zero,List.set_cons_succ]
    refine takeH6 (i := 1) (d := 4) (v := ?_) rfl rfl (by kernel_rfl) (by kernel_rfl) (by kernel_rfl) (fun _ _ _ h => h) (Or.inl ⟨by rfl,?_⟩) (by assumption) ?_
    rotate_left
    · (intro W hSW; (try dsimp only at hSW); go_simp; try (with_reducible rfl))
    try simp only [Act.put,List.setIfInBounds_toArray,List.set_cons_zero,List.set_cons_succ]
    refine takeH6 (i := 4) (d := 7) (v := ?_) rfl rfl (by kernel_rfl) (by kernel_rfl) (by kernel_rfl) (fun _ _ _ h => h) (Or.inl ⟨by rfl,?_⟩) (by assumption) ?_
    rotate_left
    · (intro W hSW; (try dsimp only at hSW); go_simp; try (with_reducible rfl))
    try simp only [Act.put,List.setIfInBounds_toArray,List.set_cons_zero,List.set_cons_succ]
    refine takeH6 (i := 5) (d := 8) (v := ?_) rfl rfl (by kernel_rfl) (by kernel_rfl) (by kernel_rfl) (fun _ _ _ h => h) (Or.inl ⟨by rfl,?_⟩) (by assumption) ?_
    rotate_left
    · (intro W hSW; (try dsimp only at hSW); go_simp; try (with_reducible rfl))
    try simp only [Act.put,List.setIfInBounds_toArray,List.set_cons_zero,List.set_cons_succ]
    refine takeH6 (i := 8) (d := 11) (v := ?_) rfl rfl (by kernel_rfl) (by kernel_rfl) (by kernel_rfl) (fun _ _ _ h => h) (Or.inl ⟨by rfl,?_⟩) (by assumption) ?_
    rotate_left
    · (intro W hSW; (try dsimp only at hSW); go_simp; try (with_reducible rfl))
    try simp only [Act.put,List.setIfInBounds_toArray,List.set_cons_zero,List.set_cons_succ]
    refine takeH6 (i := 9) (d := 12) (v := ?_) rfl rfl (by kernel_rfl) (by kernel_rfl) (by kernel_rfl) (fun _ _ _ h => h) (Or.inl ⟨by rfl,?_⟩) (by assumption) ?_
    rotate_left
    · (intro W hSW; (try dsimp only at hSW); go_simp; try (with_reducible rfl))
    try simp only [Act.put,List.setIfInBounds_toArray,List.set_cons_zero,List.set_cons_succ]
    refine takeH6 (i := 11) (d := 14) (v := ?_) rfl rfl (by kernel_rfl) (by kernel_rfl) (by kernel_rfl) (fun _ _ _ h => h) (Or.inl ⟨by rfl,?_⟩) (by assumption) ?_
    rotate_left
    · (intro W hSW; (try dsimp only at hSW); go_simp; try (with_reducible rfl))
    try simp only [Act.put,List.setIfInBounds_toArray,List.set_cons_zero,List.set_cons_succ]
    refine takeH6 (i := 12) (d := 15) (v := ?_) rfl rfl (by kernel_rfl) (by kernel_rfl) (by kernel_rfl) (fun _ _ _ h => h) (Or.inl ⟨by rfl,?_⟩) (by assumption) ?_
    rotate_left
    · (intro W hSW; (try dsimp only at hSW); go_simp; try (with_reducible rfl))
    try simp only [Act.put,List.setIfInBounds_toArray,List.set_cons_zero,List.set_cons_succ]
    refine takeH6 (i := 15) (d := 18) (v := ?_) rfl rfl (by kernel_rfl) (by kernel_rfl) (by kernel_rfl) (fun _ _ _ h => h) (Or.inl ⟨by rfl,?_⟩) (by assumption) ?_
    rotate_left
    · (intro W hSW; (try dsimp only at hSW); go_simp; try (with_reducible rfl))
    try simp only [Act.put,List.setIfInBounds_toArray,List.set_cons_zero,List.set_cons_succ]
    refine takeH6 (i := 16) (d := 19) (v := ?_) rfl rfl (by kernel_rfl) (by kernel_rfl) (by kernel_rfl) (fun _ _ _ h => h) (Or.inl ⟨by rfl,?_⟩) (by assumption) ?_
    rotate_left
    · (intro W hSW; (try dsimp only at hSW); go_simp; try (with_reducible rfl))
    try simp only [Act.put,List.setIfInBounds_toArray,List.set_cons_zero,List.set_cons_succ]
    refine takeH6 (i := 24) (d := 27) (v := ?_) rfl rfl (by kernel_rfl) (by kernel_rfl) (by kernel_rfl) (fun _ _ _ h => h) (Or.inl ⟨by rfl,?_⟩) (by assumption) ?_
    rotate_left
    · (intro W hSW; (try dsimp only at hSW); go_simp; try (with_reducible rfl))
    try simp only [Act.put,List.setIfInBounds_toArray,List.set_cons_zero,List.set_cons_succ]
    refine takeH6 (i := 25) (d := 28) (v := ?_) rfl rfl (by kernel_rfl) (by kernel_rfl) (by kernel_rfl) (fun _ _ _ h => h) (Or.inl ⟨by rfl,?_⟩) (by assumption) ?_
    rotate_left
    · (intro W hSW; (try dsimp only at hSW); go_simp; try (with_reducible rfl))
    try simp only [Act.put,List.setIfInBounds_toArray,List.set_cons_zero,List.set_cons_succ]
    refine wpAnyH_ready (rs := [2]) (by kernel_rfl) (by simp) ?_
    refine AllReadyH.cons (o := _) rfl (fun K hK => ?_) AllReadyH.nil
    go_simp
    (go_at_call 106; refine (btw_any _ _ _ _).mono ?_; rintro e w9 ⟨rfl,rfl⟩)
    refine hK.out _ _ ?_ (fun hHeld1 => ?_)
    · (try dsimp only)
      (first | (with_reducible exact hS) | (with_reducible assumption) | (with_reducible refine unhide kdrew _ ?_; with_reducible assumption) | (with_reducible refine unhide kalloc _ _ ?_; with_reducible assumption) | (refine unhide kcall _ _ ?_ (by assumption); with_reducible assumption) | (with_reducible refine unhide kdrew _ (unhide kalloc _ _ ?_); with_reducible assumption) | (with_reducible refine unhide kalloc _ _ (unhide kdrew _ ?_); with_reducible assumption))
    clear hK K hHeld0
    try simp only [Act.put,List.setIfInBounds_toArray,List.set_cons_zero,List.set_cons_succ]
    refine wpAnyH_ready (rs := [3]) (by kernel_rfl) (by simp) ?_
    refine AllReadyH.cons (o := _) rfl (fun K hK => ?_) AllReadyH.nil
    go_simp
    (go_at_call 103; refine (unhide cU1 _ _ _ (by rfl) (by rfl)).mono ?_; rintro e w9 ⟨rfl,rfl⟩)
    refine hK.out _ _ ?_ (fun hHeld2 => ?_)
    · (try dsimp only)
      (first | (with_reducible exact hS) | (with_reducible assumption) | (with_reducible refine unhide kdrew _ ?_; with_reducible assumption) | (with_reducible refine unhide kalloc _ _ ?_; with_reducible assumption) | (refine unhide kcall _ _ ?_ (by assumption); with_reducible assumption) | (with_reducible refine unhide kdrew _ (unhide kalloc _ _ ?_); with_reducible assumption) | (with_reducible refine unhide kalloc _ _ (unhide kdrew _ ?_); with_reducible assumption))
    clear hK K hHeld1
    try simp only [Act.put,List.setIfInBounds_toArray,List.set_cons_zero,List.set_cons_succ]
    refine wpAnyH_ready (rs := [6]) (by kernel_rfl) (by simp) ?_
    refine AllReadyH.cons (o := _) rfl (fun K hK => ?_) AllReadyH.nil
    go_simp
    (go_at_call 106; refine (btw_any _ _ _ _).mono ?_; rintro e w9 ⟨rfl,rfl⟩)
    refine hK.out _ _ ?_ (fun hHeld3 => ?_)
    · (try dsimp only)
      (first | (with_reducible exact hS) | (with_reducible assumption) | (with_reducible refine unhide kdrew _ ?_; with_reducible assumption) | (with_reducible refine unhide kalloc _ _ ?_; with_reducible assumption) | (refine unhide kcall _ _ ?_ (by assumption); with_reducible assumption) | (with_reducible refine unhide kdrew _ (unhide kalloc _ _ ?_); with_reducible assumption) | (with_reducible refine unhide kalloc _ _ (unhide kdrew _ ?_); with_reducible assumption))
    clear hK K hHeld2
    try simp only [Act.put,List.setIfInBounds_toArray,List.set_cons_zero,List.set_cons_succ]
    refine wpAnyH_ready (rs := [7]) (by kernel_rfl) (by simp) ?_
    refine AllReadyH.cons (o := _) rfl (fun K hK => ?_) AllReadyH.nil
    go_simp
    (go_at_call 103; refine (unhide cU2 _ _ _ (by rfl) (by rfl)).mono ?_; rintro e w9 ⟨rfl,rfl⟩)
    refine hK.out _ _ ?_ (fun hHeld4 => ?_)
    · (try dsimp only)
      (first | (with_reducible exact hS) | (with_reducible assumption) | (with_reducible refine unhide kdrew _ ?_; with_reducible assumption) | (with_reducible refine unhide kalloc _ _ ?_; with_reducible assumption) | (refine unhide kcall _ _ ?_ (by assumption); with_reducible assumption) | (with_reducible refine unhide kdrew _ (unhide kalloc _ _ ?_); with_reducible assumption) | (with_reducible refine unhide kalloc _ _ (unhide kdrew _ ?_); with_reducible assumption))
    clear hK K hHeld3
    try simp only [Act.put,List.setIfInBounds_toArray,List.set_cons_zero,List.set_cons_succ]
    refine wpAnyH_ready (rs := [10]) (by kernel_rfl) (by simp) ?_
    refine AllReadyH.cons (o := _) rfl (fun K hK => ?_) AllReadyH.nil
    go_simp
    (go_at_call 118; with_reducible refine (unhide k3 _ ?_).mono ?_; with_reducible assumption; rintro e w9 ⟨rfl,hw9⟩)
    refine hK.out _ _ ?_ (fun hHeld5 => ?_)
    · (try dsimp only)
      (first | (with_reducible exact hS) | (with_reducible assumption) | (with_reducible refine unhide kdrew _ ?_; with_reducible assumption) | (with_reducible refine unhide kalloc _ _ ?_; with_reducible assumption) | (refine unhide kcall _ _ ?_ (by assumption); with_reducible assumption) | (with_reducible refine unhide kdrew _ (unhide kalloc _ _ ?_); with_reducible assumption) | (with_reducible refine unhide kalloc _ _ (unhide kdrew _ ?_); with_reducible assumption))
    clear hK K hHeld4 hw9
    try simp only [Act.put,List.setIfInBounds_toArray,List.set_cons_zero,List.set_cons_succ]
    refine wpAnyH_ready (rs := [13]) (by kernel_rfl) (by simp) ?_
    refine AllReadyH.cons (o := _) rfl (fun K hK => ?_) AllReadyH.nil
    go_simp
    (go_at_call 111; refine (time_any _ _).mono ?_; rintro e w9 ⟨rfl,rfl⟩)
    refine hK.out _ _ ?_ (fun hHeld6 => ?_)
    · (try dsimp only)
      (first | (with_reducible exact hS) | (with_reducible assumption) | (with_reducible refine unhide kdrew _ ?_; with_reducible assumption) | (with_reducible refine unhide kalloc _ _ ?_; with_reducible assumption) | (refine unhide kcall _ _ ?_ (by assumption); with_reducible assumption) | (with_reducible refine unhide kdrew _ (unhide kalloc _ _ ?_); with_reducible assumption) | (with_reducible refine unhide kalloc _ _ (unhide kdrew _ ?_); with_reducible assumption))
    clear hK K hHeld5
    try simp only [Act.put,List.setIfInBounds_toArray,List.set_cons_zero,List.set_cons_succ]
    refine wpAnyH_ready (rs := [14]) (by kernel_rfl) (by simp) ?_
    refine AllReadyH.cons (o := _) rfl (fun K hK => ?_) AllReadyH.nil
    go_simp
    (go_at_call 103; refine (unhide cU4 _ _ _ (by rfl) (by rfl)).mono ?_; rintro e w9 ⟨rfl,rfl⟩)
    refine hK.out _ _ ?_ (fun hHeld7 => ?_)
    · (try dsimp only)
      (first | (with_reducible exact hS) | (with_reducible assumption) | (with_reducible refine unhide kdrew _ ?_; with_reducible assumption) | (with_reducible refine unhide kalloc _ _ ?_; with_reducible assumption) | (refine unhide kcall _ _ ?_ (by assumption); with_reducible assumption) | (with_reducible refine unhide kdrew _ (unhide kalloc _ _ ?_); with_reducible assumption) | (with_reducible refine unhide kalloc _ _ (unhide kdrew _ ?_); with_reducible assumption))
    clear hK K hHeld6
    try simp only [Act.put,List.setIfInBounds_toArray,List.set_cons_zero,List.set_cons_succ]
    refine wpAnyH_ready (rs := [17]) (by kernel_rfl) (by simp) ?_
    refine AllReadyH.cons (o := _) rfl (fun K hK => ?_) AllReadyH.nil
    go_simp
    (go_at_call 112; refine (unhide kF _ _ (by rfl)).mono ?_; rintro e w9 ⟨rfl,rfl⟩)
    refine hK.out _ _ ?_ (fun hHeld8 => ?_)
    · (try dsimp only)
      (first | (with_reducible exact hS) | (with_reducible assumption) | (with_reducible refine unhide kdrew _ ?_; with_reducible assumption) | (with_reducible refine unhide kalloc _ _ ?_; with_reducible assumption) | (refine unhide kcall _ _ ?_ (by assumption); with_reducible assumption) | (with_reducible refine unhide kdrew _ (unhide kalloc _ _ ?_); with_reducible assumption) | (with_reducible refine unhide kalloc _ _ (unhide kdrew _ ?_); with_reducible assumption))
    clear hK K hHeld7
    try simp only [Act.put,List.setIfInBounds_toArray,List.set_cons_zero,List.set_cons_succ]
    refine takeH6 (i := 18) (d := 21) (v := ?_) rfl rfl (by kernel_rfl) (by kernel_rfl) (by kernel_rfl) (fun _ _ _ h => h) (Or.inl ⟨by rfl,?_⟩) (by assumption) ?_
    rotate_left
    · (intro W hSW; (try dsimp only at hSW); go_simp; try (with_reducible rfl))
    try simp only [Act.put,List.setIfInBounds_toArray,List.set_cons_zero,List.set_cons_succ]
    refine takeH6 (i := 19) (d := 22) (v := undef) rfl rfl (by kernel_rfl) (by kernel_rfl) (by kernel_rfl) (fun _ _ _ h => h) (Or.inr ⟨by rfl,rfl⟩) (by assumption) ?_
    try simp only [Act.put,List.setIfInBounds_toArray,List.set_cons_zero,List.set_cons_succ]
    refine takeH6 (i := 20) (d := 23) (v := undef) rfl rfl (by kernel_rfl) (by kernel_rfl) (by kernel_rfl) (fun _ _ _ h => h) (Or.inr ⟨by rfl,rfl⟩) (by assumption) ?_
    try simp only [Act.put,List.setIfInBounds_toArray,List.set_cons_zero,List.set_cons_succ]
    refine takeH6 (i := 21) (d := 24) (v := undef) rfl rfl (by kernel_rfl) (by kernel_rfl) (by kernel_rfl) (fun _ _ _ h => h) (Or.inr ⟨by rfl,rfl⟩) (by assumption) ?_
    try simp only [Act.put,List.setIfInBounds_toArray,List.set_cons_zero,List.set_cons_succ]
    refine takeH6 (i := 22) (d := 25) (v := ?_) rfl rfl (by kernel_rfl) (by kernel_rfl) (by kernel_rfl) (fun _ _ _ h => h) (Or.inl ⟨by rfl,?_⟩) (by assumption) ?_
    rotate_left
    · (intro W hSW; (try dsimp only at hSW); go_simp; try (with_reducible rfl))
    try simp only [Act.put,List.setIfInBounds_toArray,List.set_cons_zero,List.set_cons_succ]
    refine wpAnyH_ready (rs := [23]) (by kernel_rfl) (by simp) ?_
    refine AllReadyH.cons (o := _) rfl (fun K hK => ?_) AllReadyH.nil
    go_simp
    (go_at_call 103; refine (unhide cU5 _ _ _ (by rfl) (by rfl)).mono ?_; rintro e w9 ⟨rfl,rfl⟩)
    refine hK.out _ _ ?_ (fun hHeld9 => ?_)
    · (try dsimp only)
      (first | (with_reducible exact hS) | (with_reducible assumption) | (with_reducible refine unhide kdrew _ ?_; with_reducible assumption) | (with_reducible refine unhide kalloc _ _ ?_; with_reducible assumption) | (refine unhide kcall _ _ ?_ (by assumption); with_reducible assumption) | (with_reducible refine unhide kdrew _ (unhide kalloc _ _ ?_); with_reducible assumption) | (with_reducible refine unhide kalloc _ _ (unhide kdrew _ ?_); with_reducible assumption))
    clear hK K hHeld8
    try simp only [Act.put,List.setIfInBounds_toArray,List.set_cons_zero,List.set_cons_succ]
    refine wpAnyH_ready (rs := [26]) (by kernel_rfl) (by simp) ?_
    refine AllReadyH.cons (o := _) rfl (fun K hK => ?_) AllReadyH.nil
    go_simp
    (go_at_call 117; with_reducible refine (unhide k6 _ ?_).mono ?_; with_reducible assumption; rintro e w9 ⟨rfl,hw9⟩)
    refine hK.out _ _ ?_ (fun hHeld10 => ?_)
    · (try dsimp only)
      (first | (with_reducible exact hS) | (with_reducible assumption) | (with_reducible refine unhide kdrew _ ?_; with_reducible assumption) | (with_reducible refine unhide kalloc _ _ ?_; with_reducible assumption) | (refine unhide kcall _ _ ?_ (by assumption); with_reducible assumption) | (with_reducible refine unhide kdrew _ (unhide kalloc _ _ ?_); with_reducible assumption) | (with_reducible refine unhide kalloc _ _ (unhide kdrew _ ?_); with_reducible assumption))
    clear hK K hHeld9 hw9
    try simp only [Act.put,List.setIfInBounds_toArray,List.set_cons_zero,List.set_cons_succ]
    refine wpAnyH_ready (rs := [27]) (by kernel_rfl) (by simp) ?_
    refine AllReadyH.cons (o := _) rfl (fun K hK => ?_) AllReadyH.nil
    go_simp
    refine hK.out _ _ ?_ (fun hHeld11 => ?_)
    · (try dsimp only)
      (first | (with_reducible exact hS) | (with_reducible assumption) | (with_reducible refine unhide kdrew _ ?_; with_reducible assumption) | (with_reducible refine unhide kalloc _ _ ?_; with_reducible assumption) | (refine unhide kcall _ _ ?_ (by assumption); with_reducible assumption) | (with_reducible refine unhide kdrew _ (unhide kalloc _ _ ?_); with_reducible assumption) | (with_reducible refine unhide kalloc _ _ (unhide kdrew _ ?_); with_reducible assumption))
    clear hK K hHeld10
    try simp only [Act.put,List.setIfInBounds_toArray,List.set_cons_zero,List.set_cons_succ]
    refine wpAnyH_ready (rs := [28]) (by kernel_rfl) (by simp) ?_
    refine AllReadyH.cons (o := _) rfl (fun K hK => ?_) AllReadyH.nil
    go_simp
    (go_at_call 102; refine (unhide cOr _ _ (by simp [go_sem]) (by simp [go_sem]) (by simp [go_sem]) (by simp [go_sem]) (by simp [go_sem]) (by simp [go_sem])).mono ?_; rintro e w9 ⟨rfl,rfl⟩)
    refine hK.out _ _ ?_ (fun hHeld12 => ?_)
    · (try dsimp only)
      (first | (with_reducible exact hS) | (with_reducible assumption) | (with_reducible refine unhide kdrew _ ?_; with_reducible assumption) | (with_reducible refine unhide kalloc _ _ ?_; with_reducible assumption) | (refine unhide kcall _ _ ?_ (by assumption); with_reducible assumption) | (with_reducible refine unhide kdrew _ (unhide kalloc _ _ ?_); with_reducible assumption) | (with_reducible refine unhide kalloc _ _ (unhide kdrew _ ?_); with_reducible assumption))
    clear hK K hHeld11
    try simp only [Act.put,List.setIfInBounds_toArray,List.set_cons_zero,List.set_cons_succ]
    refine takeH6 (i := 29) (d := 2) (v := ?_) rfl rfl (by kernel_rfl) (by kernel_rfl) (by kernel_rfl) (fun _ _ _ h => h) (Or.inl ⟨by rfl,?_⟩) (by assumption) ?_
    rotate_left
    · (intro W hSW; (try dsimp only at hSW); go_simp; try (with_reducible rfl))
    try simp only [Act.put,List.setIfInBounds_toArray,List.set_cons_zero,List.set_cons_succ]
    refine wpAnyH_done (by kernel_rfl) ?_ _
    refine NoPanic.normal ?_
    have hHeld := hHeld12
    clear hHeld12

    go_wp2_with fail
    go_ret
    exact ⟨rfl,(unhide hHeld.1).gr⟩
  · have cU5 : Hid (∀ V bb ee,bb = .bool qp -> ee = .int .i64 7 -> Calls Tryz.prog 103 #[bb,ee] V fun r w' => r = .returned (.int .i64 z5) /\ w' = V) := fun V bb ee e1 e2 => by rw [e1,e2,hz5]; exact unless_any qp 7 V
    clear hz5
    go_enter Tryz.func66,Tryz.ntmps66
    go_wp2_with fail
    refine wp_region_noPanic ?_
    refine wp_region_held_drew (S := fun V => Hid (HeldS w [(⟨w.heap.size,0,none⟩,.int .i64 C0),(⟨w.heap.size,1,none⟩,.slice a1 n1 c1),(⟨w.heap.size,2,none⟩,.int .i64 T0),(⟨w.heap.size,3,none⟩,.int .i64 U0),(⟨w.heap.size,4,none⟩,.string X0),(⟨w.heap.size,5,none⟩,.string X1),(⟨w.heap.size,6,none⟩,.slice a2 n2 c2),(⟨w.heap.size,7,none⟩,.bool D0)] V) /\ V.cell? ⟨w.heap.size,0,none⟩ = some (.int .i64 C0) /\ V.cell? ⟨w.heap.size,1,none⟩ = some (.slice a1 n1 c1) /\ V.cell? ⟨w.heap.size,2,none⟩ = some (.int .i64 T0) /\ V.cell? ⟨w.heap.size,3,none⟩ = some (.int .i64 U0) /\ V.cell? ⟨w.heap.size,4,none⟩ = some (.string X0) /\ V.cell? ⟨w.heap.size,5,none⟩ = some (.string X1) /\ V.cell? ⟨w.heap.size,6,none⟩ = some (.slice a2 n2 c2) /\ V.cell? ⟨w.heap.size,7,none⟩ = some (.bool D0)) (by kernel_rfl) (unhide kdrew _ hS) (fun hHeld0 => ?_)
    refine takeH6 (i := 0) (d := 3) (v := ?_) rfl rfl (by kernel_rfl) (by kernel_rfl) (by kernel_rfl) (fun _ _ _ h => h) (Or.inl ⟨by rfl,?_⟩) (by assumption) ?_
    rotate_left
    · (intro W hSW; (try dsimp only at hSW); go_simp; try (with_reducible rfl))
    try simp only [Act.put,List.setIfInBounds_toArray,List.set_cons_zero,List.set_cons_succ]
    refine takeH6 (i := 1) (d := 4) (v := ?_) rfl rfl (by kernel_rfl) (by kernel_rfl) (by kernel_rfl) (fun _ _ _ h => h) (Or.inl ⟨by rfl,?_⟩) (by assumption) ?_
    rotate_left
    · (intro W hSW; (try dsimp only at hSW); go_simp; try (with_reducible rfl))
    try simp only [Act.put,List.setIfInBounds_toArray,List.set_cons_zero,List.set_cons_succ]
    refine takeH6 (i := 4) (d := 7) (v := ?_) rfl rfl (by kernel_rfl) (by kernel_rfl) (by kernel_rfl) (fun _ _ _ h => h) (Or.inl ⟨by rfl,?_⟩) (by assumption) ?_
    rotate_left
    · (intro W hSW; (try dsimp only at hSW); go_simp; try (with_reducible rfl))
    try simp only [Act.put,List.setIfInBounds_toArray,List.set_cons_zero,List.set_cons_succ]
    refine takeH6 (i := 5) (d := 8) (v := ?_) rfl rfl (by kernel_rfl) (by kernel_rfl) (by kernel_rfl) (fun _ _ _ h => h) (Or.inl ⟨by rfl,?_⟩) (by assumption) ?_
    rotate_left
    · (intro W hSW; (try dsimp only at hSW); go_simp; try (with_reducible rfl))
    try simp only [Act.put,List.setIfInBounds_toArray,List.set_cons_zero,List.set_cons_succ]
    refine takeH6 (i := 8) (d := 11) (v := ?_) rfl rfl (by kernel_rfl) (by kernel_rfl) (by kernel_rfl) (fun _ _ _ h => h) (Or.inl ⟨by rfl,?_⟩) (by assumption) ?_
    rotate_left
    · (intro W hSW; (try dsimp only at hSW); go_simp; try (with_reducible rfl))
    try simp only [Act.put,List.setIfInBounds_toArray,List.set_cons_zero,List.set_cons_succ]
    refine takeH6 (i := 9) (d := 12) (v := ?_) rfl rfl (by kernel_rfl) (by kernel_rfl) (by kernel_rfl) (fun _ _ _ h => h) (Or.inl ⟨by rfl,?_⟩) (by assumption) ?_
    rotate_left
    · (intro W hSW; (try dsimp only at hSW); go_simp; try (with_reducible rfl))
    try simp only [Act.put,List.setIfInBounds_toArray,List.set_cons_zero,List.set_cons_succ]
    refine takeH6 (i := 11) (d := 14) (v := ?_) rfl rfl (by kernel_rfl) (by kernel_rfl) (by kernel_rfl) (fun _ _ _ h => h) (Or.inl ⟨by rfl,?_⟩) (by assumption) ?_
    rotate_left
    · (intro W hSW; (try dsimp only at hSW); go_simp; try (with_reducible rfl))
    try simp only [Act.put,List.setIfInBounds_toArray,List.set_cons_zero,List.set_cons_succ]
    refine takeH6 (i := 12) (d := 15) (v := ?_) rfl rfl (by kernel_rfl) (by kernel_rfl) (by kernel_rfl) (fun _ _ _ h => h) (Or.inl ⟨by rfl,?_⟩) (by assumption) ?_
    rotate_left
    · (intro W hSW; (try dsimp only at hSW); go_simp; try (with_reducible rfl))
    try simp only [Act.put,List.setIfInBounds_toArray,List.set_cons_zero,List.set_cons_succ]
    refine takeH6 (i := 15) (d := 18) (v := ?_) rfl rfl (by kernel_rfl) (by kernel_rfl) (by kernel_rfl) (fun _ _ _ h => h) (Or.inl ⟨by rfl,?_⟩) (by assumption) ?_
    rotate_left
    · (intro W hSW; (try dsimp only at hSW); go_simp; try (with_reducible rfl))
    try simp only [Act.put,List.setIfInBounds_toArray,List.set_cons_zero,List.set_cons_succ]
    refine takeH6 (i := 16) (d := 19) (v := ?_) rfl rfl (by kernel_rfl) (by kernel_rfl) (by kernel_rfl) (fun _ _ _ h => h) (Or.inl ⟨by rfl,?_⟩) (by assumption) ?_
    rotate_left
    · (intro W hSW; (try dsimp only at hSW); go_simp; try (with_reducible rfl))
    try simp only [Act.put,List.setIfInBounds_toArray,List.set_cons_zero,List.set_cons_succ]
    refine takeH6 (i := 24) (d := 27) (v := ?_) rfl rfl (by kernel_rfl) (by kernel_rfl) (by kernel_rfl) (fun _ _ _ h => h) (Or.inl ⟨by rfl,?_⟩) (by assumption) ?_
    rotate_left
    · (intro W hSW; (try dsimp only at hSW); go_simp; try (with_reducible rfl))
    try simp only [Act.put,List.setIfInBounds_toArray,List.set_cons_zero,List.set_cons_succ]
    refine takeH6 (i := 25) (d := 28) (v := ?_) rfl rfl (by kernel_rfl) (by kernel_rfl) (by kernel_rfl) (fun _ _ _ h => h) (Or.inl ⟨by rfl,?_⟩) (by assumption) ?_
    rotate_left
    · (intro W hSW; (try dsimp only at hSW); go_simp; try (with_reducible rfl))
    try simp only [Act.put,List.setIfInBounds_toArray,List.set_cons_zero,List.set_cons_succ]
    refine wpAnyH_ready (rs := [2]) (by kernel_rfl) (by simp) ?_
    refine AllReadyH.cons (o := _) rfl (fun K hK => ?_) AllReadyH.nil
    go_simp
    (go_at_call 106; refine (btw_any _ _ _ _).mono ?_; rintro e w9 ⟨rfl,rfl⟩)
    refine hK.out _ _ ?_ (fun hHeld1 => ?_)
    · (try dsimp only)
      (first | (with_reducible exact hS) | (with_reducible assumption) | (with_reducible refine unhide kdrew _ ?_; with_reducible assumption) | (with_reducible refine unhide kalloc _ _ ?_; with_reducible assumption) | (refine unhide kcall _ _ ?_ (by assumption); with_reducible assumption) | (with_reducible refine unhide kdrew _ (unhide kalloc _ _ ?_); with_reducible assumption) | (with_reducible refine unhide kalloc _ _ (unhide kdrew _ ?_); with_reducible assumption))
    clear hK K hHeld0
    try simp only [Act.put,List.setIfInBounds_toArray,List.set_cons_zero,List.set_cons_succ]
    refine wpAnyH_ready (rs := [3]) (by kernel_rfl) (by simp) ?_
    refine AllReadyH.cons (o := _) rfl (fun K hK => ?_) AllReadyH.nil
    go_simp
    (go_at_call 103; refine (unhide cU1 _ _ _ (by rfl) (by rfl)).mono ?_; rintro e w9 ⟨rfl,rfl⟩)
    refine hK.out _ _ ?_ (fun hHeld2 => ?_)
    · (try dsimp only)
      (first | (with_reducible exact hS) | (with_reducible assumption) | (with_reducible refine unhide kdrew _ ?_; with_reducible assumption) | (with_reducible refine unhide kalloc _ _ ?_; with_reducible assumption) | (refine unhide kcall _ _ ?_ (by assumption); with_reducible assumption) | (with_reducible refine unhide kdrew _ (unhide kalloc _ _ ?_); with_reducible assumption) | (with_reducible refine unhide kalloc _ _ (unhide kdrew _ ?_); with_reducible assumption))
    clear hK K hHeld1
    try simp only [Act.put,List.setIfInBounds_toArray,List.set_cons_zero,List.set_cons_succ]
    refine wpAnyH_ready (rs := [6]) (by kernel_rfl) (by simp) ?_
    refine AllReadyH.cons (o := _) rfl (fun K hK => ?_) AllReadyH.nil
    go_simp
    (go_at_call 106; refine (btw_any _ _ _ _).mono ?_; rintro e w9 ⟨rfl,rfl⟩)
    refine hK.out _ _ ?_ (fun hHeld3 => ?_)
    · (try dsimp only)
      (first | (with_reducible exact hS) | (with_reducible assumption) | (with_reducible refine unhide kdrew _ ?_; with_reducible assumption) | (with_reducible refine unhide kalloc _ _ ?_; with_reducible assumption) | (refine unhide kcall _ _ ?_ (by assumption); with_reducible assumption) | (with_reducible refine unhide kdrew _ (unhide kalloc _ _ ?_); with_reducible assumption) | (with_reducible refine unhide kalloc _ _ (unhide kdrew _ ?_); with_reducible assumption))
    clear hK K hHeld2
    try simp only [Act.put,List.setIfInBounds_toArray,List.set_cons_zero,List.set_cons_succ]
    refine wpAnyH_ready (rs := [7]) (by kernel_rfl) (by simp) ?_
    refine AllReadyH.cons (o := _) rfl (fun K hK => ?_) AllReadyH.nil
    go_simp
    (go_at_call 103; refine (unhide cU2 _ _ _ (by rfl) (by rfl)).mono ?_; rintro e w9 ⟨rfl,rfl⟩)
    refine hK.out _ _ ?_ (fun hHeld4 => ?_)
    · (try dsimp only)
      (first | (with_reducible exact hS) | (with_reducible assumption) | (with_reducible refine unhide kdrew _ ?_; with_reducible assumption) | (with_reducible refine unhide kalloc _ _ ?_; with_reducible assumption) | (refine unhide kcall _ _ ?_ (by assumption); with_reducible assumption) | (with_reducible refine unhide kdrew _ (unhide kalloc _ _ ?_); with_reducible assumption) | (with_reducible refine unhide kalloc _ _ (unhide kdrew _ ?_); with_reducible assumption))
    clear hK K hHeld3
    try simp only [Act.put,List.setIfInBounds_toArray,List.set_cons_zero,List.set_cons_succ]
    refine wpAnyH_ready (rs := [10]) (by kernel_rfl) (by simp) ?_
    refine AllReadyH.cons (o := _) rfl (fun K hK => ?_) AllReadyH.nil
    go_simp
    (go_at_call 118; with_reducible refine (unhide k3 _ ?_).mono ?_; with_reducible assumption; rintro e w9 ⟨rfl,hw9⟩)
    refine hK.out _ _ ?_ (fun hHeld5 => ?_)
    · (try dsimp only)
      (first | (with_reducible exact hS) | (with_reducible assumption) | (with_reducible refine unhide kdrew _ ?_; with_reducible assumption) | (with_reducible refine unhide kalloc _ _ ?_; with_reducible assumption) | (refine unhide kcall _ _ ?_ (by assumption); with_reducible assumption) | (with_reducible refine unhide kdrew _ (unhide kalloc _ _ ?_); with_reducible assumption) | (with_reducible refine unhide kalloc _ _ (unhide kdrew _ ?_); with_reducible assumption))
    clear hK K hHeld4 hw9
    try simp only [Act.put,List.setIfInBounds_toArray,List.set_cons_zero,List.set_cons_succ]
    refine wpAnyH_ready (rs := [13]) (by kernel_rfl) (by simp) ?_
    refine AllReadyH.cons (o := _) rfl (fun K hK => ?_) AllReadyH.nil
    go_simp
    (go_at_call 111; refine (time_any _ _).mono ?_; rintro e w9 ⟨rfl,rfl⟩)
    refine hK.out _ _ ?_ (fun hHeld6 => ?_)
    · (try dsimp only)
      (first | (with_reducible exact hS) | (with_reducible assumption) | (with_reducible refine unhide kdrew _ ?_; with_reducible assumption) | (with_reducible refine unhide kalloc _ _ ?_; with_reducible assumption) | (refine unhide kcall _ _ ?_ (by assumption); with_reducible assumption) | (with_reducible refine unhide kdrew _ (unhide kalloc _ _ ?_); with_reducible assumption) | (with_reducible refine unhide kalloc _ _ (unhide kdrew _ ?_); with_reducible assumption))
    clear hK K hHeld5
    try simp only [Act.put,List.setIfInBounds_toArray,List.set_cons_zero,List.set_cons_succ]
    refine wpAnyH_ready (rs := [14]) (by kernel_rfl) (by simp) ?_
    refine AllReadyH.cons (o := _) rfl (fun K hK => ?_) AllReadyH.nil
    go_simp
    (go_at_call 103; refine (unhide cU4 _ _ _ (by rfl) (by rfl)).mono ?_; rintro e w9 ⟨rfl,rfl⟩)
    refine hK.out _ _ ?_ (fun hHeld7 => ?_)
    · (try dsimp only)
      (first | (with_reducible exact hS) | (with_reducible assumption) | (with_reducible refine unhide kdrew _ ?_; with_reducible assumption) | (with_reducible refine unhide kalloc _ _ ?_; with_reducible assumption) | (refine unhide kcall _ _ ?_ (by assumption); with_reducible assumption) | (with_reducible refine unhide kdrew _ (unhide kalloc _ _ ?_); with_reducible assumption) | (with_reducible refine unhide kalloc _ _ (unhide kdrew _ ?_); with_reducible assumption))
    clear hK K hHeld6
    try simp only [Act.put,List.setIfInBounds_toArray,List.set_cons_zero,List.set_cons_succ]
    refine wpAnyH_ready (rs := [17]) (by kernel_rfl) (by simp) ?_
    refine AllReadyH.cons (o := _) rfl (fun K hK => ?_) AllReadyH.nil
    go_simp
    (go_at_call 112; refine (unhide kF _ _ (by rfl)).mono ?_; rintro e w9 ⟨rfl,rfl⟩)
    refine hK.out _ _ ?_ (fun hHeld8 => ?_)
    · (try dsimp only)
      (first | (with_reducible exact hS) | (with_reducible assumption) | (with_reducible refine unhide kdrew _ ?_; with_reducible assumption) | (with_reducible refine unhide kalloc _ _ ?_; with_reducible assumption) | (refine unhide kcall _ _ ?_ (by assumption); with_reducible assumption) | (with_reducible refine unhide kdrew _ (unhide kalloc _ _ ?_); with_reducible assumption) | (with_reducible refine unhide kalloc _ _ (unhide kdrew _ ?_); with_reducible assumption))
    clear hK K hHeld7
    try simp only [Act.put,List.setIfInBounds_toArray,List.set_cons_zero,List.set_cons_succ]
    refine takeH6 (i := 18) (d := 21) (v := ?_) rfl rfl (by kernel_rfl) (by kernel_rfl) (by kernel_rfl) (fun _ _ _ h => h) (Or.inl ⟨by rfl,?_⟩) (by assumption) ?_
    rotate_left
    · (intro W hSW; (try dsimp only at hSW); go_simp; try (with_reducible rfl))
    try simp only [Act.put,List.setIfInBounds_toArray,List.set_cons_zero,List.set_cons_succ]
    refine takeH6 (i := 19) (d := 22) (v := ?_) rfl rfl (by kernel_rfl) (by kernel_rfl) (by kernel_rfl) (fun _ _ _ h => h) (Or.inl ⟨by rfl,?_⟩) (by assumption) ?_
    rotate_left
    · (intro W hSW; (try dsimp only at hSW); go_simp; try (with_reducible rfl))
    try simp only [Act.put,List.setIfInBounds_toArray,List.set_cons_zero,List.set_cons_succ]
    refine takeH6 (i := 20) (d := 23) (v := ?_) rfl rfl (by kernel_rfl) (by kernel_rfl) (by kernel_rfl) (fun _ _ _ h => h) (Or.inl ⟨by rfl,?_⟩) (by assumption) ?_
    rotate_left
    · (intro W hSW; (try dsimp only at hSW); go_simp; try (with_reducible rfl))
    try simp only [Act.put,List.setIfInBounds_toArray,List.set_cons_zero,List.set_cons_succ]
    refine wpAnyH_ready (rs := [21]) (by kernel_rfl) (by simp) ?_
    refine AllReadyH.cons (o := _) rfl (fun K hK => ?_) AllReadyH.nil
    go_simp
    (go_at_call 112; refine (unhide kP _ _ (by rfl)).mono ?_; rintro e w9 ⟨rfl,rfl⟩)
    refine hK.out _ _ ?_ (fun hHeld9 => ?_)
    · (try dsimp only)
      (first | (with_reducible exact hS) | (with_reducible assumption) | (with_reducible refine unhide kdrew _ ?_; with_reducible assumption) | (with_reducible refine unhide kalloc _ _ ?_; with_reducible assumption) | (refine unhide kcall _ _ ?_ (by assumption); with_reducible assumption) | (with_reducible refine unhide kdrew _ (unhide kalloc _ _ ?_); with_reducible assumption) | (with_reducible refine unhide kalloc _ _ (unhide kdrew _ ?_); with_reducible assumption))
    clear hK K hHeld8
    try simp only [Act.put,List.setIfInBounds_toArray,List.set_cons_zero,List.set_cons_succ]
    refine takeH6 (i := 22) (d := 25) (v := ?_) rfl rfl (by kernel_rfl) (by kernel_rfl) (by kernel_rfl) (fun _ _ _ h => h) (Or.inl ⟨by rfl,?_⟩) (by assumption) ?_
    rotate_left
    · (intro W hSW; (try dsimp only at hSW); go_simp; try (with_reducible rfl))
    try simp only [Act.put,List.setIfInBounds_toArray,List.set_cons_zero,List.set_cons_succ]
    refine wpAnyH_ready (rs := [23]) (by kernel_rfl) (by simp) ?_
    refine AllReadyH.cons (o := _) rfl (fun K hK => ?_) AllReadyH.nil
    go_simp
    (go_at_call 103; refine (unhide cU5 _ _ _ (by rfl) (by rfl)).mono ?_; rintro e w9 ⟨rfl,rfl⟩)
    refine hK.out _ _ ?_ (fun hHeld10 => ?_)
    · (try dsimp only)
      (first | (with_reducible exact hS) | (with_reducible assumption) | (with_reducible refine unhide kdrew _ ?_; with_reducible assumption) | (with_reducible refine unhide kalloc _ _ ?_; with_reducible assumption) | (refine unhide kcall _ _ ?_ (by assumption); with_reducible assumption) | (with_reducible refine unhide kdrew _ (unhide kalloc _ _ ?_); with_reducible assumption) | (with_reducible refine unhide kalloc _ _ (unhide kdrew _ ?_); with_reducible assumption))
    clear hK K hHeld9
    try simp only [Act.put,List.setIfInBounds_toArray,List.set_cons_zero,List.set_cons_succ]
    refine wpAnyH_ready (rs := [26]) (by kernel_rfl) (by simp) ?_
    refine AllReadyH.cons (o := _) rfl (fun K hK => ?_) AllReadyH.nil
    go_simp
    (go_at_call 117; with_reducible refine (unhide k6 _ ?_).mono ?_; with_reducible assumption; rintro e w9 ⟨rfl,hw9⟩)
    refine hK.out _ _ ?_ (fun hHeld11 => ?_)
    · (try dsimp only)
      (first | (with_reducible exact hS) | (with_reducible assumption) | (with_reducible refine unhide kdrew _ ?_; with_reducible assumption) | (with_reducible refine unhide kalloc _ _ ?_; with_reducible assumption) | (refine unhide kcall _ _ ?_ (by assumption); with_reducible assumption) | (with_reducible refine unhide kdrew _ (unhide kalloc _ _ ?_); with_reducible assumption) | (with_reducible refine unhide kalloc _ _ (unhide kdrew _ ?_); with_reducible assumption))
    clear hK K hHeld10 hw9
    try simp only [Act.put,List.setIfInBounds_toArray,List.set_cons_zero,List.set_cons_succ]
    refine wpAnyH_ready (rs := [27]) (by kernel_rfl) (by simp) ?_
    refine AllReadyH.cons (o := _) rfl (fun K hK => ?_) AllReadyH.nil
    go_simp
    refine hK.out _ _ ?_ (fun hHeld12 => ?_)
    · (try dsimp only)
      (first | (with_reducible exact hS) | (with_reducible assumption) | (with_reducible refine unhide kdrew _ ?_; with_reducible assumption) | (with_reducible refine unhide kalloc _ _ ?_; with_reducible assumption) | (refine unhide kcall _ _ ?_ (by assumption); with_reducible assumption) | (with_reducible refine unhide kdrew _ (unhide kalloc _ _ ?_); with_reducible assumption) | (with_reducible refine unhide kalloc _ _ (unhide kdrew _ ?_); with_reducible assumption))
    clear hK K hHeld11
    try simp only [Act.put,List.setIfInBounds_toArray,List.set_cons_zero,List.set_cons_succ]
    refine wpAnyH_ready (rs := [28]) (by kernel_rfl) (by simp) ?_
    refine AllReadyH.cons (o := _) rfl (fun K hK => ?_) AllReadyH.nil
    go_simp
    (go_at_call 102; refine (unhide cOr _ _ (by simp [go_sem]) (by simp [go_sem]) (by simp [go_sem]) (by simp [go_sem]) (by simp [go_sem]) (by simp [go_sem])).mono ?_; rintro e w9 ⟨rfl,rfl⟩)
    refine hK.out _ _ ?_ (fun hHeld13 => ?_)
    · (try dsimp only)
      (first | (with_reducible exact hS) | (with_reducible assumption) | (with_reducible refine unhide kdrew _ ?_; with_reducible assumption) | (with_reducible refine unhide kalloc _ _ ?_; with_reducible assumption) | (refine unhide kcall _ _ ?_ (by assumption); with_reducible assumption) | (with_reducible refine unhide kdrew _ (unhide kalloc _ _ ?_); with_reducible assumption) | (with_reducible refine unhide kalloc _ _ (unhide kdrew _ ?_); with_reducible assumption))
    clear hK K hHeld12
    try simp only [Act.put,List.setIfInBounds_toArray,List.set_cons_zero,List.set_cons_succ]
    refine takeH6 (i := 29) (d := 2) (v := ?_) rfl rfl (by kernel_rfl) (by kernel_rfl) (by kernel_rfl) (fun _ _ _ h => h) (Or.inl ⟨by rfl,?_⟩) (by assumption) ?_
    rotate_left
    · (intro W hSW; (try dsimp only at hSW); go_simp; try (with_reducible rfl))
    try simp only [Act.put,List.setIfInBounds_toArray,List.set_cons_zero,List.set_cons_succ]
    refine wpAnyH_done (by kernel_rfl) ?_ _
    refine NoPanic.normal ?_
    have hHeld := hHeld13
    clear hHeld13

    go_wp2_with fail
    go_ret
    exact ⟨rfl,(unhide hHeld.1).gr⟩
end Go.Proofs.YtfpfdnapamdhjaaGreatDoor
