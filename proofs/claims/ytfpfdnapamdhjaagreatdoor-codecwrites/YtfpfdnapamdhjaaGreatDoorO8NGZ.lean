/- Layer 8: the document's Command and Pool -/
import Derived.Test.YtfpfdnapamdhjaaGreatDoorO8EGZ
namespace Go.Proofs.YtfpfdnapamdhjaaGreatDoor
open Go.RowKit Suf Val

theorem ore_unl {b : Bool} {e : Int} {l : List Int} (h : b = true) : orE (unl b e :: l) = orE l := by rw [h]; rfl
theorem ore_zero0 (l : List Int) : orE (0 :: l) = orE l := rfl
theorem btw_no {lo n hi : Int} (h : n < lo ∨ hi < n) : btwB lo n hi = false := by
  unfold btwB
  rcases h with h | h
  · rw [decide_eq_false (by omega)]; rfl
  · rw [decide_eq_false (show ¬ n <= hi by omega),Bool.and_false]
theorem btw_yes {lo n hi : Int} (h0 : lo <= n) (h1 : n <= hi) : btwB lo n hi = true := by
  unfold btwB
  rw [decide_eq_true h0,decide_eq_true h1]; rfl
set_option maxRecDepth 100000 in
set_option maxHeartbeats 32000000 in
theorem rpool_any (p : VPool) (u1 u2 : Value) (w : World) (h : PolIn w p u1 u2) :
    Calls Tryz.prog 39 #[polA p u1 u2] w fun e w' => e = .returned (.int .i64 (poolR p)) /\ Below w.heap.size w w' := by
  have hR : Hid (poolR p = orE [unl (nameB p.name) 7,unl (btwB 0 p.weight 100) 1,Am.chkA p.limit.1 p.limit.2,moreR 8 p.reqs,Ta.Val.taintR p.taints,unl (timeB p.gen && btwB 0 p.expire 1073741824) 1,unl (btwB 0 p.budget 16) 1,unl (btwB 0 p.merge 2) 1]) := rfl
  obtain ⟨R,hRR⟩ : ∃ R,R = poolR p := ⟨_,rfl⟩
  rw [<- hRR] at hR ⊢
  clear hRR
  have cN := hide (rname8 p.name h.n1)
  have k3 := hide (Am.rcheckAll_any p.limit.1 p.limit.2)
  have hq1 := h.rq
  have hq2 := h.tn
  obtain ⟨a1,c1,hu1⟩ := h.rq.val
  obtain ⟨n1,hn1⟩ : ∃ n,n = p.reqs.length := ⟨_,rfl⟩
  obtain ⟨a2,c2,hu2⟩ := h.tn.val
  obtain ⟨n2,hn2⟩ : ∃ n,n = p.taints.length := ⟨_,rfl⟩
  unfold polA
  rw [hu1]
  rw [hu1,<- hn1] at hq1
  rw [hu2]
  rw [hu2,<- hn2] at hq2
  rw [<- hn1,<- hn2]
  clear h hu1 hu2
  obtain ⟨qn,hqn⟩ : ∃ z,z = nameB p.name := ⟨_,rfl⟩
  obtain ⟨z3,hz3⟩ : ∃ z,z = Am.chkA p.limit.1 p.limit.2 := ⟨_,rfl⟩
  obtain ⟨z4,hz4⟩ : ∃ z,z = moreR 8 p.reqs := ⟨_,rfl⟩
  obtain ⟨z5,hz5⟩ : ∃ z,z = Ta.Val.taintR p.taints := ⟨_,rfl⟩
  obtain ⟨qg,hqg⟩ : ∃ z,z = timeB p.gen := ⟨_,rfl⟩
  obtain ⟨qe,hqe⟩ : ∃ z,z = btwB 0 p.expire 1073741824 := ⟨_,rfl⟩
  obtain ⟨X0,hX0⟩ : ∃ z,z = bytesT p.name := ⟨_,rfl⟩
  obtain ⟨N0,hN0⟩ : ∃ z,z = p.limit.1 := ⟨_,rfl⟩
  obtain ⟨N1,hN1⟩ : ∃ z,z = p.limit.2 := ⟨_,rfl⟩
  obtain ⟨W0,hW0⟩ : ∃ z,z = p.weight := ⟨_,rfl⟩
  obtain ⟨G0,hG0⟩ : ∃ z,z = p.gen := ⟨_,rfl⟩
  obtain ⟨E0,hE0⟩ : ∃ z,z = p.expire := ⟨_,rfl⟩
  obtain ⟨B0,hB0⟩ : ∃ z,z = p.budget := ⟨_,rfl⟩
  obtain ⟨M0,hM0⟩ : ∃ z,z = p.merge := ⟨_,rfl⟩
  rw [<- hqn,<- hz3,<- hz4,<- hz5,<- hqg,<- hqe,<- hW0,<- hB0,<- hM0] at hR
  rw [<- hqn,<- hX0] at cN
  rw [<- hz3,<- hN0,<- hN1] at k3
  have kG : Hid (∀ V v1 v3 vv,v1 = .int .i64 G0 -> v3 = .int .i64 1099511627776 -> vv = .int .i64 0 -> Calls Tryz.prog 90 #[v1,vv,v3] V fun e w' => e = .returned (.bool qg) /\ w' = V) := fun V v1 v3 vv e1 e3 e2 => by rw [e1,e2,e3,hqg,hG0]; exact rbtw_any _ 0 1099511627776 V
  have kE : Hid (∀ V v1 v3 vv,v1 = .int .i64 E0 -> v3 = .int .i64 1073741824 -> vv = .int .i64 0 -> Calls Tryz.prog 90 #[v1,vv,v3] V fun e w' => e = .returned (.bool qe) /\ w' = V) := fun V v1 v3 vv e1 e3 e2 => by rw [e1,e2,e3,hqe,hE0]; exact rbtw_any _ 0 1073741824 V
  have k4 : Hid (∀ V,Below w.heap.size w V -> Calls Tryz.prog 87 #[.slice a1 n1 c1] V fun e w' => e = .returned (.int .i64 z4) /\ Below V.heap.size V w') := fun V hb => by rw [hz4]; exact rcheck4_any _ _ V (hq1.below hb)
  have k5 : Hid (∀ V,Below w.heap.size w V -> Calls Tryz.prog 91 #[.slice a2 n2 c2] V fun e w' => e = .returned (.int .i64 z5) /\ Below V.heap.size V w') := fun V hb => by rw [hz5]; exact Ta.rcheck_any _ _ V (hq2.below hb)
  rw [<- hX0,<- hN0,<- hN1,<- hW0,<- hG0,<- hE0,<- hB0,<- hM0]
  clear hq1 hq2 hn1 hn2 hqn hz3 hz4 hz5 hqg hqe hX0 hN0 hN1 hW0 hG0 hE0 hB0 hM0
  obtain ⟨W1,hW1⟩ : ∃ W,W = w.alloc (.cells #[.string X0,.int .i64 W0,.int .i64 N0,.int .i64 N1,.slice a1 n1 c1,.slice a2 n2 c2,.int .i64 G0,.int .i64 E0,.int .i64 B0,.int .i64 M0] 32) := ⟨_,rfl⟩
  have HH : Hid (HeldS w [(⟨w.heap.size,0,none⟩,.string X0),(⟨w.heap.size,1,none⟩,.int .i64 W0),(⟨w.heap.size,2,none⟩,.int .i64 N0),(⟨w.heap.size,3,none⟩,.int .i64 N1),(⟨w.heap.size,4,none⟩,.slice a1 n1 c1),(⟨w.heap.size,5,none⟩,.slice a2 n2 c2),(⟨w.heap.size,6,none⟩,.int .i64 G0),(⟨w.heap.size,7,none⟩,.int .i64 E0),(⟨w.heap.size,8,none⟩,.int .i64 B0),(⟨w.heap.size,9,none⟩,.int .i64 M0)] W1) := by
    rw [hW1]
    exact ⟨boxb _,fun x hx => by simp only [List.mem_cons,List.not_mem_nil,or_false] at hx; rcases hx with rfl | rfl | rfl | rfl | rfl | rfl | rfl | rfl | rfl | rfl <;> simp [go_sem]⟩
  have GW := hide hW1
  clear hW1
  go_enter Tryz.func39,Tryz.ntmps39
  go_wp2_with fail
  rw [<- unhide GW]
  refine (unhide cN _).mono ?_
  rintro e w9 ⟨rfl,hw9⟩
  obtain rfl := hw9.symm
  clear hw9
  cases qn
  · have hfin : Hid (R = 7) := by show _ = _; rw [unhide hR]; rfl
    go_wp2_with fail
    go_ret
    exact ⟨ret_int (unhide hfin).symm,(unhide HH).gr⟩
  replace hR := hide ((unhide hR).trans (ore_zero0 _))
  have f1 := (unhide HH).at 1 rfl
  by_cases hz : W0 < 0
  · have hfin : Hid (R = 1) := by show _ = _; rw [unhide hR,btw_no (by omega),ore_cons]; rfl
    go_wp2_with fail
    go_ret
    exact ⟨ret_int (unhide hfin).symm,(unhide HH).gr⟩
  have hz0 : 0 <= W0 := by omega
  clear hz
  by_cases hz : 100 < W0
  · have hfin : Hid (R = 1) := by show _ = _; rw [unhide hR,btw_no (by omega),ore_cons]; rfl
    go_wp2_with fail
    go_ret
    exact ⟨ret_int (unhide hfin).symm,(unhide HH).gr⟩
  have hz1 : W0 <= 100 := by omega
  clear hz
  replace hR := hide ((unhide hR).trans (ore_unl (btw_yes hz0 hz1)))
  have f2 := (unhide HH).at 2 rfl
  have f3 := (unhide HH).at 3 rfl
  go_wp2_with fail
  clear f2 f3
  refine (unhide k3 _).mono ?_
  rintro e w9 ⟨rfl,hw9⟩
  replace HH := hide ((unhide HH).below hw9)
  clear hw9
  by_cases hz : ¬ z3 = 0
  · have hb := nz hz
    have hfin : Hid (R = z3) := by show _ = _; rw [unhide hR,ore_cons,if_neg hz]
    clear hz
    go_wp2_with fail
    go_ret
    exact ⟨ret_int (unhide hfin).symm,(unhide HH).gr⟩
  have hz2 := Decidable.of_not_not hz
  clear hz
  subst hz2
  replace hR := hide ((unhide hR).trans (ore_zero0 _))
  have f4 := (unhide HH).at 4 rfl
  go_wp2_with fail
  clear f4
  refine (unhide k4 _ (unhide HH).gr).mono ?_
  rintro e w9 ⟨rfl,hw9⟩
  replace HH := hide ((unhide HH).below hw9)
  clear hw9
  by_cases hz : ¬ z4 = 0
  · have hb := nz hz
    have hfin : Hid (R = z4) := by show _ = _; rw [unhide hR,ore_cons,if_neg hz]
    clear hz
    go_wp2_with fail
    go_ret
    exact ⟨ret_int (unhide hfin).symm,(unhide HH).gr⟩
  have hz2 := Decidable.of_not_not hz
  clear hz
  subst hz2
  replace hR := hide ((unhide hR).trans (ore_zero0 _))
  have f5 := (unhide HH).at 5 rfl
  go_wp2_with fail
  clear f5
  refine (unhide k5 _ (unhide HH).gr).mono ?_
  rintro e w9 ⟨rfl,hw9⟩
  replace HH := hide ((unhide HH).below hw9)
  clear hw9
  by_cases hz : ¬ z5 = 0
  · have hb := nz hz
    have hfin : Hid (R = z5) := by show _ = _; rw [unhide hR,ore_cons,if_neg hz]
    clear hz
    go_wp2_with fail
    go_ret
    exact ⟨ret_int (unhide hfin).symm,(unhide HH).gr⟩
  have hz2 := Decidable.of_not_not hz
  clear hz
  subst hz2
  replace hR := hide ((unhide hR).trans (ore_zero0 _))
  have f6 := (unhide HH).at 6 rfl
  have f7 := (unhide HH).at 7 rfl
  have f8 := (unhide HH).at 8 rfl
  have f9 := (unhide HH).at 9 rfl
  go_wp2_with fail
  refine (unhide kG _ _ _ _ (by rfl) (by rfl) (by rfl)).mono ?_
  rintro e w9 ⟨rfl,hw9⟩
  obtain rfl := hw9.symm
  clear hw9
  cases qg
  · have hfin : Hid (R = 1) := by show _ = _; rw [unhide hR]; rfl
    go_wp2_with fail
    go_ret
    exact ⟨ret_int (unhide hfin).symm,(unhide HH).gr⟩
  go_wp2_with fail
  refine (unhide kE _ _ _ _ (by rfl) (by rfl) (by rfl)).mono ?_
  rintro e w9 ⟨rfl,hw9⟩
  obtain rfl := hw9.symm
  clear hw9
  cases qe
  · have hfin : Hid (R = 1) := by show _ = _; rw [unhide hR]; rfl
    go_wp2_with fail
    go_ret
    exact ⟨ret_int (unhide hfin).symm,(unhide HH).gr⟩
  replace hR := hide ((unhide hR).trans (ore_zero0 _))
  by_cases hz : B0 < 0
  · have hfin : Hid (R = 1) := by show _ = _; rw [unhide hR,btw_no (by omega),ore_cons]; rfl
    go_wp2_with fail
    go_ret
    exact ⟨ret_int (unhide hfin).symm,(unhide HH).gr⟩
  have hzB00 : 0 <= B0 := by omega
  clear hz
  by_cases hz : 16 < B0
  · have hfin : Hid (R = 1) := by show _ = _; rw [unhide hR,btw_no (by omega),ore_cons]; rfl
    go_wp2_with fail
    go_ret
    exact ⟨ret_int (unhide hfin).symm,(unhide HH).gr⟩
  have hzB01 : B0 <= 16 := by omega
  clear hz
  replace hR := hide ((unhide hR).trans (ore_unl (btw_yes hzB00 hzB01)))
  by_cases hz : M0 < 0
  · have hfin : Hid (R = 1) := by show _ = _; rw [unhide hR,btw_no (by omega),ore_cons]; rfl
    go_wp2_with fail
    go_ret
    exact ⟨ret_int (unhide hfin).symm,(unhide HH).gr⟩
  have hzM00 : 0 <= M0 := by omega
  clear hz
  by_cases hz : 2 < M0
  · have hfin : Hid (R = 1) := by show _ = _; rw [unhide hR,btw_no (by omega),ore_cons]; rfl
    go_wp2_with fail
    go_ret
    exact ⟨ret_int (unhide hfin).symm,(unhide HH).gr⟩
  have hzM01 : M0 <= 2 := by omega
  clear hz
  replace hR := hide ((unhide hR).trans (ore_unl (btw_yes hzM00 hzM01)))
  have hfin : Hid (R = 0) := unhide hR
  go_wp2_with fail
  go_ret
  exact ⟨ret_int (unhide hfin).symm,(unhide HH).gr⟩
end Go.Proofs.YtfpfdnapamdhjaaGreatDoor

/- Layer 8: the document's Claim -/
namespace Go.Proofs.YtfpfdnapamdhjaaGreatDoor
open Go.RowKit Suf Val

set_option maxRecDepth 100000 in
set_option maxHeartbeats 32000000 in
theorem rclaim_any (p : VClaim) (u1 : Value) (w : World) (h : ClmIn w p u1) :
    Calls Tryz.prog 40 #[clmA p u1] w fun e w' => e = .returned (.int .i64 (claimR p)) /\ Below w.heap.size w w' := by
  have hR : Hid (claimR p = orE [unl ((nameB p.name && nameB p.pool) && namedO p.offer) 7,Am.chk p.price,Am.chkA p.cap.1 p.cap.2,offsR8 p.opts,unl (btwB 1 p.tryN 32) 1,unl (decide (p.id.length <= 16)) 2,unl (btwB 1 p.phase 4) 1,unl (timeB p.gen && timeB p.born) 1]) := rfl
  obtain ⟨R,hRR⟩ : ∃ R,R = claimR p := ⟨_,rfl⟩
  rw [<- hRR] at hR ⊢
  clear hRR
  have cN := hide (rname8 p.name h.n1)
  have cP := hide (rname8 p.pool h.n2)
  have kO := hide (rnames8_any p.offer · h.of)
  have k2 := hide (Am.rcheck_any p.price)
  have k3 := hide (Am.rcheckAll_any p.cap.1 p.cap.2)
  have hlen : p.id.length = (bytesT p.id).size := (bytesT_size p.id).symm
  have hq1 := h.ops
  obtain ⟨a1,c1,hu1⟩ := h.ops.val
  obtain ⟨n1,hn1⟩ : ∃ n,n = p.opts.length := ⟨_,rfl⟩
  unfold clmA
  rw [hu1]
  rw [hu1,<- hn1] at hq1
  rw [<- hn1]
  clear h hu1
  obtain ⟨qn,hqn⟩ : ∃ z,z = nameB p.name := ⟨_,rfl⟩
  obtain ⟨qp,hqp⟩ : ∃ z,z = nameB p.pool := ⟨_,rfl⟩
  obtain ⟨qo,hqo⟩ : ∃ z,z = namedO p.offer := ⟨_,rfl⟩
  obtain ⟨z2,hz2⟩ : ∃ z,z = Am.chk p.price := ⟨_,rfl⟩
  obtain ⟨z3,hz3⟩ : ∃ z,z = Am.chkA p.cap.1 p.cap.2 := ⟨_,rfl⟩
  obtain ⟨z4,hz4⟩ : ∃ z,z = offsR8 p.opts := ⟨_,rfl⟩
  obtain ⟨qg,hqg⟩ : ∃ z,z = timeB p.gen := ⟨_,rfl⟩
  obtain ⟨qb,hqb⟩ : ∃ z,z = timeB p.born := ⟨_,rfl⟩
  obtain ⟨X0,hX0⟩ : ∃ z,z = bytesT p.name := ⟨_,rfl⟩
  obtain ⟨X1,hX1⟩ : ∃ z,z = bytesT p.pool := ⟨_,rfl⟩
  obtain ⟨X2,hX2⟩ : ∃ z,z = bytesT p.id := ⟨_,rfl⟩
  obtain ⟨Y0,hY0⟩ : ∃ z,z = bytesT p.offer.1 := ⟨_,rfl⟩
  obtain ⟨Y1,hY1⟩ : ∃ z,z = bytesT p.offer.2.1 := ⟨_,rfl⟩
  obtain ⟨Y2,hY2⟩ : ∃ z,z = bytesT p.offer.2.2 := ⟨_,rfl⟩
  obtain ⟨N0,hN0⟩ : ∃ z,z = p.cap.1 := ⟨_,rfl⟩
  obtain ⟨N1,hN1⟩ : ∃ z,z = p.cap.2 := ⟨_,rfl⟩
  obtain ⟨P0,hP0⟩ : ∃ z,z = p.price := ⟨_,rfl⟩
  obtain ⟨G0,hG0⟩ : ∃ z,z = p.gen := ⟨_,rfl⟩
  obtain ⟨B0,hB0⟩ : ∃ z,z = p.born := ⟨_,rfl⟩
  obtain ⟨T0,hT0⟩ : ∃ z,z = p.tryN := ⟨_,rfl⟩
  obtain ⟨H0,hH0⟩ : ∃ z,z = p.phase := ⟨_,rfl⟩
  obtain ⟨D0,hD0⟩ : ∃ z,z = p.marked := ⟨_,rfl⟩
  rw [<- hqn,<- hqp,<- hqo,<- hz2,<- hz3,<- hz4,<- hqg,<- hqb,<- hT0,<- hH0,hlen,<- hX2] at hR
  unfold offA at kO
  rw [<- hqn,<- hX0] at cN
  rw [<- hqp,<- hX1] at cP
  rw [<- hqo,<- hY0,<- hY1,<- hY2] at kO
  rw [<- hz2,<- hP0] at k2
  rw [<- hz3,<- hN0,<- hN1] at k3
  have kG : Hid (∀ V v1 v3 vv,v1 = .int .i64 G0 -> v3 = .int .i64 1099511627776 -> vv = .int .i64 0 -> Calls Tryz.prog 90 #[v1,vv,v3] V fun e w' => e = .returned (.bool qg) /\ w' = V) := fun V v1 v3 vv e1 e3 e2 => by rw [e1,e2,e3,hqg,hG0]; exact rbtw_any _ 0 1099511627776 V
  have kB : Hid (∀ V v1 v3 vv,v1 = .int .i64 B0 -> v3 = .int .i64 1099511627776 -> vv = .int .i64 0 -> Calls Tryz.prog 90 #[v1,vv,v3] V fun e w' => e = .returned (.bool qb) /\ w' = V) := fun V v1 v3 vv e1 e3 e2 => by rw [e1,e2,e3,hqb,hB0]; exact rbtw_any _ 0 1099511627776 V
  have k4 : Hid (∀ V,Below w.heap.size w V -> Calls Tryz.prog 94 #[.slice a1 n1 c1] V fun e w' => e = .returned (.int .i64 z4) /\ Below V.heap.size V w') := fun V hb => by rw [hz4]; exact roffers_any _ _ V (hq1.below hb)
  rw [<- hX0,<- hX1,<- hX2,<- hY0,<- hY1,<- hY2,<- hP0,<- hN0,<- hN1,<- hG0,<- hT0,<- hH0,<- hB0,<- hD0]
  clear hq1 hn1 hqn hqp hqo hz2 hz3 hz4 hqg hqb hX0 hX1 hX2 hY0 hY1 hY2 hN0 hN1 hP0 hG0 hB0 hT0 hH0 hD0 hlen
  obtain ⟨W1,hW1⟩ : ∃ W,W = w.alloc (.cells #[.string X0,.string X1,.int .i64 G0,.string Y0,.string Y1,.string Y2,.int .i64 P0,.int .i64 N0,.int .i64 N1,.slice a1 n1 c1,.int .i64 T0,.string X2,.int .i64 H0,.int .i64 B0,.bool D0] 37) := ⟨_,rfl⟩
  have HH : Hid (HeldS w [(⟨w.heap.size,0,none⟩,.string X0),(⟨w.heap.size,1,none⟩,.string X1),(⟨w.heap.size,2,none⟩,.int .i64 G0),(⟨w.heap.size,3,none⟩,.string Y0),(⟨w.heap.size,4,none⟩,.string Y1),(⟨w.heap.size,5,none⟩,.string Y2),(⟨w.heap.size,6,none⟩,.int .i64 P0),(⟨w.heap.size,7,none⟩,.int .i64 N0),(⟨w.heap.size,8,none⟩,.int .i64 N1),(⟨w.heap.size,9,none⟩,.slice a1 n1 c1),(⟨w.heap.size,10,none⟩,.int .i64 T0),(⟨w.heap.size,11,none⟩,.string X2),(⟨w.heap.size,12,none⟩,.int .i64 H0),(⟨w.heap.size,13,none⟩,.int .i64 B0),(⟨w.heap.size,14,none⟩,.bool D0)] W1) := by
    rw [hW1]
    exact ⟨boxb _,fun x hx => by simp only [List.mem_cons,List.not_mem_nil,or_false] at hx; rcases hx with rfl | rfl | rfl | rfl | rfl | rfl | rfl | rfl | rfl | rfl | rfl | rfl | rfl | rfl | rfl <;> simp [go_sem]⟩
  have GW := hide hW1
  clear hW1
  go_enter Tryz.func40,Tryz.ntmps40
  go_wp2_with fail
  rw [<- unhide GW]
  have f1 := (unhide HH).at 1 rfl
  refine (unhide cN _).mono ?_
  rintro e w9 ⟨rfl,hw9⟩
  obtain rfl := hw9.symm
  clear hw9
  cases qn
  · have hfin : Hid (R = 7) := by show _ = _; rw [unhide hR]; rfl
    go_wp2_with fail
    go_ret
    exact ⟨ret_int (unhide hfin).symm,(unhide HH).gr⟩
  go_wp2_with fail
  clear f1
  refine (unhide cP _).mono ?_
  rintro e w9 ⟨rfl,hw9⟩
  obtain rfl := hw9.symm
  clear hw9
  cases qp
  · have hfin : Hid (R = 7) := by show _ = _; rw [unhide hR]; rfl
    go_wp2_with fail
    go_ret
    exact ⟨ret_int (unhide hfin).symm,(unhide HH).gr⟩
  have f3 := (unhide HH).at 3 rfl
  have f4 := (unhide HH).at 4 rfl
  have f5 := (unhide HH).at 5 rfl
  go_wp2_with fail
  clear f3 f4 f5
  refine (unhide kO _).mono ?_
  rintro e w9 ⟨rfl,hw9⟩
  replace HH := hide ((unhide HH).below hw9)
  clear hw9
  cases qo
  · have hfin : Hid (R = 7) := by show _ = _; rw [unhide hR]; rfl
    go_wp2_with fail
    go_ret
    exact ⟨ret_int (unhide hfin).symm,(unhide HH).gr⟩
  replace hR := hide ((unhide hR).trans (ore_zero0 _))
  have f6 := (unhide HH).at 6 rfl
  go_wp2_with fail
  clear f6
  refine (unhide k2 _).mono ?_
  rintro e w9 ⟨rfl,hw9⟩
  obtain rfl := hw9.symm
  clear hw9
  by_cases hz : ¬ z2 = 0
  · have hb := nz hz
    have hfin : Hid (R = z2) := by show _ = _; rw [unhide hR,ore_cons,if_neg hz]
    clear hz
    go_wp2_with fail
    go_ret
    exact ⟨ret_int (unhide hfin).symm,(unhide HH).gr⟩
  have hz2 := Decidable.of_not_not hz
  clear hz
  subst hz2
  replace hR := hide ((unhide hR).trans (ore_zero0 _))
  have f7 := (unhide HH).at 7 rfl
  have f8 := (unhide HH).at 8 rfl
  go_wp2_with fail
  clear f7 f8
  refine (unhide k3 _).mono ?_
  rintro e w9 ⟨rfl,hw9⟩
  replace HH := hide ((unhide HH).below hw9)
  clear hw9
  by_cases hz : ¬ z3 = 0
  · have hb := nz hz
    have hfin : Hid (R = z3) := by show _ = _; rw [unhide hR,ore_cons,if_neg hz]
    clear hz
    go_wp2_with fail
    go_ret
    exact ⟨ret_int (unhide hfin).symm,(unhide HH).gr⟩
  have hz2 := Decidable.of_not_not hz
  clear hz
  subst hz2
  replace hR := hide ((unhide hR).trans (ore_zero0 _))
  have f9 := (unhide HH).at 9 rfl
  go_wp2_with fail
  clear f9
  refine (unhide k4 _ (unhide HH).gr).mono ?_
  rintro e w9 ⟨rfl,hw9⟩
  replace HH := hide ((unhide HH).below hw9)
  clear hw9
  by_cases hz : ¬ z4 = 0
  · have hb := nz hz
    have hfin : Hid (R = z4) := by show _ = _; rw [unhide hR,ore_cons,if_neg hz]
    clear hz
    go_wp2_with fail
    go_ret
    exact ⟨ret_int (unhide hfin).symm,(unhide HH).gr⟩
  have hz2 := Decidable.of_not_not hz
  clear hz
  subst hz2
  replace hR := hide ((unhide hR).trans (ore_zero0 _))
  have f10 := (unhide HH).at 10 rfl
  by_cases hz : T0 < 1
  · have hfin : Hid (R = 1) := by show _ = _; rw [unhide hR,btw_no (by omega),ore_cons]; rfl
    go_wp2_with fail
    go_ret
    exact ⟨ret_int (unhide hfin).symm,(unhide HH).gr⟩
  have hz0 : 1 <= T0 := by omega
  clear hz
  by_cases hz : 32 < T0
  · have hfin : Hid (R = 1) := by show _ = _; rw [unhide hR,btw_no (by omega),ore_cons]; rfl
    go_wp2_with fail
    go_ret
    exact ⟨ret_int (unhide hfin).symm,(unhide HH).gr⟩
  have hz1 : T0 <= 32 := by omega
  clear hz
  replace hR := hide ((unhide hR).trans (ore_unl (btw_yes hz0 hz1)))
  have f11 := (unhide HH).at 11 rfl
  by_cases hz : 16 < X2.size
  · have hfin : Hid (R = 2) := by show _ = _; rw [unhide hR,decide_eq_false (show ¬ X2.size <= 16 by omega)]; rfl
    go_wp2_with fail
    go_ret
    exact ⟨ret_int (unhide hfin).symm,(unhide HH).gr⟩
  have hz5 : X2.size <= 16 := by omega
  clear hz
  replace hR := hide ((unhide hR).trans (ore_unl (decide_eq_true hz5)))
  have f12 := (unhide HH).at 12 rfl
  by_cases hz : H0 < 1
  · have hfin : Hid (R = 1) := by show _ = _; rw [unhide hR,btw_no (by omega),ore_cons]; rfl
    go_wp2_with fail
    go_ret
    exact ⟨ret_int (unhide hfin).symm,(unhide HH).gr⟩
  have hz6 : 1 <= H0 := by omega
  clear hz
  by_cases hz : 4 < H0
  · have hfin : Hid (R = 1) := by show _ = _; rw [unhide hR,btw_no (by omega),ore_cons]; rfl
    go_wp2_with fail
    go_ret
    exact ⟨ret_int (unhide hfin).symm,(unhide HH).gr⟩
  have hz7 : H0 <= 4 := by omega
  clear hz
  replace hR := hide ((unhide hR).trans (ore_unl (btw_yes hz6 hz7)))
  have f2 := (unhide HH).at 2 rfl
  have f13 := (unhide HH).at 13 rfl
  go_wp2_with fail
  refine (unhide kG _ _ _ _ (by rfl) (by rfl) (by rfl)).mono ?_
  rintro e w9 ⟨rfl,hw9⟩
  obtain rfl := hw9.symm
  clear hw9
  cases qg
  · have hfin : Hid (R = 1) := by show _ = _; rw [unhide hR]; rfl
    go_wp2_with fail
    go_ret
    exact ⟨ret_int (unhide hfin).symm,(unhide HH).gr⟩
  go_wp2_with fail
  refine (unhide kB _ _ _ _ (by rfl) (by rfl) (by rfl)).mono ?_
  rintro e w9 ⟨rfl,hw9⟩
  obtain rfl := hw9.symm
  clear hw9
  cases qb
  · have hfin : Hid (R = 1) := by show _ = _; rw [unhide hR]; rfl
    go_wp2_with fail
    go_ret
    exact ⟨ret_int (unhide hfin).symm,(unhide HH).gr⟩
  have hfin : Hid (R = 0) := by show _ = _; rw [unhide hR]; rfl
  go_wp2_with fail
  go_ret
  exact ⟨ret_int (unhide hfin).symm,(unhide HH).gr⟩
end Go.Proofs.YtfpfdnapamdhjaaGreatDoor

/- Layer 8: the document's Command -/
namespace Go.Proofs.YtfpfdnapamdhjaaGreatDoor
open Go.RowKit Suf Val

theorem ore_one (z : Int) : orE [z] = z := by show (if z = 0 then 0 else z) = z; by_cases h : z = 0 <;> simp [h]
set_option maxRecDepth 100000 in
set_option maxHeartbeats 32000000 in
theorem rcmd_any (p : VCmd) (u1 u2 : Value) (w : World) (h : CmdIn w p u1 u2) :
    Calls Tryz.prog 41 #[cmdA p u1 u2] w fun e w' => e = .returned (.int .i64 (cmdR p)) /\ Below w.heap.size w w' := by
  have hR : Hid (cmdR p = orE [unl (btwB 1 p.cause 4) 1,unl (btwB 1 p.step 3) 1,nodesR p.nodes,unl (timeB p.til) 1,unl (((p.fresh == []) || nameB p.fresh) && ((p.pool == []) || nameB p.pool)) 7,offsR8 p.opts]) := rfl
  obtain ⟨R,hRR⟩ : ∃ R,R = cmdR p := ⟨_,rfl⟩
  rw [<- hRR] at hR ⊢
  clear hRR
  have kF := hide (rname8 p.fresh h.n1)
  have kP := hide (rname8 p.pool h.n2)
  have g1 := nil_is p.fresh
  have g2 := nil_is p.pool
  have hq1 := h.nd
  have hq2 := h.ops
  obtain ⟨a1,c1,hu1⟩ := h.nd.val
  obtain ⟨n1,hn1⟩ : ∃ n,n = p.nodes.length := ⟨_,rfl⟩
  obtain ⟨a2,c2,hu2⟩ := h.ops.val
  obtain ⟨n2,hn2⟩ : ∃ n,n = p.opts.length := ⟨_,rfl⟩
  unfold cmdA
  rw [hu1]
  rw [hu1,<- hn1] at hq1
  rw [hu2]
  rw [hu2,<- hn2] at hq2
  rw [<- hn1,<- hn2]
  clear h hu1 hu2
  obtain ⟨e1,he1⟩ : ∃ z,z = (p.fresh == []) := ⟨_,rfl⟩
  obtain ⟨e2,he2⟩ : ∃ z,z = (p.pool == []) := ⟨_,rfl⟩
  obtain ⟨nf,hnf⟩ : ∃ z,z = nameB p.fresh := ⟨_,rfl⟩
  obtain ⟨np,hnp⟩ : ∃ z,z = nameB p.pool := ⟨_,rfl⟩
  obtain ⟨z6,hz6⟩ : ∃ z,z = offsR8 p.opts := ⟨_,rfl⟩
  obtain ⟨qu,hqu⟩ : ∃ z,z = timeB p.til := ⟨_,rfl⟩
  obtain ⟨l,hl⟩ : ∃ z,z = p.nodes := ⟨_,rfl⟩
  obtain ⟨X0,hX0⟩ : ∃ z,z = bytesT p.fresh := ⟨_,rfl⟩
  obtain ⟨X1,hX1⟩ : ∃ z,z = bytesT p.pool := ⟨_,rfl⟩
  obtain ⟨C0,hC0⟩ : ∃ z,z = p.cause := ⟨_,rfl⟩
  obtain ⟨T0,hT0⟩ : ∃ z,z = p.step := ⟨_,rfl⟩
  obtain ⟨U0,hU0⟩ : ∃ z,z = p.til := ⟨_,rfl⟩
  obtain ⟨D0,hD0⟩ : ∃ z,z = p.made := ⟨_,rfl⟩
  rw [<- he1,<- he2,<- hnf,<- hnp,<- hz6,<- hqu,<- hl,<- hC0,<- hT0] at hR
  rw [<- hnf,<- hX0] at kF
  rw [<- hnp,<- hX1] at kP
  rw [<- he1,<- hX0] at g1
  rw [<- he2,<- hX1] at g2
  have kU : Hid (∀ V v1 v3 vv,v1 = .int .i64 U0 -> v3 = .int .i64 1099511627776 -> vv = .int .i64 0 -> Calls Tryz.prog 90 #[v1,vv,v3] V fun e w' => e = .returned (.bool qu) /\ w' = V) := fun V v1 v3 vv e1 e3 e2 => by rw [e1,e2,e3,hqu,hU0]; exact rbtw_any _ 0 1099511627776 V
  have k6 : Hid (∀ V,Below w.heap.size w V -> Calls Tryz.prog 94 #[.slice a2 n2 c2] V fun e w' => e = .returned (.int .i64 z6) /\ Below V.heap.size V w') := fun V hb => by rw [hz6]; exact roffers_any _ _ V (hq2.below hb)
  rw [<- hX0,<- hX1,<- hC0,<- hT0,<- hU0,<- hD0]
  rw [<- hl] at hq1 hn1
  have hlen := hq1.len
  rw [<- hn1] at hlen
  have HV := hide hq1
  have HN := hide hn1
  obtain ⟨rs,hrs⟩ : ∃ rs,rs = [unl qu 1,unl ((e1 || nf) && (e2 || np)) 7,z6] := ⟨_,rfl⟩
  rw [<- hrs] at hR
  replace hrs := hide hrs
  clear hq1 hq2 hn1 hn2 he1 he2 hnf hnp hz6 hqu hl hX0 hX1 hC0 hT0 hU0 hD0
  have HH : Hid (HeldS w [(⟨w.heap.size,0,none⟩,.int .i64 C0),(⟨w.heap.size,1,none⟩,.slice a1 n1 c1),(⟨w.heap.size,2,none⟩,.int .i64 T0),(⟨w.heap.size,3,none⟩,.int .i64 U0),(⟨w.heap.size,4,none⟩,.string X0),(⟨w.heap.size,5,none⟩,.string X1),(⟨w.heap.size,6,none⟩,.slice a2 n2 c2),(⟨w.heap.size,7,none⟩,.bool D0)] (w.alloc (.cells #[.int .i64 C0,.slice a1 n1 c1,.int .i64 T0,.int .i64 U0,.string X0,.string X1,.slice a2 n2 c2,.bool D0] 40))) := ⟨boxb _,fun x hx => by simp only [List.mem_cons,List.not_mem_nil,or_false] at hx; rcases hx with rfl | rfl | rfl | rfl | rfl | rfl | rfl | rfl <;> simp [go_sem]⟩
  go_enter Tryz.func41,Tryz.ntmps41
  have f0 := (unhide HH).at 0 rfl
  have f2 := (unhide HH).at 2 rfl
  by_cases hz : C0 < 1
  · have hfin : Hid (R = 1) := by show _ = _; rw [unhide hR,btw_no (by omega),ore_cons]; rfl
    go_wp2_with fail
    go_ret
    exact ⟨ret_int (unhide hfin).symm,(unhide HH).gr⟩
  have hzC00 : 1 <= C0 := by omega
  clear hz
  by_cases hz : 4 < C0
  · have hfin : Hid (R = 1) := by show _ = _; rw [unhide hR,btw_no (by omega),ore_cons]; rfl
    go_wp2_with fail
    go_ret
    exact ⟨ret_int (unhide hfin).symm,(unhide HH).gr⟩
  have hzC01 : C0 <= 4 := by omega
  clear hz
  replace hR := hide ((unhide hR).trans (ore_unl (btw_yes hzC00 hzC01)))
  by_cases hz : T0 < 1
  · have hfin : Hid (R = 1) := by show _ = _; rw [unhide hR,btw_no (by omega),ore_cons]; rfl
    go_wp2_with fail
    go_ret
    exact ⟨ret_int (unhide hfin).symm,(unhide HH).gr⟩
  have hzT00 : 1 <= T0 := by omega
  clear hz
  by_cases hz : 3 < T0
  · have hfin : Hid (R = 1) := by show _ = _; rw [unhide hR,btw_no (by omega),ore_cons]; rfl
    go_wp2_with fail
    go_ret
    exact ⟨ret_int (unhide hfin).symm,(unhide HH).gr⟩
  have hzT01 : T0 <= 3 := by omega
  clear hz
  replace hR := hide ((unhide hR).trans (ore_unl (btw_yes hzT00 hzT01)))
  have f1 := (unhide HH).at 1 rfl
  by_cases h4 : 4 < n1
  · have hfin : Hid (R = 3) := by show _ = _; rw [unhide hR,ore_cons,show nodesR l = 3 by unfold nodesR; rw [if_pos (by rw [<- unhide HN]; exact h4)]]; rfl
    go_wp2_with fail
    go_ret
    exact ⟨ret_int (unhide hfin).symm,(unhide HH).gr⟩
  by_cases h0 : n1 = 0
  · have hfin : Hid (R = 1) := by show _ = _; rw [unhide hR,ore_cons,show nodesR l = 1 by unfold nodesR; rw [if_neg (by rw [<- unhide HN]; exact h4),if_pos (by rw [<- unhide HN]; exact h0)]]; rfl
    subst h0
    go_wp2_with fail
    go_ret
    exact ⟨ret_int (unhide hfin).symm,(unhide HH).gr⟩
  have hR2 : Hid (R = orE (nodesF (prevT l 0) (l.drop 0) :: rs)) := by show _ = _; rw [unhide hR,show nodesR l = nodesF (prevT l 0) (l.drop 0) by unfold nodesR; rw [if_neg (by rw [<- unhide HN]; exact h4),if_neg (by rw [<- unhide HN]; exact h0)]; rfl]
  have d0 : ((n1 : Int) == 0) = false := by rw [beq_eq_false_iff_ne]; omega
  have d1 : ¬ (n1 : Int) = 0 := by omega
  clear hR
  go_wp2_with fail
  clear d0 d1 f0 f1 f2
  go_loopw [34] (fun i W => ∃ k : Nat,k <= n1 /\ i = .int .i64 k /\ Hid (R = orE (nodesF (prevT l k) (l.drop k) :: rs)) /\ Hid (HeldS w [(⟨w.heap.size,0,none⟩,.int .i64 C0),(⟨w.heap.size,1,none⟩,.slice a1 n1 c1),(⟨w.heap.size,2,none⟩,.int .i64 T0),(⟨w.heap.size,3,none⟩,.int .i64 U0),(⟨w.heap.size,4,none⟩,.string X0),(⟨w.heap.size,5,none⟩,.string X1),(⟨w.heap.size,6,none⟩,.slice a2 n2 c2),(⟨w.heap.size,7,none⟩,.bool D0)] W)) (fun i _ => n1 - (intOf i).toNat)
  case atStart => exact ⟨0,Nat.zero_le _,rfl,hR2,HH⟩
  case round =>
    clear HH hR2
    obtain ⟨k,hk,rfl,hlab,HH⟩ := hrel
    by_cases hlt : k < n1
    · have hlk : k < l.length := by rw [<- unhide HN]; exact hlt
      obtain ⟨b,o,rfl,hat⟩ := ((unhide HV).below (unhide HH).gr).at hlk
      have hst := hide (nodes_step hlk)
      obtain ⟨y,hy⟩ : ∃ y,y = l[k] := ⟨_,rfl⟩
      rw [<- hy] at hat hst
      rw [unhide hst] at hlab
      obtain ⟨h0,hs0⟩ := at_str.1 hat
      rw [show strK.size = 1 from rfl,Nat.mul_one] at h0
      have hnm := hide (rname8 y hs0)
      obtain ⟨q,hq⟩ : ∃ q,q = nameB y := ⟨_,rfl⟩
      rw [<- hq] at hnm hlab
      clear hq hy hlk hat hs0 hst
      cases k with
      | zero =>
        rw [Nat.add_zero] at h0
        have hst2 : Hid (R = orE ((if q = false then 7 else nodesF (prevT l 1) (l.drop 1)) :: rs)) := unhide hlab
        clear hlab
        obtain ⟨X,hX⟩ : ∃ X,X = bytesT y := ⟨_,rfl⟩
        rw [<- hX] at h0 hnm
        clear hX
        go_wp2_with fail
        refine (unhide hnm _).mono ?_
        rintro e w9 ⟨rfl,hw9⟩
        obtain rfl := hw9.symm
        clear hw9 h0
        cases q
        · have hfin : Hid (R = 7) := by show _ = _; rw [unhide hst2]; rfl
          go_wp2_with fail
          go_ret
          exact ⟨ret_int (unhide hfin).symm,(unhide HH).gr⟩
        · have hnx : Hid (R = orE (nodesF (prevT l 1) (l.drop 1) :: rs)) := by show _ = _; rw [unhide hst2]; rfl
          go_wp2_with fail
          exact ⟨⟨1,by omega,by go_num,hnx,HH⟩,by simp [intOf]; omega⟩
      | succ m =>
        have hlm : m < l.length := by rw [<- unhide HN]; omega
        obtain ⟨b',o',eb,hat⟩ := ((unhide HV).below (unhide HH).gr).at hlm
        obtain ⟨rfl,rfl⟩ : b = b' /\ o = o' := by injection eb with eb; injection eb with e1 e2 _; exact ⟨e1,e2⟩
        rw [prevT_at hlm] at hlab
        obtain ⟨x,hx⟩ : ∃ x,x = l[m] := ⟨_,rfl⟩
        rw [<- hx] at hat hlab
        obtain ⟨g0,_⟩ := at_str.1 hat
        rw [show strK.size = 1 from rfl,Nat.mul_one] at g0
        obtain ⟨p,hp⟩ : ∃ p,p = lt x y := ⟨_,rfl⟩
        have hg : (Op.bytesLess (bytesT x).toList (bytesT y).toList) = p := by rw [hp,Lib.toList_data,Lib.toList_data]; rfl
        have hst2 : Hid (R = orE ((if q = false then 7 else if p = false then 6 else nodesF (prevT l (m + 1 + 1)) (l.drop (m + 1 + 1))) :: rs)) := by show _ = _; rw [unhide hlab,hp]; rfl
        clear hlab hp hx hlm eb hat
        obtain ⟨X,hX⟩ : ∃ X,X = bytesT y := ⟨_,rfl⟩
        obtain ⟨Z,hZ⟩ : ∃ X,X = bytesT x := ⟨_,rfl⟩
        rw [<- hX] at h0 hnm hg
        rw [<- hZ] at g0 hg
        clear hX hZ
        have e2 : ((m + 1 : Nat) : Int) = (m : Int) + 1 := by omega
        have i0 : (0 : Int) <= (m : Int) := by omega
        have i1 : (m : Int) < (n1 : Int) := by omega
        have f1 := (unhide HH).at 1 rfl
        rw [e2]
        clear e2
        go_wp2_with fail
        refine (unhide hnm _).mono ?_
        rintro e w9 ⟨rfl,hw9⟩
        obtain rfl := hw9.symm
        clear hw9 h0
        cases q
        · have hfin : Hid (R = 7) := by show _ = _; rw [unhide hst2]; rfl
          go_wp2_with fail
          go_ret
          exact ⟨ret_int (unhide hfin).symm,(unhide HH).gr⟩
        cases p
        · have hfin : Hid (R = 6) := by show _ = _; rw [unhide hst2]; rfl
          go_wp2_with fail
          go_ret
          exact ⟨ret_int (unhide hfin).symm,(unhide HH).gr⟩
        · have hnx : Hid (R = orE (nodesF (prevT l (m + 1 + 1)) (l.drop (m + 1 + 1)) :: rs)) := by show _ = _; rw [unhide hst2]; rfl
          go_wp2_with fail
          exact ⟨⟨m + 1 + 1,by omega,by go_num,hnx,HH⟩,by simp [intOf]; omega⟩
    · obtain rfl : k = n1 := by omega
      have hR : Hid (R = orE rs) := by
        show _ = _
        rw [unhide hlab,List.drop_of_length_le (by rw [<- unhide HN]; exact Nat.le_refl _)]; cases prevT l k <;> rfl
      rw [unhide hrs] at hR
      have f3 := (unhide HH).at 3 rfl
      have f4 := (unhide HH).at 4 rfl
      have f5 := (unhide HH).at 5 rfl
      go_wp2_with fail
      refine (unhide kU _ _ _ _ (by rfl) (by rfl) (by rfl)).mono ?_
      rintro e w9 ⟨rfl,hw9⟩
      obtain rfl := hw9.symm
      clear hw9
      cases qu
      · have hfin : Hid (R = 1) := by show _ = _; rw [unhide hR]; rfl
        go_wp2_with fail
        go_ret
        exact ⟨ret_int (unhide hfin).symm,(unhide HH).gr⟩
      cases e1
      · go_wp2_with fail
        refine (unhide kF _).mono ?_
        rintro e w9 ⟨rfl,hw9⟩
        obtain rfl := hw9.symm
        clear hw9
        cases nf
        · have hfin : Hid (R = 7) := by show _ = _; rw [unhide hR]; rfl
          go_wp2_with fail
          go_ret
          exact ⟨ret_int (unhide hfin).symm,(unhide HH).gr⟩
        · cases e2
          · go_wp2_with fail
            refine (unhide kP _).mono ?_
            rintro e w9 ⟨rfl,hw9⟩
            obtain rfl := hw9.symm
            clear hw9
            cases np
            · have hfin : Hid (R = 7) := by show _ = _; rw [unhide hR]; rfl
              go_wp2_with fail
              go_ret
              exact ⟨ret_int (unhide hfin).symm,(unhide HH).gr⟩
            · have f6 := (unhide HH).at 6 rfl
              have hfin : Hid (R = z6) := (show R = orE [z6] from unhide hR).trans (ore_one z6)
              go_wp2_with fail
              refine (unhide k6 _ (unhide HH).gr).mono ?_
              rintro e w9 ⟨rfl,hw9⟩
              have B9 := hide (chain (unhide HH).gr hw9)
              clear hw9
              go_wp2_with fail
              go_ret
              exact ⟨ret_int (unhide hfin).symm,unhide B9⟩
          · have f6 := (unhide HH).at 6 rfl
            have hfin : Hid (R = z6) := (show R = orE [z6] from unhide hR).trans (ore_one z6)
            go_wp2_with fail
            refine (unhide k6 _ (unhide HH).gr).mono ?_
            rintro e w9 ⟨rfl,hw9⟩
            have B9 := hide (chain (unhide HH).gr hw9)
            clear hw9
            go_wp2_with fail
            go_ret
            exact ⟨ret_int (unhide hfin).symm,unhide B9⟩
      · cases e2
        · go_wp2_with fail
          refine (unhide kP _).mono ?_
          rintro e w9 ⟨rfl,hw9⟩
          obtain rfl := hw9.symm
          clear hw9
          cases np
          · have hfin : Hid (R = 7) := by show _ = _; rw [unhide hR]; rfl
            go_wp2_with fail
            go_ret
            exact ⟨ret_int (unhide hfin).symm,(unhide HH).gr⟩
          · have f6 := (unhide HH).at 6 rfl
            have hfin : Hid (R = z6) := (show R = orE [z6] from unhide hR).trans (ore_one z6)
            go_wp2_with fail
            refine (unhide k6 _ (unhide HH).gr).mono ?_
            rintro e w9 ⟨rfl,hw9⟩
            have B9 := hide (chain (unhide HH).gr hw9)
            clear hw9
            go_wp2_with fail
            go_ret
            exact ⟨ret_int (unhide hfin).symm,unhide B9⟩
        · have f6 := (unhide HH).at 6 rfl
          have hfin : Hid (R = z6) := (show R = orE [z6] from unhide hR).trans (ore_one z6)
          go_wp2_with fail
          refine (unhide k6 _ (unhide HH).gr).mono ?_
          rintro e w9 ⟨rfl,hw9⟩
          have B9 := hide (chain (unhide HH).gr hw9)
          clear hw9
          go_wp2_with fail
          go_ret
          exact ⟨ret_int (unhide hfin).symm,unhide B9⟩
end Go.Proofs.YtfpfdnapamdhjaaGreatDoor

/- Layer 8: the document's Pod -/
namespace Go.Proofs.YtfpfdnapamdhjaaGreatDoor
open Go.RowKit Suf Val

theorem terms1 {V : World} {B : Nat} {x : VTerm} (hx : short x.1) (hy : short x.2) (h0 : V.cell? ⟨B,0,none⟩ = some (.string (bytesT x.1))) (h1 : V.cell? ⟨B,1,none⟩ = some (.string (bytesT x.2))) :
    Calls Tryz.prog 89 #[.slice (some ⟨B,0,none⟩) 1 1] V fun e w' => e = .returned (.int .i64 (termE x)) /\ Below V.heap.size V w' := by
  have hl : Lst trmK V (.slice (some ⟨B,0,none⟩) 1 1) [x] := ⟨_,_,rfl,fun j hj => ⟨B,0,rfl,by
    match j,hj with
    | 0,_ => exact trm_at.2 ⟨⟨by simpa using h0,hx⟩,by simpa using h1,hy⟩⟩,by simp,by simp⟩
  have := rterms_any _ [x] V hl
  rw [alle_one] at this
  exact this
theorem spr_err {z k : Int} {rs : List Int} {X : VSpr} (h : spreadE X = z) (hz : ¬ z = 0) : orE ((if spreadE X = 0 then k else spreadE X) :: rs) = z := by
  rw [h,if_neg hz,ore_cons,if_neg hz]
set_option maxRecDepth 100000 in
set_option maxHeartbeats 32000000 in
theorem rpod_any (p : VPod) (u1 u2 u3 u4 u5 : Value) (w : World) (h : PodIn w p u1 u2 u3 u4 u5) :
    Calls Tryz.prog 38 #[podA p u1 u2 u3 u4 u5] w fun e w' => e = .returned (.int .i64 (podR p)) /\ Below w.heap.size w w' := by
  have hR : Hid (podR p = orE [unl (nameB p.name && nameB p.app) 7,Am.chkA p.need.1 p.need.2,unl (btwB (-1000) p.prio 1000) 1,moreR 8 p.reqs,Ta.Val.tolsR p.tols,unl (decide (p.spread.length <= 3 /\ p.near.length <= 3 /\ p.apart.length <= 3)) 3,allE spreadE p.spread,allE termE p.near,allE termE p.apart,unl (timeB p.since) 1,unl ((p.on == []) || nameB p.on) 7]) := rfl
  obtain ⟨R,hRR⟩ : ∃ R,R = podR p := ⟨_,rfl⟩
  rw [<- hRR] at hR ⊢
  clear hRR
  have cN := hide (rname8 p.name h.n1)
  have cA := hide (rname8 p.app h.n2)
  have cO := hide (rname8 p.on h.n3)
  have k3 := hide (Am.rcheckAll_any p.need.1 p.need.2)
  have g1 := nil_is p.on
  have hq1 := h.rq
  have hq2 := h.tl
  have hq3 := h.sp
  have hq4 := h.nr
  have hq5 := h.ap
  obtain ⟨a1,c1,hu1⟩ := h.rq.val
  obtain ⟨n1,hn1⟩ : ∃ n,n = p.reqs.length := ⟨_,rfl⟩
  obtain ⟨a2,c2,hu2⟩ := h.tl.val
  obtain ⟨n2,hn2⟩ : ∃ n,n = p.tols.length := ⟨_,rfl⟩
  obtain ⟨a3,c3,hu3⟩ := h.sp.val
  obtain ⟨n3,hn3⟩ : ∃ n,n = p.spread.length := ⟨_,rfl⟩
  obtain ⟨a4,c4,hu4⟩ := h.nr.val
  obtain ⟨n4,hn4⟩ : ∃ n,n = p.near.length := ⟨_,rfl⟩
  obtain ⟨a5,c5,hu5⟩ := h.ap.val
  obtain ⟨n5,hn5⟩ : ∃ n,n = p.apart.length := ⟨_,rfl⟩
  unfold podA
  rw [hu1]
  rw [hu1,<- hn1] at hq1
  rw [hu2]
  rw [hu2,<- hn2] at hq2
  rw [hu3]
  rw [hu3,<- hn3] at hq3
  rw [hu4]
  rw [hu4,<- hn4] at hq4
  rw [hu5]
  rw [hu5,<- hn5] at hq5
  rw [<- hn1,<- hn2,<- hn3,<- hn4,<- hn5]
  clear h hu1 hu2 hu3 hu4 hu5
  obtain ⟨qn,hqn⟩ : ∃ z,z = nameB p.name := ⟨_,rfl⟩
  obtain ⟨qa,hqa⟩ : ∃ z,z = nameB p.app := ⟨_,rfl⟩
  obtain ⟨z2,hz2⟩ : ∃ z,z = Am.chkA p.need.1 p.need.2 := ⟨_,rfl⟩
  obtain ⟨z4,hz4⟩ : ∃ z,z = moreR 8 p.reqs := ⟨_,rfl⟩
  obtain ⟨z5,hz5⟩ : ∃ z,z = Ta.Val.tolsR p.tols := ⟨_,rfl⟩
  obtain ⟨z8,hz8⟩ : ∃ z,z = allE termE p.near := ⟨_,rfl⟩
  obtain ⟨z9,hz9⟩ : ∃ z,z = allE termE p.apart := ⟨_,rfl⟩
  obtain ⟨qu,hqu⟩ : ∃ z,z = timeB p.since := ⟨_,rfl⟩
  obtain ⟨e1,he1⟩ : ∃ z,z = (p.on == []) := ⟨_,rfl⟩
  obtain ⟨nf,hnf⟩ : ∃ z,z = nameB p.on := ⟨_,rfl⟩
  obtain ⟨l,hl⟩ : ∃ z,z = p.spread := ⟨_,rfl⟩
  obtain ⟨X0,hX0⟩ : ∃ z,z = bytesT p.name := ⟨_,rfl⟩
  obtain ⟨X1,hX1⟩ : ∃ z,z = bytesT p.app := ⟨_,rfl⟩
  obtain ⟨X2,hX2⟩ : ∃ z,z = bytesT p.on := ⟨_,rfl⟩
  obtain ⟨N0,hN0⟩ : ∃ z,z = p.need.1 := ⟨_,rfl⟩
  obtain ⟨N1,hN1⟩ : ∃ z,z = p.need.2 := ⟨_,rfl⟩
  obtain ⟨P0,hP0⟩ : ∃ z,z = p.prio := ⟨_,rfl⟩
  obtain ⟨S0,hS0⟩ : ∃ z,z = p.since := ⟨_,rfl⟩
  rw [<- hn3,<- hn4,<- hn5] at hR
  rw [<- hqn,<- hqa,<- hz2,<- hz4,<- hz5,<- hz8,<- hz9,<- hqu,<- he1,<- hnf,<- hl,<- hP0] at hR
  rw [<- hqn,<- hX0] at cN
  rw [<- hqa,<- hX1] at cA
  rw [<- hnf,<- hX2] at cO
  rw [<- hz2,<- hN0,<- hN1] at k3
  rw [<- he1,<- hX2] at g1
  have kU : Hid (∀ V v1 v3 vv,v1 = .int .i64 S0 -> v3 = .int .i64 1099511627776 -> vv = .int .i64 0 -> Calls Tryz.prog 90 #[v1,vv,v3] V fun e w' => e = .returned (.bool qu) /\ w' = V) := fun V v1 v3 vv e1 e3 e2 => by rw [e1,e2,e3,hqu,hS0]; exact rbtw_any _ 0 1099511627776 V
  have k4 : Hid (∀ V,Below w.heap.size w V -> Calls Tryz.prog 87 #[.slice a1 n1 c1] V fun e w' => e = .returned (.int .i64 z4) /\ Below V.heap.size V w') := fun V hb => by rw [hz4]; exact rcheck4_any _ _ V (hq1.below hb)
  have k5 : Hid (∀ V,Below w.heap.size w V -> Calls Tryz.prog 88 #[.slice a2 n2 c2] V fun e w' => e = .returned (.int .i64 z5) /\ Below V.heap.size V w') := fun V hb => by rw [hz5]; exact Ta.rtols_any _ _ V (hq2.below hb)
  have k8 : Hid (∀ V,Below w.heap.size w V -> Calls Tryz.prog 89 #[.slice a4 n4 c4] V fun e w' => e = .returned (.int .i64 z8) /\ Below V.heap.size V w') := fun V hb => by rw [hz8]; exact rterms_any _ _ V (hq4.below hb)
  have k9 : Hid (∀ V,Below w.heap.size w V -> Calls Tryz.prog 89 #[.slice a5 n5 c5] V fun e w' => e = .returned (.int .i64 z9) /\ Below V.heap.size V w') := fun V hb => by rw [hz9]; exact rterms_any _ _ V (hq5.below hb)
  rw [<- hX0,<- hX1,<- hX2,<- hN0,<- hN1,<- hP0,<- hS0]
  rw [<- hl] at hq3 hn3
  have hlen := hq3.len
  rw [<- hn3] at hlen
  have HV := hide hq3
  have HN := hide hn3
  obtain ⟨rs,hrs⟩ : ∃ rs,rs = [z8,z9,unl qu 1,unl (e1 || nf) 7] := ⟨_,rfl⟩
  rw [<- hrs] at hR
  replace hrs := hide hrs
  clear hq1 hq2 hq3 hq4 hq5 hn1 hn2 hn3 hn4 hn5 hqn hqa hz2 hz4 hz5 hz8 hz9 hqu he1 hnf hl hX0 hX1 hX2 hN0 hN1 hP0 hS0
  obtain ⟨W1,hW1⟩ : ∃ W,W = w.alloc (.cells #[.string X0,.string X1,.int .i64 N0,.int .i64 N1,.int .i64 P0,.slice a1 n1 c1,.slice a2 n2 c2,.slice a3 n3 c3,.slice a4 n4 c4,.slice a5 n5 c5,.int .i64 S0,.string X2] 29) := ⟨_,rfl⟩
  have HH : Hid (HeldS w [(⟨w.heap.size,0,none⟩,.string X0),(⟨w.heap.size,1,none⟩,.string X1),(⟨w.heap.size,2,none⟩,.int .i64 N0),(⟨w.heap.size,3,none⟩,.int .i64 N1),(⟨w.heap.size,4,none⟩,.int .i64 P0),(⟨w.heap.size,5,none⟩,.slice a1 n1 c1),(⟨w.heap.size,6,none⟩,.slice a2 n2 c2),(⟨w.heap.size,7,none⟩,.slice a3 n3 c3),(⟨w.heap.size,8,none⟩,.slice a4 n4 c4),(⟨w.heap.size,9,none⟩,.slice a5 n5 c5),(⟨w.heap.size,10,none⟩,.int .i64 S0),(⟨w.heap.size,11,none⟩,.string X2)] W1) := by
    rw [hW1]
    exact ⟨boxb _,fun x hx => by simp only [List.mem_cons,List.not_mem_nil,or_false] at hx; rcases hx with rfl | rfl | rfl | rfl | rfl | rfl | rfl | rfl | rfl | rfl | rfl | rfl <;> simp [go_sem]⟩
  have GW := hide hW1
  clear hW1
  go_enter Tryz.func38,Tryz.ntmps38
  go_wp2_with fail
  rw [<- unhide GW]
  have f1 := (unhide HH).at 1 rfl
  refine (unhide cN _).mono ?_
  rintro e w9 ⟨rfl,hw9⟩
  obtain rfl := hw9.symm
  clear hw9
  cases qn
  · have hfin : Hid (R = 7) := by show _ = _; rw [unhide hR]; rfl
    go_wp2_with fail
    go_ret
    exact ⟨ret_int (unhide hfin).symm,(unhide HH).gr⟩
  go_wp2_with fail
  clear f1
  refine (unhide cA _).mono ?_
  rintro e w9 ⟨rfl,hw9⟩
  obtain rfl := hw9.symm
  clear hw9
  cases qa
  · have hfin : Hid (R = 7) := by show _ = _; rw [unhide hR]; rfl
    go_wp2_with fail
    go_ret
    exact ⟨ret_int (unhide hfin).symm,(unhide HH).gr⟩
  replace hR := hide ((unhide hR).trans (ore_zero0 _))
  have f2 := (unhide HH).at 2 rfl
  have f3 := (unhide HH).at 3 rfl
  go_wp2_with fail
  clear f2 f3
  refine (unhide k3 _).mono ?_
  rintro e w9 ⟨rfl,hw9⟩
  replace HH := hide ((unhide HH).below hw9)
  clear hw9
  by_cases hz : ¬ z2 = 0
  · have hb := nz hz
    have hfin : Hid (R = z2) := by show _ = _; rw [unhide hR,ore_cons,if_neg hz]
    clear hz
    go_wp2_with fail
    go_ret
    exact ⟨ret_int (unhide hfin).symm,(unhide HH).gr⟩
  have hz2 := Decidable.of_not_not hz
  clear hz
  subst hz2
  replace hR := hide ((unhide hR).trans (ore_zero0 _))
  have f4 := (unhide HH).at 4 rfl
  by_cases hz : P0 < -1000
  · have hfin : Hid (R = 1) := by show _ = _; rw [unhide hR,btw_no (by omega),ore_cons]; rfl
    go_wp2_with fail
    go_ret
    exact ⟨ret_int (unhide hfin).symm,(unhide HH).gr⟩
  have hz0 : -1000 <= P0 := by omega
  clear hz
  by_cases hz : 1000 < P0
  · have hfin : Hid (R = 1) := by show _ = _; rw [unhide hR,btw_no (by omega),ore_cons]; rfl
    go_wp2_with fail
    go_ret
    exact ⟨ret_int (unhide hfin).symm,(unhide HH).gr⟩
  have hz1 : P0 <= 1000 := by omega
  clear hz
  replace hR := hide ((unhide hR).trans (ore_unl (btw_yes hz0 hz1)))
  have f5 := (unhide HH).at 5 rfl
  go_wp2_with fail
  clear f5
  refine (unhide k4 _ (unhide HH).gr).mono ?_
  rintro e w9 ⟨rfl,hw9⟩
  replace HH := hide ((unhide HH).below hw9)
  clear hw9
  by_cases hz : ¬ z4 = 0
  · have hb := nz hz
    have hfin : Hid (R = z4) := by show _ = _; rw [unhide hR,ore_cons,if_neg hz]
    clear hz
    go_wp2_with fail
    go_ret
    exact ⟨ret_int (unhide hfin).symm,(unhide HH).gr⟩
  have hz2 := Decidable.of_not_not hz
  clear hz
  subst hz2
  replace hR := hide ((unhide hR).trans (ore_zero0 _))
  have f6 := (unhide HH).at 6 rfl
  go_wp2_with fail
  clear f6
  refine (unhide k5 _ (unhide HH).gr).mono ?_
  rintro e w9 ⟨rfl,hw9⟩
  replace HH := hide ((unhide HH).below hw9)
  clear hw9
  by_cases hz : ¬ z5 = 0
  · have hb := nz hz
    have hfin : Hid (R = z5) := by show _ = _; rw [unhide hR,ore_cons,if_neg hz]
    clear hz
    go_wp2_with fail
    go_ret
    exact ⟨ret_int (unhide hfin).symm,(unhide HH).gr⟩
  have hz2 := Decidable.of_not_not hz
  clear hz
  subst hz2
  replace hR := hide ((unhide hR).trans (ore_zero0 _))
  have f7 := (unhide HH).at 7 rfl
  have f8 := (unhide HH).at 8 rfl
  have f9 := (unhide HH).at 9 rfl
  by_cases hz : 3 < n3
  · have hfin : Hid (R = 3) := by show _ = _; rw [unhide hR,decide_eq_false (by omega),ore_cons]; rfl
    go_wp2_with fail
    go_ret
    exact ⟨ret_int (unhide hfin).symm,(unhide HH).gr⟩
  have hm3 : n3 <= 3 := by omega
  clear hz
  by_cases hz : 3 < n4
  · have hfin : Hid (R = 3) := by show _ = _; rw [unhide hR,decide_eq_false (by omega),ore_cons]; rfl
    go_wp2_with fail
    go_ret
    exact ⟨ret_int (unhide hfin).symm,(unhide HH).gr⟩
  have hm4 : n4 <= 3 := by omega
  clear hz
  by_cases hz : 3 < n5
  · have hfin : Hid (R = 3) := by show _ = _; rw [unhide hR,decide_eq_false (by omega),ore_cons]; rfl
    go_wp2_with fail
    go_ret
    exact ⟨ret_int (unhide hfin).symm,(unhide HH).gr⟩
  have hm5 : n5 <= 3 := by omega
  clear hz
  have hR2 : Hid (R = orE (allE spreadE (l.drop 0) :: rs)) := (unhide hR).trans (ore_unl (decide_eq_true ⟨hm3,hm4,hm5⟩))
  clear hR
  go_wp2_with fail
  clear f7 f8 f9
  go_loopw [66] (fun i W => ∃ k : Nat,k <= n3 /\ i = .int .i64 k /\ Hid (R = orE (allE spreadE (l.drop k) :: rs)) /\ Hid (HeldS w [(⟨w.heap.size,0,none⟩,.string X0),(⟨w.heap.size,1,none⟩,.string X1),(⟨w.heap.size,2,none⟩,.int .i64 N0),(⟨w.heap.size,3,none⟩,.int .i64 N1),(⟨w.heap.size,4,none⟩,.int .i64 P0),(⟨w.heap.size,5,none⟩,.slice a1 n1 c1),(⟨w.heap.size,6,none⟩,.slice a2 n2 c2),(⟨w.heap.size,7,none⟩,.slice a3 n3 c3),(⟨w.heap.size,8,none⟩,.slice a4 n4 c4),(⟨w.heap.size,9,none⟩,.slice a5 n5 c5),(⟨w.heap.size,10,none⟩,.int .i64 S0),(⟨w.heap.size,11,none⟩,.string X2)] W)) (fun i _ => n3 - (intOf i).toNat)
  case atStart => exact ⟨0,Nat.zero_le _,rfl,hR2,HH⟩
  case round =>
    clear HH hR2
    obtain ⟨k,hk,rfl,hlab,HH⟩ := hrel
    by_cases hlt : k < n3
    · have hlk : k < l.length := by rw [<- unhide HN]; exact hlt
      obtain ⟨b,o,rfl,hat⟩ := ((unhide HV).below (unhide HH).gr).at hlk
      have hst := hide (alle_step (f := spreadE) hlk)
      obtain ⟨y,hy⟩ : ∃ y,y = l[k] := ⟨_,rfl⟩
      rw [<- hy] at hat hst
      rw [unhide hst] at hlab
      obtain ⟨⟨h0,s0⟩,⟨h1,s1⟩,h2⟩ := spr_at.1 hat
      rw [show sprK.size = 3 from rfl] at h0 h1 h2
      have kT := hide (fun (V : World) (B : Nat) => terms1 (V := V) (B := B) (x := (y.1,y.2.1)) s0 s1)
      have hsp : Hid (spreadE y = orE [termE (y.1,y.2.1),unl (btwB 1 y.2.2 16) 1]) := rfl
      obtain ⟨z,hz⟩ : ∃ z,z = termE (y.1,y.2.1) := ⟨_,rfl⟩
      rw [<- hz] at kT hsp
      simp only at kT
      obtain ⟨Y0,hY0⟩ : ∃ X,X = bytesT y.1 := ⟨_,rfl⟩
      obtain ⟨Y1,hY1⟩ : ∃ X,X = bytesT y.2.1 := ⟨_,rfl⟩
      obtain ⟨Z,hZ⟩ : ∃ X,X = y.2.2 := ⟨_,rfl⟩
      rw [<- hY0] at h0 kT
      rw [<- hY1] at h1 kT
      rw [<- hZ] at h2 hsp
      clear hz hst hy hlk hat s0 s1 hY0 hY1 hZ
      obtain ⟨W5,hW5⟩ : ∃ W,W = wr.alloc (.cells #[.string Y0,.string Y1,.int .i64 Z] 115) := ⟨_,rfl⟩
      have x2 : W5.cell? ⟨wr.heap.size,2,none⟩ = some (.int .i64 Z) := by rw [hW5]; simp [go_sem]
      have HH5 : Hid (HeldS w [(⟨w.heap.size,0,none⟩,.string X0),(⟨w.heap.size,1,none⟩,.string X1),(⟨w.heap.size,2,none⟩,.int .i64 N0),(⟨w.heap.size,3,none⟩,.int .i64 N1),(⟨w.heap.size,4,none⟩,.int .i64 P0),(⟨w.heap.size,5,none⟩,.slice a1 n1 c1),(⟨w.heap.size,6,none⟩,.slice a2 n2 c2),(⟨w.heap.size,7,none⟩,.slice (some ⟨b,o,none⟩) n3 c3),(⟨w.heap.size,8,none⟩,.slice a4 n4 c4),(⟨w.heap.size,9,none⟩,.slice a5 n5 c5),(⟨w.heap.size,10,none⟩,.int .i64 S0),(⟨w.heap.size,11,none⟩,.string X2)] W5) := by rw [hW5]; exact (unhide HH).alloc _
      have B5 : Hid (Below W5.heap.size W5 (W5.alloc (.cells #[.string Y0,.string Y1] 146))) := boxb _
      have GW5 := hide hW5
      clear hW5
      go_wp2_with fail
      clear h0 h1 h2
      refine (unhide kT _ _ (by simp [go_sem]) (by simp [go_sem])).mono ?_
      rintro e w9 ⟨rfl,hw9⟩
      rw [<- unhide GW5] at hw9
      replace HH := hide ((unhide HH5).below (chain (unhide B5) hw9))
      replace x2 := cell_kept (chain (unhide B5) hw9) x2
      clear hw9 HH5 B5 GW5
      by_cases hz : ¬ z = 0
      · have hb := nz hz
        have hfin : Hid (R = z) := by show _ = _; rw [unhide hlab]; exact spr_err (by rw [unhide hsp,ore_cons,if_neg hz]) hz
        clear hz
        go_wp2_with fail
        go_ret
        exact ⟨ret_int (unhide hfin).symm,(unhide HH).gr⟩
      have hz2 := Decidable.of_not_not hz
      clear hz
      subst hz2
      by_cases hz : Z < 1
      · have hfin : Hid (R = 1) := by show _ = _; rw [unhide hlab]; exact spr_err (by rw [unhide hsp,btw_no (by omega)]; rfl) (by decide)
        go_wp2_with fail
        go_ret
        exact ⟨ret_int (unhide hfin).symm,(unhide HH).gr⟩
      have hz0 : 1 <= Z := by omega
      clear hz
      by_cases hz : 16 < Z
      · have hfin : Hid (R = 1) := by show _ = _; rw [unhide hlab]; exact spr_err (by rw [unhide hsp,btw_no (by omega)]; rfl) (by decide)
        go_wp2_with fail
        go_ret
        exact ⟨ret_int (unhide hfin).symm,(unhide HH).gr⟩
      have hz1 : Z <= 16 := by omega
      clear hz
      have hnx : Hid (R = orE (allE spreadE (l.drop (k + 1)) :: rs)) := by
        show _ = _
        rw [unhide hlab,if_pos (by rw [unhide hsp,btw_yes hz0 hz1]; rfl)]
      go_wp2_with fail
      exact ⟨⟨k + 1,by omega,by go_num,hnx,HH⟩,by simp [intOf]; omega⟩
    · obtain rfl : k = n3 := by omega
      have hR : Hid (R = orE rs) := by
        show _ = _
        rw [unhide hlab,List.drop_of_length_le (by rw [<- unhide HN]; exact Nat.le_refl _)]; rfl
      rw [unhide hrs] at hR
      have f8 := (unhide HH).at 8 rfl
      go_wp2_with fail
      clear f8
      refine (unhide k8 _ (unhide HH).gr).mono ?_
      rintro e w9 ⟨rfl,hw9⟩
      replace HH := hide ((unhide HH).below hw9)
      clear hw9
      by_cases hz : ¬ z8 = 0
      · have hb := nz hz
        have hfin : Hid (R = z8) := by show _ = _; rw [unhide hR,ore_cons,if_neg hz]
        clear hz
        go_wp2_with fail
        go_ret
        exact ⟨ret_int (unhide hfin).symm,(unhide HH).gr⟩
      have hz2 := Decidable.of_not_not hz
      clear hz
      subst hz2
      replace hR := hide ((unhide hR).trans (ore_zero0 _))
      have f9 := (unhide HH).at 9 rfl
      go_wp2_with fail
      clear f9
      refine (unhide k9 _ (unhide HH).gr).mono ?_
      rintro e w9 ⟨rfl,hw9⟩
      replace HH := hide ((unhide HH).below hw9)
      clear hw9
      by_cases hz : ¬ z9 = 0
      · have hb := nz hz
        have hfin : Hid (R = z9) := by show _ = _; rw [unhide hR,ore_cons,if_neg hz]
        clear hz
        go_wp2_with fail
        go_ret
        exact ⟨ret_int (unhide hfin).symm,(unhide HH).gr⟩
      have hz2 := Decidable.of_not_not hz
      clear hz
      subst hz2
      replace hR := hide ((unhide hR).trans (ore_zero0 _))
      have f10 := (unhide HH).at 10 rfl
      have f11 := (unhide HH).at 11 rfl
      go_wp2_with fail
      refine (unhide kU _ _ _ _ (by rfl) (by rfl) (by rfl)).mono ?_
      rintro e w9 ⟨rfl,hw9⟩
      obtain rfl := hw9.symm
      clear hw9
      cases qu
      · have hfin : Hid (R = 1) := by show _ = _; rw [unhide hR]; rfl
        go_wp2_with fail
        go_ret
        exact ⟨ret_int (unhide hfin).symm,(unhide HH).gr⟩
      cases e1
      · go_wp2_with fail
        refine (unhide cO _).mono ?_
        rintro e w9 ⟨rfl,hw9⟩
        obtain rfl := hw9.symm
        clear hw9
        cases nf
        · have hfin : Hid (R = 7) := by show _ = _; rw [unhide hR]; rfl
          go_wp2_with fail
          go_ret
          exact ⟨ret_int (unhide hfin).symm,(unhide HH).gr⟩
        · have hfin : Hid (R = 0) := by show _ = _; rw [unhide hR]; rfl
          go_wp2_with fail
          go_ret
          exact ⟨ret_int (unhide hfin).symm,(unhide HH).gr⟩
      · have hfin : Hid (R = 0) := by show _ = _; rw [unhide hR]; rfl
        go_wp2_with fail
        go_ret
        exact ⟨ret_int (unhide hfin).symm,(unhide HH).gr⟩
end Go.Proofs.YtfpfdnapamdhjaaGreatDoor
