/- Layer 7: contracts of Check and of the document's Check. -/
import Derived.Test.YtfpfdnapamdhjaaGreatDoorC8BGZ
import Derived.Laws.StructEq
import Derived.Deep.RegionHeld3
namespace Go.Proofs.YtfpfdnapamdhjaaGreatDoor
open Go.RowKit Suf Val

theorem prev_at {l : List VCool} {m : Nat} (h : m < l.length) : prevO l (m + 1) = some l[m].1 := by show (l[m]?).map (·.1) = _; rw [List.getElem?_eq_getElem h]; rfl
theorem geq_ord {x y : VOff} {b : Bool} (h : b = lessO x y) : decide (0 <= ordO x y) = !b := by
  rw [h,<- ord_lt]
  by_cases h1 : ordO x y < 0
  · rw [decide_eq_true h1,decide_eq_false (by omega)]; rfl
  · rw [decide_eq_false h1,decide_eq_true (by omega)]; rfl
theorem c3_drew7 {V W : World} {p0 p1 p2 : Addr} {v0 v1 v2 : Value} (h : Hid (Below V.heap.size V W) /\ W.cell? p0 = some v0 /\ W.cell? p1 = some v1 /\ W.cell? p2 = some v2) : Hid (Below V.heap.size V W.drew) /\ W.drew.cell? p0 = some v0 /\ W.drew.cell? p1 = some v1 /\ W.drew.cell? p2 = some v2 := ⟨(unhide h.1).drew,h.2⟩
theorem c6_drew7 {V W : World} {p0 p1 p2 p3 p4 p5 : Addr} {v0 v1 v2 v3 v4 v5 : Value} (h : Hid (Below V.heap.size V W) /\ W.cell? p0 = some v0 /\ W.cell? p1 = some v1 /\ W.cell? p2 = some v2 /\ W.cell? p3 = some v3 /\ W.cell? p4 = some v4 /\ W.cell? p5 = some v5) : Hid (Below V.heap.size V W.drew) /\ W.drew.cell? p0 = some v0 /\ W.drew.cell? p1 = some v1 /\ W.drew.cell? p2 = some v2 /\ W.drew.cell? p3 = some v3 /\ W.drew.cell? p4 = some v4 /\ W.drew.cell? p5 = some v5 := ⟨(unhide h.1).drew,h.2⟩
theorem c6_call7 {V W W' : World} {p0 p1 p2 p3 p4 p5 : Addr} {v0 v1 v2 v3 v4 v5 : Value} (hb : Below W.heap.size W W') (h : Hid (Below V.heap.size V W) /\ W.cell? p0 = some v0 /\ W.cell? p1 = some v1 /\ W.cell? p2 = some v2 /\ W.cell? p3 = some v3 /\ W.cell? p4 = some v4 /\ W.cell? p5 = some v5) : Hid (Below V.heap.size V W') /\ W'.cell? p0 = some v0 /\ W'.cell? p1 = some v1 /\ W'.cell? p2 = some v2 /\ W'.cell? p3 = some v3 /\ W'.cell? p4 = some v4 /\ W'.cell? p5 = some v5 :=
  ⟨chain (unhide h.1) hb,cell_kept hb h.2.1,cell_kept hb h.2.2.1,cell_kept hb h.2.2.2.1,cell_kept hb h.2.2.2.2.1,cell_kept hb h.2.2.2.2.2.1,cell_kept hb h.2.2.2.2.2.2⟩

set_option maxRecDepth 100000 in
set_option maxHeartbeats 16000000 in
theorem pcheck7_any (v : Value) (l : List VCool) (w : World) (hv : Lst coolK w v l) :
    Calls Tryz.prog 67 #[v] w fun e w' => e = .returned (.int .i64 (coolR l)) /\ Below w.heap.size w w' := by
  have HV := hide hv
  have hlen := hv.len
  obtain ⟨a,c,rfl⟩ := hv.val
  clear hv
  obtain ⟨n,hn⟩ : ∃ n,n = l.length := ⟨_,rfl⟩
  obtain ⟨R,hR⟩ : ∃ R,R = coolR l := ⟨_,rfl⟩
  rw [<- hR]
  unfold coolR at hR
  rw [<- hn] at HV hlen hR ⊢
  have HN := hide hn
  clear hn
  by_cases h4 : 72 < n
  · have hfin : Hid (R = 3) := by show _ = _; rw [hR,if_pos h4]
    have hb : decide ((72 : Int) < (n : Int)) = true := by simp; omega
    clear hR
    go_enter Tryz.func67,Tryz.ntmps67
    go_wp2_with fail
    go_ret
    exact ⟨ret_int (unhide hfin).symm,Below.refl _ _⟩
  rw [if_neg h4] at hR
  have HR : Hid (R = coolF (prevO l 0) (l.drop 0)) := hR
  clear hR
  have hb4 : decide ((72 : Int) < (n : Int)) = false := by simp; omega
  go_enter Tryz.func67,Tryz.ntmps67
  go_wp2_with fail
  go_loopw [10] (fun i W => ∃ k : Nat,k <= n /\ i = .int .i64 k /\ Hid (R = coolF (prevO l k) (l.drop k)) /\ Hid (Below w.heap.size w W)) (fun i _ => n - (intOf i).toNat)
  case atStart => exact ⟨0,Nat.zero_le _,rfl,unhide HR,Below.refl _ _⟩
  case round =>
    obtain ⟨k,hk,rfl,hlab,hbel⟩ := hrel
    by_cases hlt : k < n
    · have hlk : k < l.length := by rw [<- unhide HN]; exact hlt
      obtain ⟨b,o,rfl,hat⟩ := ((unhide HV).below (unhide hbel)).at hlk
      have hst := hide (cool_step hlk)
      have hlst := hide ((unhide HV).below (unhide hbel))
      obtain ⟨y,hy⟩ : ∃ y,y = l[k] := ⟨_,rfl⟩
      rw [<- hy] at hat hst
      rw [<- unhide hlab] at hst
      obtain ⟨h0123,h3⟩ := cool_at.1 hat
      obtain ⟨⟨h0,hs0⟩,⟨h1,hs1⟩,h2,hs2⟩ := off_at.1 h0123
      rw [show coolK.size = 4 from rfl] at h0 h1 h2 h3
      have HO : Hid (okO y.1) := ⟨hs0,hs1,hs2⟩
      clear hs0 hs1 hs2 hy hat hlab h0123
      obtain ⟨W0,hW0⟩ : ∃ W,W = wr.alloc (.cells #[.string (bytesT y.1.1),.string (bytesT y.1.2.1),.string (bytesT y.1.2.2),.int .i64 y.2] 42) := ⟨_,rfl⟩
      have B0 : Hid (Below wr.heap.size wr W0) := by rw [hW0]; exact boxb _
      have F0 : Hid (CBox W0 wr.heap.size y) := by rw [hW0]; exact cbox_new _ _
      have GW0 := hide hW0
      clear hW0
      obtain ⟨q0,hq0⟩ : ∃ q,q = (nameB y.1.1 && (nameB y.1.2.1 && nameB y.1.2.2)) := ⟨_,rfl⟩
      have c0 : Hid (∀ W,Calls Tryz.prog 119 #[.agg #[.string (bytesT y.1.1),.string (bytesT y.1.2.1),.string (bytesT y.1.2.2)]] W fun e w' => e = .returned (.bool q0) /\ Below W.heap.size W w') := by rw [hq0]; exact fun W => pnamed_any y.1 W (unhide HO)
      have h1y : Hid (oneR y = if q0 = false then 7 else if y.2 < 0 ∨ 1099511627776 < y.2 then 1 else 0) := by show _ = _; rw [hq0]; rfl
      clear hq0
      go_wp2_with fail
      rw [<- unhide GW0]
      clear h0 h1 h2 h3
      obtain ⟨f0,f1,f2,f3⟩ := unhide F0
      refine (unhide c0 _).mono ?_
      rintro e w1 ⟨rfl,hw1⟩
      have B1 := hide (chain (unhide B0) hw1)
      have F1 := hide ((unhide F0).below hw1)
      clear hw1 F0 B0 f0 f1 f2 f3 GW0 c0
      obtain ⟨f0,f1,f2,f3⟩ := unhide F1
      cases q0
      · have hfin : Hid (R = 7) := by show _ = _; rw [unhide hst,unhide h1y]; simp
        go_wp2_with fail
        go_ret
        exact ⟨ret_int (unhide hfin).symm,chain (unhide hbel) (unhide B1)⟩
      by_cases hz : y.2 < 0
      · have hfin : Hid (R = 1) := by
          show _ = _
          have h7 : oneR y = 1 := by rw [unhide h1y,if_neg (fun h => by cases h),if_pos (Or.inl hz)]
          rw [unhide hst,h7]; rfl
        go_wp2_with fail
        go_ret
        exact ⟨ret_int (unhide hfin).symm,chain (unhide hbel) (unhide B1)⟩
      by_cases hz2 : 1099511627776 < y.2
      · have hfin : Hid (R = 1) := by
          show _ = _
          have h7 : oneR y = 1 := by rw [unhide h1y,if_neg (fun h => by cases h),if_pos (Or.inr hz2)]
          rw [unhide hst,h7]; rfl
        go_wp2_with fail
        go_ret
        exact ⟨ret_int (unhide hfin).symm,chain (unhide hbel) (unhide B1)⟩
      have hst2 : Hid (R = if behind (prevO l k) y.1 = false then 6 else coolF (prevO l (k + 1)) (l.drop (k + 1))) := by
        show _ = _
        have h7 : oneR y = 0 := by rw [unhide h1y,if_neg (fun h => by cases h),if_neg (by omega)]
        rw [unhide hst,h7]; rfl
      clear hst h1y
      have d1 : decide (y.2 < 0) = false := decide_eq_false hz
      have d2 : decide (1099511627776 < y.2) = false := decide_eq_false hz2
      have hz3 : y.2 <= 1099511627776 := by omega
      have B3 := hide (chain (unhide hbel) (unhide B1))
      go_wp2_with fail
      clear hz hz2 d1 d2 hz3
      cases k with
      | zero =>
        have hnx : Hid (R = coolF (prevO l 1) (l.drop 1)) := by show _ = _; rw [unhide hst2]; rfl
        obtain ⟨w5,hw5⟩ : ∃ W,W = w1 := ⟨_,rfl⟩
        have hS : Hid (Below w1.heap.size w1 w1) /\ w1.cell? ⟨wr.heap.size,0,none⟩ = some (.string (bytesT y.1.1)) /\ w1.cell? ⟨wr.heap.size,1,none⟩ = some (.string (bytesT y.1.2.1)) /\ w1.cell? ⟨wr.heap.size,2,none⟩ = some (.string (bytesT y.1.2.2)) := ⟨Below.refl _ _,f0,f1,f2⟩
        refine wp_region_noPanic ?_
        refine wp_region_held_drew (S := fun V => Hid (Below w1.heap.size w1 V) /\ V.cell? ⟨wr.heap.size,0,none⟩ = some (.string (bytesT y.1.1)) /\ V.cell? ⟨wr.heap.size,1,none⟩ = some (.string (bytesT y.1.2.1)) /\ V.cell? ⟨wr.heap.size,2,none⟩ = some (.string (bytesT y.1.2.2))) (by kernel_rfl) (c3_drew7 hS) (fun hHeld => ?_)
        refine takeH6 (i := 0) (d := 30) (v := ?_) rfl rfl (by kernel_rfl) (by kernel_rfl) (by kernel_rfl) (fun _ _ _ h => h) (Or.inl ⟨by rfl,?_⟩) (by assumption) ?_
        rotate_left
        · (intro W hSW; (try dsimp only at hSW); go_simp; try (with_reducible rfl))
        simp only [Act.put,List.setIfInBounds_toArray,List.set_cons_zero,List.set_cons_succ]
        refine takeH6 (i := 1) (d := 31) (v := ?_) rfl rfl (by kernel_rfl) (by kernel_rfl) (by kernel_rfl) (fun _ _ _ h => h) (Or.inl ⟨by rfl,?_⟩) (by assumption) ?_
        rotate_left
        · (intro W hSW; (try dsimp only at hSW); go_simp; try (with_reducible rfl))
        simp only [Act.put,List.setIfInBounds_toArray,List.set_cons_zero,List.set_cons_succ]
        refine takeH6 (i := 2) (d := 32) (v := ?_) rfl rfl (by kernel_rfl) (by kernel_rfl) (by kernel_rfl) (fun _ _ _ h => h) (Or.inl ⟨by rfl,?_⟩) (by assumption) ?_
        rotate_left
        · (intro W hSW; (try dsimp only at hSW); go_simp; try (with_reducible rfl))
        simp only [Act.put,List.setIfInBounds_toArray,List.set_cons_zero,List.set_cons_succ]
        refine takeH6 (i := 3) (d := 33) (v := undef) rfl rfl (by kernel_rfl) (by kernel_rfl) (by kernel_rfl) (fun _ _ _ h => h) (Or.inr ⟨by rfl,rfl⟩) (by assumption) ?_
        simp only [Act.put,List.setIfInBounds_toArray,List.set_cons_zero,List.set_cons_succ]
        refine takeH6 (i := 4) (d := 34) (v := undef) rfl rfl (by kernel_rfl) (by kernel_rfl) (by kernel_rfl) (fun _ _ _ h => h) (Or.inr ⟨by rfl,rfl⟩) (by assumption) ?_
        simp only [Act.put,List.setIfInBounds_toArray,List.set_cons_zero,List.set_cons_succ]
        refine takeH6 (i := 5) (d := 35) (v := undef) rfl rfl (by kernel_rfl) (by kernel_rfl) (by kernel_rfl) (fun _ _ _ h => h) (Or.inr ⟨by rfl,rfl⟩) (by assumption) ?_
        simp only [Act.put,List.setIfInBounds_toArray,List.set_cons_zero,List.set_cons_succ]
        refine takeH6 (i := 6) (d := 36) (v := undef) rfl rfl (by kernel_rfl) (by kernel_rfl) (by kernel_rfl) (fun _ _ _ h => h) (Or.inr ⟨by rfl,rfl⟩) (by assumption) ?_
        simp only [Act.put,List.setIfInBounds_toArray,List.set_cons_zero,List.set_cons_succ]
        refine takeH6 (i := 7) (d := 37) (v := undef) rfl rfl (by kernel_rfl) (by kernel_rfl) (by kernel_rfl) (fun _ _ _ h => h) (Or.inr ⟨by rfl,rfl⟩) (by assumption) ?_
        simp only [Act.put,List.setIfInBounds_toArray,List.set_cons_zero,List.set_cons_succ]
        refine takeH6 (i := 8) (d := 38) (v := undef) rfl rfl (by kernel_rfl) (by kernel_rfl) (by kernel_rfl) (fun _ _ _ h => h) (Or.inr ⟨by rfl,rfl⟩) (by assumption) ?_
        simp only [Act.put,List.setIfInBounds_toArray,List.set_cons_zero,List.set_cons_succ]
        refine takeH6 (i := 9) (d := 39) (v := undef) rfl rfl (by kernel_rfl) (by kernel_rfl) (by kernel_rfl) (fun _ _ _ h => h) (Or.inr ⟨by rfl,rfl⟩) (by assumption) ?_
        simp only [Act.put,List.setIfInBounds_toArray,List.set_cons_zero,List.set_cons_succ]
        refine takeH6 (i := 10) (d := 40) (v := undef) rfl rfl (by kernel_rfl) (by kernel_rfl) (by kernel_rfl) (fun _ _ _ h => h) (Or.inr ⟨by rfl,rfl⟩) (by assumption) ?_
        simp only [Act.put,List.setIfInBounds_toArray,List.set_cons_zero,List.set_cons_succ]
        refine takeH6 (i := 11) (d := 41) (v := undef) rfl rfl (by kernel_rfl) (by kernel_rfl) (by kernel_rfl) (fun _ _ _ h => h) (Or.inr ⟨by rfl,rfl⟩) (by assumption) ?_
        simp only [Act.put,List.setIfInBounds_toArray,List.set_cons_zero,List.set_cons_succ]
        refine takeH6 (i := 12) (d := 42) (v := undef) rfl rfl (by kernel_rfl) (by kernel_rfl) (by kernel_rfl) (fun _ _ _ h => h) (Or.inr ⟨by rfl,rfl⟩) (by assumption) ?_
        simp only [Act.put,List.setIfInBounds_toArray,List.set_cons_zero,List.set_cons_succ]
        refine takeH6 (i := 13) (d := 43) (v := ?_) rfl rfl (by kernel_rfl) (by kernel_rfl) (by kernel_rfl) (fun _ _ _ h => h) (Or.inl ⟨by rfl,?_⟩) (by assumption) ?_
        rotate_left
        · (intro W hSW; (try dsimp only at hSW); go_simp; try (with_reducible rfl))
        simp only [Act.put,List.setIfInBounds_toArray,List.set_cons_zero,List.set_cons_succ]
        refine takeH6 (i := 14) (d := 29) (v := ?_) rfl rfl (by kernel_rfl) (by kernel_rfl) (by kernel_rfl) (fun _ _ _ h => h) (Or.inl ⟨by rfl,?_⟩) (by assumption) ?_
        rotate_left
        · (intro W hSW; (try dsimp only at hSW); go_simp; try (with_reducible rfl))
        simp only [Act.put,List.setIfInBounds_toArray,List.set_cons_zero,List.set_cons_succ]
        refine wpAnyH_done (by kernel_rfl) ?_ _
        refine NoPanic.normal ?_
        have B6 := hide (chain (unhide B3) (unhide hHeld.1))
        clear hHeld hS
        go_wp2_with fail
        exact ⟨⟨1,by omega,by go_num,hnx,B6⟩,by simp [intOf]; omega⟩
      | succ m =>
        have hlm : m < l.length := by omega
        obtain ⟨b',o',eb,hat⟩ := ((unhide hlst).below (unhide B1)).at hlm
        obtain ⟨rfl,rfl⟩ : b = b' /\ o = o' := by injection eb with eb; injection eb with e1 e2 _; exact ⟨e1,e2⟩
        obtain ⟨x,hx⟩ : ∃ x,x = l[m] := ⟨_,rfl⟩
        have hpv : prevO l (m + 1) = some x.1 := by rw [hx]; exact prev_at hlm
        rw [hpv] at hst2
        rw [<- hx] at hat
        obtain ⟨g0123,_⟩ := cool_at.1 hat
        obtain ⟨⟨g0,_⟩,⟨g1,_⟩,g2,_⟩ := off_at.1 g0123
        rw [show coolK.size = 4 from rfl] at g0 g1 g2
        clear hat eb g0123 hpv hx
        obtain ⟨q,hq⟩ : ∃ q,q = lessO x.1 y.1 := ⟨_,rfl⟩
        have hge := geq_ord hq
        have hst3 : Hid (R = if q = false then 6 else coolF (prevO l (m + 1 + 1)) (l.drop (m + 1 + 1))) := by show _ = _; rw [unhide hst2,hq]; rfl
        clear hq
        have i0 : (0 : Int) <= (m : Int) := by omega
        have i1 : (m : Int) < (n : Int) := by omega
        obtain ⟨z1,hz1⟩ : ∃ z : Int,z = ((m + 1 : Nat) : Int) := ⟨_,rfl⟩
        rw [<- hz1]
        have HZ := hide hz1
        have e1 : z1 - 1 = (m : Int) := by omega
        have e2 : IntKind.i64.wrap (z1 - 1) = (m : Int) := by rw [e1]; simp [IntKind.wrap,IntKind.bits,IntKind.signed]; omega
        have e3 : wrap64 (z1 - 1) = (m : Int) := by unfold wrap64; omega
        have e7 : IntKind.i64.wrap (m : Int) = (m : Int) := by rw [<- e1]; exact e2.trans e1.symm
        have e4 : decide ((0 : Int) < z1) = true := by simp; omega
        have e5 : wrap64 (z1 + 1) = ((m + 1 + 1 : Nat) : Int) := by
          unfold wrap64; omega
        clear hz1
        have cO := hide (fun W => porder_any x.1 y.1 W)
        unfold offA at cO
        obtain ⟨z,hzz⟩ : ∃ z,z = ordO x.1 y.1 := ⟨_,rfl⟩
        rw [<- hzz] at hge cO
        clear hzz
        have hS : Hid (Below w1.heap.size w1 w1) /\ w1.cell? ⟨b,o + m * 4,none⟩ = some (.string (bytesT x.1.1)) /\ w1.cell? ⟨b,o + m * 4 + 1,none⟩ = some (.string (bytesT x.1.2.1)) /\ w1.cell? ⟨b,o + m * 4 + 2,none⟩ = some (.string (bytesT x.1.2.2)) /\ w1.cell? ⟨wr.heap.size,0,none⟩ = some (.string (bytesT y.1.1)) /\ w1.cell? ⟨wr.heap.size,1,none⟩ = some (.string (bytesT y.1.2.1)) /\ w1.cell? ⟨wr.heap.size,2,none⟩ = some (.string (bytesT y.1.2.2)) := ⟨Below.refl _ _,g0,g1,g2,f0,f1,f2⟩
        clear g0 g1 g2 f0 f1 f2 f3
        go_region_held3 (fun V => Hid (Below w1.heap.size w1 V) /\ V.cell? ⟨b,o + m * 4,none⟩ = some (.string (bytesT x.1.1)) /\ V.cell? ⟨b,o + m * 4 + 1,none⟩ = some (.string (bytesT x.1.2.1)) /\ V.cell? ⟨b,o + m * 4 + 2,none⟩ = some (.string (bytesT x.1.2.2)) /\ V.cell? ⟨wr.heap.size,0,none⟩ = some (.string (bytesT y.1.1)) /\ V.cell? ⟨wr.heap.size,1,none⟩ = some (.string (bytesT y.1.2.1)) /\ V.cell? ⟨wr.heap.size,2,none⟩ = some (.string (bytesT y.1.2.2)))
          (first | (with_reducible exact hS) | (with_reducible assumption) | (with_reducible refine c6_drew7 ?_; with_reducible assumption) | (refine c6_call7 (by assumption) ?_; with_reducible assumption))
          (first | (go_at_call 120; refine (unhide cO _).mono ?_; rintro e w9 ⟨rfl,hw9⟩))
        rename_i hH
        have B6 := hide (chain (unhide B3) (unhide hH.1))
        clear hH hS
        cases q
        · have hfin : Hid (R = 6) := by show _ = _; rw [unhide hst3]; rfl
          go_wp2_with fail
          go_ret
          exact ⟨ret_int (unhide hfin).symm,unhide B6⟩
        · have hnx : Hid (R = coolF (prevO l (m + 1 + 1)) (l.drop (m + 1 + 1))) := by show _ = _; rw [unhide hst3]; rfl
          go_wp2_with fail
          exact ⟨⟨m + 1 + 1,by omega,by first | rw [e5] | (rw [unhide HZ]; go_num),hnx,B6⟩,by simp [intOf]; omega⟩
    · obtain rfl : k = n := by omega
      have hfin : Hid (R = 0) := by
        show _ = _
        rw [unhide hlab,List.drop_eq_nil_of_le (by rw [<- unhide HN]; exact Nat.le_refl _)]; cases prevO l k <;> rfl
      go_wp2_with fail
      go_ret
      exact ⟨ret_int (unhide hfin).symm,unhide hbel⟩
end Go.Proofs.YtfpfdnapamdhjaaGreatDoor

/- Layer 7: equality of offers and of coolings; the law's same; IsCool,the program's and the document's. -/
namespace Go.Proofs.YtfpfdnapamdhjaaGreatDoor
open Go.RowKit Suf Val

theorem take_at6 {α : Type} (l : List α) (k : Nat) (h : k < l.length) : l.take (k + 1) = l.take k ++ [l[k]] := by rw [List.take_add_one,List.getElem?_eq_getElem h]; rfl
theorem txt_beq6 (a b : Txt) : ((bytesT a).toList == (bytesT b).toList) = (a == b) := by rw [Lib.toList_data,Lib.toList_data]; rfl
theorem any_next6 {α : Type} {p : α -> Bool} (l : List α) (k : Nat) (h : k < l.length) : (l.take (k + 1)).any p = ((l.take k).any p || p l[k]) := by rw [take_at6 l k h,List.any_append]; simp
/-- Where the first one is that is judged so; -1: none. -/
def idxI {α : Type} (p : α -> Bool) (l : List α) : Int := match l.findIdx? p with | some i => i | none => -1
theorem idx_none {α : Type} {p : α -> Bool} {l : List α} (h : l.any p = false) : idxI p l = -1 := by
  have : l.findIdx? p = none := List.findIdx?_eq_none_iff.2 fun x hx => by have := List.any_eq_false.1 h x hx; simpa using this
  unfold idxI; rw [this]
theorem idx_at {α : Type} {p : α -> Bool} {l : List α} {k : Nat} (h : k < l.length) (h0 : (l.take k).any p = false) (hp : p l[k] = true) : idxI p l = k := by
  have : l.findIdx? p = some k := List.findIdx?_eq_some_iff_getElem.2 ⟨h,hp,fun j hj => by
    have hj' : j < (l.take k).length := by rw [List.length_take]; omega
    have := List.any_eq_false.1 h0 ((l.take k)[j]'hj') (List.getElem_mem hj')
    rw [List.getElem_take] at this
    simpa using this⟩
  unfold idxI; rw [this]
theorem idx_any {α : Type} (p : α -> Bool) (l : List α) : decide (0 <= idxI p l) = l.any p := by
  cases h : l.any p with
  | false => rw [idx_none h]; rfl
  | true =>
    unfold idxI
    cases hf : l.findIdx? p with
    | some i => simp
    | none =>
      obtain ⟨x,hx,hp⟩ := List.any_eq_true.1 h
      have := List.findIdx?_eq_none_iff.1 hf x hx
      rw [hp] at this
      cases this
theorem offGuard : Tryz.prog.eqGuardType Tryz.prog.depth 34 = false := by kernel_rfl
theorem eqF_cons {P : Program} (w : World) (d : Nat) (xs ys : Array Value) (f : Field) (fs : List Field) (hn : f.name ≠ "_") {a b : Value} (ha : (part f.type xs f.offset).run P w = .ok a w) (hb : (part f.type ys f.offset).run P w = .ok b w) {r : Bool}
    (hr : (Op.equalIn d f.type a b).run P w = .ok r w) : (Op.eqFields d xs ys (f :: fs)).run P w = if r = true then (Op.eqFields d xs ys fs).run P w else .ok false w := by
  conv => lhs; unfold Op.eqFields
  rw [if_pos hn]
  simp only [Sem.run_bind,ha,hb,hr,Result.andThen_ok]
  cases r <;> simp
theorem part_run {P : Program} (w : World) (t : TypeId) (xs : Array Value) (off : Nat) {v : Value} (hA : (isAgg t).run P w = .ok false w) (hx : xs[off]? = some v) : (part t xs off).run P w = .ok v w := by
  unfold part
  simp only [Sem.run_bind,hA,Result.andThen_ok]
  simp [hx]
theorem aggStr (w : World) : (isAgg 9).run Tryz.prog w = .ok false w := by kernel_rfl
theorem fieldsOff : ∃ f0 f1 f2 : Field, Tryz.prog.underlying 34 = some (.struct #[f0, f1, f2]) ∧ (f0.name ≠ "_" ∧ f0.type = 9 ∧ f0.offset = 0) ∧ (f1.name ≠ "_" ∧ f1.type = 9 ∧ f1.offset = 1) ∧ f2.name ≠ "_" ∧ f2.type = 9 ∧ f2.offset = 2 :=
  ⟨_,_,_,Tryz.underlying34,⟨by decide,rfl,rfl⟩,⟨by decide,rfl,rfl⟩,by decide,rfl,rfl⟩
theorem eqInOff (w : World) (a0 a1 a2 b0 b1 b2 : ByteArray) : (Op.equalIn 10000 34 (.agg #[.string a0,.string a1,.string a2]) (.agg #[.string b0,.string b1,.string b2])).run Tryz.prog w = .ok ((a0.toList == b0.toList) && ((a1.toList == b1.toList) && (a2.toList == b2.toList))) w := by
  obtain ⟨f0,f1,f2,hS,⟨n0,t0,o0⟩,⟨n1,t1,o1⟩,n2,t2,o2⟩ := fieldsOff
  have hF : Tryz.prog.fieldsOf 34 = #[f0,f1,f2] := by unfold Program.fieldsOf; rw [hS]
  have hp : Tryz.prog.stoodInHeld 34 = false := by kernel_rfl
  rw [show (10000 : Nat) = 9999 + 1 from rfl,run_equalIn_agg w 9999 34 _ _ (by rw [hF]; exact hS) hp,hF]
  show (Op.eqFields 9999 _ _ [f0,f1,f2]).run Tryz.prog w = _
  rw [eqF_cons w 9999 _ _ f0 _ n0 (by rw [t0,o0]; exact part_run w _ _ _ (aggStr w) rfl) (by rw [t0,o0]; exact part_run w _ _ _ (aggStr w) rfl) (by rw [t0]; exact run_equalIn_string w 9998 _ a0 b0 Tryz.underlying9),
    eqF_cons w 9999 _ _ f1 _ n1 (by rw [t1,o1]; exact part_run w _ _ _ (aggStr w) rfl) (by rw [t1,o1]; exact part_run w _ _ _ (aggStr w) rfl) (by rw [t1]; exact run_equalIn_string w 9998 _ a1 b1 Tryz.underlying9),
    eqF_cons w 9999 _ _ f2 _ n2 (by rw [t2,o2]; exact part_run w _ _ _ (aggStr w) rfl) (by rw [t2,o2]; exact part_run w _ _ _ (aggStr w) rfl) (by rw [t2]; exact run_equalIn_string w 9998 _ a2 b2 Tryz.underlying9)]
  obtain ⟨x,hx⟩ : ∃ x,x = (a0.toList == b0.toList) := ⟨_,rfl⟩
  obtain ⟨y,hy⟩ : ∃ x,x = (a1.toList == b1.toList) := ⟨_,rfl⟩
  obtain ⟨z,hz⟩ : ∃ x,x = (a2.toList == b2.toList) := ⟨_,rfl⟩
  rw [<- hx,<- hy,<- hz]
  have he : (Op.eqFields 9999 #[.string a0,.string a1,.string a2] #[.string b0,.string b1,.string b2] []).run Tryz.prog w = .ok true w := rfl
  rw [he]
  cases x <;> cases y <;> cases z <;> rfl
theorem eqlOff (w : World) (a0 a1 a2 b0 b1 b2 : ByteArray) : (binOp .eql 34 (.agg #[.string a0,.string a1,.string a2]) (.agg #[.string b0,.string b1,.string b2])).run Tryz.prog w = .ok (.bool ((a0.toList == b0.toList) && ((a1.toList == b1.toList) && (a2.toList == b2.toList)))) w := by
  rw [run_eql_struct,eqInOff]; rfl
theorem off_beq (x y : VOff) : (((bytesT x.1).toList == (bytesT y.1).toList) && (((bytesT x.2.1).toList == (bytesT y.2.1).toList) && ((bytesT x.2.2).toList == (bytesT y.2.2).toList))) = (x == y) := by
  rw [txt_beq6,txt_beq6,txt_beq6]; rfl
end Go.Proofs.YtfpfdnapamdhjaaGreatDoor

/- Layer 7: the document's IsCool and Check; Next,the program's and the document's. -/
namespace Go.Proofs.YtfpfdnapamdhjaaGreatDoor
open Go.RowKit Suf Val

set_option maxRecDepth 100000 in
set_option maxHeartbeats 16000000 in
theorem rcheck7_any (v : Value) (l : List VCool) (w : World) (hv : Lst coolK w v l) :
    Calls Tryz.prog 42 #[v] w fun e w' => e = .returned (.int .i64 (coolR l)) /\ Below w.heap.size w w' := by
  have HV := hide hv
  have hlen := hv.len
  obtain ⟨a,c,rfl⟩ := hv.val
  clear hv
  obtain ⟨n,hn⟩ : ∃ n,n = l.length := ⟨_,rfl⟩
  obtain ⟨R,hR⟩ : ∃ R,R = coolR l := ⟨_,rfl⟩
  rw [<- hR]
  unfold coolR at hR
  rw [<- hn] at HV hlen hR ⊢
  have HN := hide hn
  clear hn
  by_cases h4 : 72 < n
  · have hfin : Hid (R = 3) := by show _ = _; rw [hR,if_pos h4]
    have hb : decide ((72 : Int) < (n : Int)) = true := by simp; omega
    clear hR
    go_enter Tryz.func42,Tryz.ntmps42
    go_wp2_with fail
    go_ret
    exact ⟨ret_int (unhide hfin).symm,Below.refl _ _⟩
  rw [if_neg h4] at hR
  have HR : Hid (R = coolF (prevO l 0) (l.drop 0)) := hR
  clear hR
  have hb4 : decide ((72 : Int) < (n : Int)) = false := by simp; omega
  go_enter Tryz.func42,Tryz.ntmps42
  go_wp2_with fail
  go_loopw [3] (fun i W => ∃ k : Nat,k <= n /\ i = .int .i64 k /\ Hid (R = coolF (prevO l k) (l.drop k)) /\ Hid (Below w.heap.size w W)) (fun i _ => n - (intOf i).toNat)
  case atStart => exact ⟨0,Nat.zero_le _,rfl,unhide HR,Below.refl _ _⟩
  case round =>
    obtain ⟨k,hk,rfl,hlab,hbel⟩ := hrel
    by_cases hlt : k < n
    · have hlk : k < l.length := by rw [<- unhide HN]; exact hlt
      obtain ⟨b,o,rfl,hat⟩ := ((unhide HV).below (unhide hbel)).at hlk
      have hst := hide (cool_step hlk)
      have hlst := hide ((unhide HV).below (unhide hbel))
      obtain ⟨y,hy⟩ : ∃ y,y = l[k] := ⟨_,rfl⟩
      rw [<- hy] at hat hst
      rw [<- unhide hlab] at hst
      obtain ⟨h0123,h3⟩ := cool_at.1 hat
      obtain ⟨⟨h0,hs0⟩,⟨h1,hs1⟩,h2,hs2⟩ := off_at.1 h0123
      rw [show coolK.size = 4 from rfl] at h0 h1 h2 h3
      have HO : Hid (okO y.1) := ⟨hs0,hs1,hs2⟩
      clear hs0 hs1 hs2 hy hat hlab h0123
      obtain ⟨z,hz⟩ : ∃ z,z = oneR y := ⟨_,rfl⟩
      have c0 : Hid (∀ W,Calls Tryz.prog 95 #[.agg #[.string (bytesT y.1.1),.string (bytesT y.1.2.1),.string (bytesT y.1.2.2),.int .i64 y.2]] W fun e w' => e = .returned (.int .i64 z) /\ Below W.heap.size W w') := by rw [hz]; exact fun W => rone_any y W (unhide HO)
      rw [<- hz] at hst
      clear hz
      have i2 : (0 : Int) <= (k : Int) := by omega
      have i3 : (k : Int) < (n : Int) := by omega
      go_wp2_with fail
      refine (unhide c0 _).mono ?_
      rintro e w1 ⟨rfl,hw1⟩
      have B1 := hide hw1
      have f0 := cell_kept hw1 h0
      have f1 := cell_kept hw1 h1
      have f2 := cell_kept hw1 h2
      clear hw1 h0 h1 h2 h3
      have B3 := hide (chain (unhide hbel) (unhide B1))
      by_cases hz0 : z = 0
      case neg =>
        have hb := nz hz0
        have hfin : Hid (R = z) := by show _ = _; rw [unhide hst]; simp [hz0]
        clear hz0
        go_wp2_with fail
        go_ret
        exact ⟨ret_int (unhide hfin).symm,unhide B3⟩
      subst hz0
      have hst2 : Hid (R = if behind (prevO l k) y.1 = false then 6 else coolF (prevO l (k + 1)) (l.drop (k + 1))) := by show _ = _; rw [unhide hst]; rfl
      clear hst
      cases k with
      | zero =>
        have hnx : Hid (R = coolF (prevO l 1) (l.drop 1)) := by show _ = _; rw [unhide hst2]; rfl
        clear f0 f1 f2
        go_wp2_with fail
        go_roundw
        case rel => exact ⟨1,by omega,by go_num,hnx,B3⟩
        case measure => simp [intOf]; omega
      | succ m =>
        have hlm : m < l.length := by omega
        obtain ⟨b',o',eb,hat⟩ := ((unhide hlst).below (unhide B1)).at hlm
        obtain ⟨rfl,rfl⟩ : b = b' /\ o = o' := by injection eb with eb; injection eb with e1 e2 _; exact ⟨e1,e2⟩
        obtain ⟨x,hx⟩ : ∃ x,x = l[m] := ⟨_,rfl⟩
        have hpv : prevO l (m + 1) = some x.1 := by rw [hx]; exact prev_at hlm
        rw [hpv] at hst2
        rw [<- hx] at hat
        obtain ⟨g0123,_⟩ := cool_at.1 hat
        obtain ⟨⟨g0,_⟩,⟨g1,_⟩,g2,_⟩ := off_at.1 g0123
        rw [show coolK.size = 4 from rfl] at g0 g1 g2
        clear hat eb g0123 hpv hx
        obtain ⟨q,hq⟩ : ∃ q,q = lessO x.1 y.1 := ⟨_,rfl⟩
        have hst3 : Hid (R = if q = false then 6 else coolF (prevO l (m + 1 + 1)) (l.drop (m + 1 + 1))) := by show _ = _; rw [unhide hst2,hq]; rfl
        have cO := hide (fun W => rless6_any x.1 y.1 W)
        unfold offA at cO
        rw [<- hq] at cO
        clear hq
        have i0 : (0 : Int) <= (m : Int) := by omega
        have i1 : (m : Int) < (n : Int) := by omega
        obtain ⟨z1,hz1⟩ : ∃ z : Int,z = ((m + 1 : Nat) : Int) := ⟨_,rfl⟩
        rw [<- hz1] at i2 i3 ⊢
        have HZ := hide hz1
        have e1 : z1 - 1 = (m : Int) := by omega
        have e2 : IntKind.i64.wrap (z1 - 1) = (m : Int) := by rw [e1]; simp [IntKind.wrap,IntKind.bits,IntKind.signed]; omega
        have e3 : wrap64 (z1 - 1) = (m : Int) := by unfold wrap64; omega
        have e7 : IntKind.i64.wrap (m : Int) = (m : Int) := by rw [<- e1]; exact e2.trans e1.symm
        have e4 : decide ((0 : Int) < z1) = true := by simp; omega
        have e8 : z1.toNat = m + 1 := by omega
        have e5 : wrap64 (z1 + 1) = ((m + 1 + 1 : Nat) : Int) := by unfold wrap64; omega
        clear hz1
        have hS : (fun W => Hid (Below w1.heap.size w1 W) /\ W.cell? ⟨b,o + m * 4,none⟩ = some (.string (bytesT x.1.1)) /\ W.cell? ⟨b,o + m * 4 + 1,none⟩ = some (.string (bytesT x.1.2.1)) /\ W.cell? ⟨b,o + m * 4 + 2,none⟩ = some (.string (bytesT x.1.2.2)) /\ W.cell? ⟨b,o + (m + 1) * 4,none⟩ = some (.string (bytesT y.1.1)) /\ W.cell? ⟨b,o + (m + 1) * 4 + 1,none⟩ = some (.string (bytesT y.1.2.1)) /\ W.cell? ⟨b,o + (m + 1) * 4 + 2,none⟩ = some (.string (bytesT y.1.2.2))) w1 := ⟨Below.refl _ _,g0,g1,g2,f0,f1,f2⟩
        simp only at hS
        clear g0 g1 g2 f0 f1 f2
        go_wp2_with fail
        go_region_held3 (fun W => Hid (Below w1.heap.size w1 W) /\ W.cell? ⟨b,o + m * 4,none⟩ = some (.string (bytesT x.1.1)) /\ W.cell? ⟨b,o + m * 4 + 1,none⟩ = some (.string (bytesT x.1.2.1)) /\ W.cell? ⟨b,o + m * 4 + 2,none⟩ = some (.string (bytesT x.1.2.2)) /\ W.cell? ⟨b,o + (m + 1) * 4,none⟩ = some (.string (bytesT y.1.1)) /\ W.cell? ⟨b,o + (m + 1) * 4 + 1,none⟩ = some (.string (bytesT y.1.2.1)) /\ W.cell? ⟨b,o + (m + 1) * 4 + 2,none⟩ = some (.string (bytesT y.1.2.2)))
          (first | (with_reducible exact hS) | (with_reducible assumption) | (with_reducible refine c6_drew7 ?_; with_reducible assumption) | (refine c6_call7 (by assumption) ?_; with_reducible assumption))
          (first | (go_at_call 96; refine (unhide cO _).mono ?_; rintro e w9 ⟨rfl,hw9⟩))
        rename_i hH
        have B6 := hide (chain (unhide B3) (unhide hH.1))
        clear hH hS
        cases q
        · have hfin : Hid (R = 6) := by show _ = _; rw [unhide hst3]; rfl
          go_wp2_with fail
          go_ret
          exact ⟨ret_int (unhide hfin).symm,unhide B6⟩
        · have hnx : Hid (R = coolF (prevO l (m + 1 + 1)) (l.drop (m + 1 + 1))) := by show _ = _; rw [unhide hst3]; rfl
          go_wp2_with fail
          go_roundw
          case rel => exact ⟨m + 1 + 1,by omega,by first | rw [e5] | (rw [unhide HZ]; go_num),hnx,B6⟩
          case measure => simp [intOf]; omega
    · obtain rfl : k = n := by omega
      have hfin : Hid (R = 0) := by
        show _ = _
        rw [unhide hlab,List.drop_eq_nil_of_le (by rw [<- unhide HN]; exact Nat.le_refl _)]; cases prevO l k <;> rfl
      go_wp2_with fail
      go_ret
      exact ⟨ret_int (unhide hfin).symm,unhide hbel⟩
end Go.Proofs.YtfpfdnapamdhjaaGreatDoor
