/- ReqsOrder: the walk. -/
import Derived.Test.YtnkcbmlobikjkaaGreatDoorRqXG
import Derived.Test.YtnkcbmlobikjkaaGreatDoorV3SAG
namespace Go.Proofs.YtnkcbmlobikjkaaGreatDoor.reqsOrder
open Go.RowKit Suf Val Go.Maps

theorem same_refl (s : VSet) : sameB s s = true := by unfold sameB; simp
/-- The end of it: the sets of both lists, one by one. -/
theorem pair_at {st1 st2 : List VKS} (h : st1.map (·.2) = st2.map (·.2)) {c : Nat} (h1 : c < st1.length) (h2 : c < st2.length) : st1[c].2 = st2[c].2 := by
  have := List.getElem_of_eq h (i := c) (by simpa using h1)
  simpa using this

set_option maxRecDepth 100000 in
set_option maxHeartbeats 8000000 in
theorem walk (v0 : Value) (la : List VReq) (v1 : Value) (lb : List VReq) (v2 : Value) (ls : List Lab) (w : World) (h0 : Reqs w v0 la) (h1 : Reqs w v1 lb) (h2 : Labs w v2 ls) (hL : Laid w) :
    Calls Tryz.prog 7 #[v0, v1, v2] w fun e w' => e = .returned (.bool true) ∧ Below w.heap.size w w' := by
  have HL := hide hL
  have H0 := hide h0
  have H1 := hide h1
  have H2 := hide h2
  obtain ⟨a0, c0, rfl⟩ := h0.val
  obtain ⟨a1, c1, rfl⟩ := h1.val
  obtain ⟨a2, c2, rfl⟩ := h2.val
  obtain ⟨n0, hn0⟩ : ∃ n, n = la.length := ⟨_, rfl⟩
  obtain ⟨n1, hn1⟩ : ∃ n, n = lb.length := ⟨_, rfl⟩
  obtain ⟨n2, hn2⟩ : ∃ n, n = ls.length := ⟨_, rfl⟩
  rw [← hn0] at H0 ⊢
  rw [← hn1] at H1 ⊢
  rw [← hn2] at H2 ⊢
  have N0 := hide hn0
  have N1 := hide hn1
  clear hL h0 h1 h2 hn0 hn1 hn2
  go_enter Tryz.func7, Tryz.ntmps7
  go_wp2_with fail
  refine (rcheckL_any _ la _ (unhide HL) (unhide H0)).mono ?_
  rintro e w1 ⟨rfl, hw1⟩
  have B1 := hide hw1
  clear hw1
  by_cases hz0 : moreR 8 la = 0
  rotate_left
  · obtain ⟨z, hz⟩ : ∃ z, z = moreR 8 la := ⟨_, rfl⟩
    rw [← hz] at hz0 ⊢
    have ht : (z != 0) = true := bne_iff_ne.2 hz0
    clear hz0 hz
    go_wp2_with fail
    refine (live4_any _ ((unhide HL).below (unhide B1))).mono ?_
    rintro e w3 ⟨rfl, hw3⟩
    have B3 := hide (chain (unhide B1) hw3)
    clear hw3
    go_wp2_with fail
    go_ret
    exact ⟨rfl, unhide B3⟩
  have Z0 := hide hz0
  rw [hz0]
  clear hz0
  go_wp2_with fail
  refine (rcheckL_any _ lb _ ((unhide HL).below (unhide B1)) ((unhide H1).below (unhide B1))).mono ?_
  rintro e w2 ⟨rfl, hw2⟩
  have B2 := hide (chain (unhide B1) hw2)
  clear hw2 B1
  by_cases hz1 : moreR 8 lb = 0
  rotate_left
  · obtain ⟨z, hz⟩ : ∃ z, z = moreR 8 lb := ⟨_, rfl⟩
    rw [← hz] at hz1 ⊢
    have ht : (z != 0) = true := bne_iff_ne.2 hz1
    clear hz1 hz
    go_wp2_with fail
    refine (live4_any _ ((unhide HL).below (unhide B2))).mono ?_
    rintro e w3 ⟨rfl, hw3⟩
    have B3 := hide (chain (unhide B2) hw3)
    clear hw3
    go_wp2_with fail
    go_ret
    exact ⟨rfl, unhide B3⟩
  have Z1 := hide hz1
  rw [hz1]
  clear hz1
  have k0 : Hid (n0 ≤ 8) := by show _ ≤ _; rw [unhide N0]; exact (more_ok.1 (unhide Z0)).1
  have k1 : Hid (n1 ≤ 8) := by show _ ≤ _; rw [unhide N1]; exact (more_ok.1 (unhide Z1)).1
  obtain ⟨x, z, ee, E1, E2, E3, E4⟩ := adm_all (ls := ls) (unhide Z0) (unhide Z1)
  have F1 := hide E1
  have F2 := hide E2
  have F3 := hide E3
  have F4 := hide E4
  clear E1 E2 E3 E4
  go_wp2_with fail
  refine (padmits_any _ la _ ls _ ((unhide HL).below (unhide B2)) ((unhide H0).below (unhide B2)) ((unhide H2).below (unhide B2))).mono ?_
  rintro e w3 ⟨he, hw3⟩
  rw [unhide F1] at he
  subst he
  have B3 := hide (chain (unhide B2) hw3)
  clear hw3 B2
  go_wp2_with fail
  refine (back_any _ la _ ((unhide H0).below (unhide B3)) (by have := unhide N0; have := unhide k0; omega)).mono ?_
  rintro e w4 ⟨⟨vb, rfl, hvb⟩, hw4⟩
  have B4 := hide (chain (unhide B3) hw4)
  have Q4 := hide hvb
  clear hw4 hvb B3
  go_wp2_with fail
  refine (padmits_any _ _ _ ls _ ((unhide HL).below (unhide B4)) (unhide Q4) ((unhide H2).below (unhide B4))).mono ?_
  rintro e w5 ⟨he, hw5⟩
  rw [unhide F2] at he
  subst he
  have B5 := hide (chain (unhide B4) hw5)
  clear hw5 B4 Q4
  go_wp2_with fail
  refine (padmits_any _ lb _ ls _ ((unhide HL).below (unhide B5)) ((unhide H1).below (unhide B5)) ((unhide H2).below (unhide B5))).mono ?_
  rintro e w6 ⟨he, hw6⟩
  rw [unhide F3] at he
  subst he
  have B6 := hide (chain (unhide B5) hw6)
  clear hw6 B5
  have B7 := hide (chain (unhide B6) (box_below (.cells #[] 25)))
  have R0 : Hid ((w6.alloc (.cells #[] 25)).ownsRow w.heap.size 25 4 (.slice (some ⟨w6.heap.size, 0, none⟩) 0 0) 0 []) := ⟨rfl, Or.inr ⟨w6.heap.size, 0, #[], rfl, (unhide B6).size, heap_alloc_new w6 _, Nat.le_refl _, Nat.zero_le _, rfl, rfl⟩⟩
  go_wp2_with (first | (at_builtin; (refine wpList_append_reqs rfl _ _ rfl w.heap.size _ 0 [] rfl (unhide R0) _ la rfl w (unhide B7) (unhide H0) (by have := unhide N0; have := unhide k0; omega) (unhide B7).size ?_; intro v1 w7 news1 hr1 hown1 hg1; have B8 := hide (row_grow (unhide B7) (unhide R0) hg1); rw [Nat.zero_add, List.nil_append, ← unhide N0] at hown1; have R1 := hide (And.intro hr1 hown1); clear hr1 hown1 hg1)) | (at_builtin; (refine wpList_append_reqs rfl _ _ rfl w.heap.size _ n0 news1 rfl (unhide R1).2 _ lb rfl w (unhide B8) (unhide H1) (by have := unhide N1; have := unhide k0; have := unhide k1; omega) (unhide B8).size ?_; intro v2 w8 news2 hr2 hown2 hg2; have B9 := hide (row_grow (unhide B8) (unhide R1).2 hg2); rw [← unhide N1] at hown2; have R2 := hide (And.intro ((unhide R1).1.append hr2) hown2); clear hr2 hown2 hg2)))
  have HV : Hid (Reqs w8 v2 (la ++ lb)) := row_reqs (unhide R2).2 ((unhide R2).1.below (unhide B9)) (by rw [List.length_append, unhide N0, unhide N1]) (by rw [List.length_append, ← unhide N0, ← unhide N1]; have := unhide k0; have := unhide k1; omega)
  refine (padmits_any _ (la ++ lb) _ ls _ ((unhide HL).below (unhide B9)) (unhide HV) ((unhide H2).below (unhide B9))).mono ?_
  rintro e w9 ⟨he, hw9⟩
  rw [unhide F4] at he
  subst he
  have B10 := hide (chain (unhide B9) hw9)
  clear hw9 B6 B7 B8 B9 R0 R1 R2 HV F1 F2 F3 F4
  have hee : (ee != ee) = false := by simp
  obtain ⟨st, S1, S2⟩ := sets_same (b := la.reverse ++ la) (unhide Z0) (by have := (more_ok.1 (unhide Z0)).1; simp; omega) (fun r => by simp)
  have G1 := hide S1
  have G2 := hide S2
  clear S1 S2
  cases x <;> cases z
  all_goals
    go_wp2_with fail
    refine (psets_any _ la _ ((unhide HL).below (unhide B10)) ((unhide H0).below (unhide B10))).mono ?_
    rintro e w10 (⟨h0, _, _⟩ | ⟨h0, v', st1, rfl, hst1, hown1, hw10⟩)
    · exact absurd (by rw [unhide G1]) h0
    rw [unhide G1] at hst1
    have B11 := hide (chain (unhide B10) hw10)
    have O1 := hide hown1
    have T1 := hide hst1
    obtain ⟨xa, xc, hxe⟩ := hown1.val
    obtain ⟨xn, hxn⟩ : ∃ x, x = st1.length := ⟨_, rfl⟩
    rw [← hxn] at hxe
    have M1 := hide hxn
    subst hxe
    clear h0 hw10 hown1 hst1 hxn B10
    go_wp2_with fail
    refine (back_any _ la _ ((unhide H0).below (unhide B11)) (by have := unhide N0; have := unhide k0; omega)).mono ?_
    rintro e w11 ⟨⟨vb2, rfl, hvb⟩, hw11⟩
    have B12 := hide (chain (unhide B11) hw11)
    have O2 := hide ((unhide O1).below hw11)
    have Q12 := hide hvb
    clear hw11 hvb B11 O1
    go_wp2_with fail
    refine (psets_any _ _ _ ((unhide HL).below (unhide B12)) (unhide Q12)).mono ?_
    rintro e w12 (⟨h0, _, _⟩ | ⟨h0, v'', st2, rfl, hst2, hown2, hw12⟩)
    · exact absurd (by rw [unhide G2]) h0
    rw [unhide G2] at hst2
    have B13 := hide (chain (unhide B12) hw12)
    have O3 := hide ((unhide O2).below hw12)
    have P3 := hide hown2
    have T2 : Hid (st1.map (·.2) = st2.map (·.2)) := (unhide T1).trans hst2.symm
    obtain ⟨ya, yc, hye⟩ := hown2.val
    have hnn : st2.length = xn := by
      have := congrArg List.length (unhide T2)
      rw [unhide M1]
      simpa using this.symm
    rw [hnn] at hye
    have M2 := hide hnn
    subst hye
    have h16 : xn ≤ 16 := by
      have := congrArg List.length hst2
      have h3 := sets_len (l := la)
      rw [unhide G1] at h3
      simp at this h3
      omega
    clear h0 hw12 hown2 hst2 hnn B12 O2 Q12 T1 G1 G2
    go_wp2_with fail
    go_loopw [19] (fun i W => ∃ c : Nat, c ≤ xn ∧ i = .int .i64 c ∧ Hid (Below w12.heap.size w12 W)) (fun i _ => xn - (intOf i).toNat)
    case atStart => exact ⟨0, Nat.zero_le _, rfl, Below.refl _ _⟩
    case round =>
      obtain ⟨c, hc, rfl, hbel⟩ := hrel
      by_cases hlt : c < xn
      · have hx1 : c < st1.length := by rw [← unhide M1]; exact hlt
        have hx2 : c < st2.length := by rw [unhide M2]; exact hlt
        obtain ⟨g, rfl, sv1⟩ := ((unhide O3).below (unhide hbel)).at hx1
        obtain ⟨g', rfl, sv2⟩ := ((unhide P3).below (unhide hbel)).at hx2
        have el1 := (((unhide O3).below (unhide hbel)).2.1 _ (List.getElem_mem hx1)).1.strs
        have el2 := (((unhide P3).below (unhide hbel)).2.1 _ (List.getElem_mem hx2)).1.strs
        have hpr := pair_at (unhide T2) hx1 hx2
        obtain ⟨y1, hy1⟩ : ∃ y, y = st1[c] := ⟨_, rfl⟩
        obtain ⟨y2, hy2⟩ : ∃ y, y = st2[c] := ⟨_, rfl⟩
        rw [← hy1] at sv1 el1 hpr
        rw [← hy2] at sv2 el2 hpr
        clear hy1 hy2 hx1 hx2
        obtain ⟨u1, key, s⟩ := y1
        obtain ⟨u2, y2⟩ := y2
        simp only at hpr
        subst hpr
        have E1 := hide el1
        have E2 := hide el2
        obtain ⟨ua, uc, hue⟩ := el1.val
        obtain ⟨ta, tc, hte⟩ := el2.val
        simp only at hue hte sv1 sv2
        obtain ⟨un, hun⟩ : ∃ x, x = s.vals.length := ⟨_, rfl⟩
        obtain ⟨tn, htn⟩ : ∃ x, x = s.vals.length := ⟨_, rfl⟩
        rw [← hun] at hue
        rw [← htn] at hte
        subst hue
        subst hte
        clear hun htn el1 el2
        obtain ⟨s0, s1, s2, s3, s4, s5, s6⟩ := sv1
        obtain ⟨t0, t1, t2, t3, t4, t5, t6⟩ := sv2
        simp only at s0 s1 s2 s3 s4 s5 s6 t0 t1 t2 t3 t4 t5 t6
        obtain ⟨Y, hY⟩ : ∃ Y, Y = bytesT key := ⟨_, rfl⟩
        rw [← hY] at s0 t0
        clear hY
        have hq : (Y.toList == Y.toList) = true := by simp
        have hS := And.intro (show Hid (Below wr.heap.size wr wr) from Below.refl _ _) (And.intro s0 (And.intro t0 (And.intro s1 (And.intro s2 (And.intro s3 (And.intro s4 (And.intro s5 (And.intro s6 (And.intro t1 (And.intro t2 (And.intro t3 (And.intro t4 (And.intro t5 t6)))))))))))))
        have cH : Hid (∀ W, Hid (Below wr.heap.size wr W) ∧ W.cell? ⟨g, c * 7, none⟩ = some (.string Y) ∧ W.cell? ⟨g', c * 7, none⟩ = some (.string Y) ∧ W.cell? ⟨g, c * 7 + 1, none⟩ = some (.bool s.miss) ∧ W.cell? ⟨g, c * 7 + 2, none⟩ = some (.bool s.no) ∧ W.cell? ⟨g, c * 7 + 3, none⟩ = some (.bool s.num) ∧ W.cell? ⟨g, c * 7 + 4, none⟩ = some (.slice ua un uc) ∧ W.cell? ⟨g, c * 7 + 5, none⟩ = some (.int .i64 s.lo) ∧ W.cell? ⟨g, c * 7 + 6, none⟩ = some (.int .i64 s.hi) ∧ W.cell? ⟨g', c * 7 + 1, none⟩ = some (.bool s.miss) ∧ W.cell? ⟨g', c * 7 + 2, none⟩ = some (.bool s.no) ∧ W.cell? ⟨g', c * 7 + 3, none⟩ = some (.bool s.num) ∧ W.cell? ⟨g', c * 7 + 4, none⟩ = some (.slice ta tn tc) ∧ W.cell? ⟨g', c * 7 + 5, none⟩ = some (.int .i64 s.lo) ∧ W.cell? ⟨g', c * 7 + 6, none⟩ = some (.int .i64 s.hi) → Calls Tryz.prog 23 #[.agg #[.bool s.miss, .bool s.no, .bool s.num, .slice ua un uc, .int .i64 s.lo, .int .i64 s.hi], .agg #[.bool s.miss, .bool s.no, .bool s.num, .slice ta tn tc, .int .i64 s.lo, .int .i64 s.hi]] W fun e w' => e = .returned (.bool true) ∧ Below W.heap.size W w') := fun W hs => by
          have := psame_any s.miss s.no s.num _ s.vals s.lo s.hi s.miss s.no s.num _ s.vals s.lo s.hi W ((unhide E1).below (unhide hs.1)) ((unhide E2).below (unhide hs.1))
          rw [same_refl] at this
          exact this
        have i0 : (0 : Int) ≤ (c : Int) := by omega
        have i1 : (c : Int) < (xn : Int) := by omega
        clear s0 s1 s2 s3 s4 s5 s6 t0 t1 t2 t3 t4 t5 t6
        go_wp2_with fail
        go_region_held3 (fun W => Hid (Below wr.heap.size wr W) ∧ W.cell? ⟨g, c * 7, none⟩ = some (.string Y) ∧ W.cell? ⟨g', c * 7, none⟩ = some (.string Y) ∧ W.cell? ⟨g, c * 7 + 1, none⟩ = some (.bool s.miss) ∧ W.cell? ⟨g, c * 7 + 2, none⟩ = some (.bool s.no) ∧ W.cell? ⟨g, c * 7 + 3, none⟩ = some (.bool s.num) ∧ W.cell? ⟨g, c * 7 + 4, none⟩ = some (.slice ua un uc) ∧ W.cell? ⟨g, c * 7 + 5, none⟩ = some (.int .i64 s.lo) ∧ W.cell? ⟨g, c * 7 + 6, none⟩ = some (.int .i64 s.hi) ∧ W.cell? ⟨g', c * 7 + 1, none⟩ = some (.bool s.miss) ∧ W.cell? ⟨g', c * 7 + 2, none⟩ = some (.bool s.no) ∧ W.cell? ⟨g', c * 7 + 3, none⟩ = some (.bool s.num) ∧ W.cell? ⟨g', c * 7 + 4, none⟩ = some (.slice ta tn tc) ∧ W.cell? ⟨g', c * 7 + 5, none⟩ = some (.int .i64 s.lo) ∧ W.cell? ⟨g', c * 7 + 6, none⟩ = some (.int .i64 s.hi))
          (first | (with_reducible exact hS) | (with_reducible assumption) | (with_reducible refine c14_drew ?_; with_reducible assumption) | (with_reducible refine c14_next ?_ hw; with_reducible assumption))
          (first | (go_at_call 23; with_reducible refine (unhide cH _ ?_).mono ?_; with_reducible assumption; rintro e w4 ⟨rfl, hw⟩))
        rename_i hH
        have B14 := hide (chain (unhide hbel) (unhide hH.1))
        clear hH hS hw cH
        go_wp2_with fail
        go_roundw
        case rel => exact ⟨c + 1, by omega, by go_num, B14⟩
        case measure => simp [intOf]; omega
      · obtain rfl : c = xn := by omega
        have B14 := hide (chain (unhide B13) (unhide hbel))
        go_wp2_with fail
        refine (live4_any _ ((unhide HL).below (unhide B14))).mono ?_
        rintro e w15 ⟨rfl, hw15⟩
        have B15 := hide (chain (unhide B14) hw15)
        clear hw15
        go_wp2_with fail
        go_ret
        exact ⟨rfl, unhide B15⟩
end Go.Proofs.YtnkcbmlobikjkaaGreatDoor.reqsOrder
