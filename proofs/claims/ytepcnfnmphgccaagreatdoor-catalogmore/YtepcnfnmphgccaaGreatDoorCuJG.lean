/- Layer 6: contract of Match. -/
import Derived.Test.YtepcnfnmphgccaaGreatDoorCuHG
import Derived.Test.YtepcnfnmphgccaaGreatDoorRqCG
namespace Go.Proofs.YtepcnfnmphgccaaGreatDoor
open Go.RowKit Suf Val Go.Maps Go.Sort

theorem labs_of {w : World} {v : Value} {l : List Lab} (h : Lst labK w v l) (hl : l.length ≤ 4398046511104) : Labs w v l := by
  obtain ⟨a, c, e, hc, _⟩ := h
  refine ⟨a, c, e, fun j hj => ?_, hl⟩
  obtain ⟨b, o, e2, hat⟩ := hc j hj
  obtain ⟨⟨h0, s0⟩, h1, s1⟩ := lab_at.1 hat
  exact ⟨b, o, e2, h0, h1, s0, s1⟩
set_option maxHeartbeats 2000000 in
theorem cadmits_any (v : Value) (l : List VReq) (u : Value) (ls : List Lab) (w : World) (hL : Laid w) (hv : Reqs w v l) (hu : Labs w u ls) :
    Calls Tryz.prog 38 #[v, u] w fun e w' => e = .returned (.tuple #[.bool (admitsR l ls).1, .int .i64 (admitsR l ls).2]) ∧ Below w.heap.size w w' := by
  have hc := hide (padmits_any v l u ls w hL hv hu)
  obtain ⟨a, c, rfl⟩ := hv.val
  obtain ⟨a2, c2, rfl⟩ := hu.val
  clear hL hv hu
  obtain ⟨n, hn⟩ : ∃ n, n = l.length := ⟨_, rfl⟩
  obtain ⟨n2, hn2⟩ : ∃ n, n = ls.length := ⟨_, rfl⟩
  rw [← hn, ← hn2] at hc ⊢
  obtain ⟨r1, hr1⟩ : ∃ r, r = (admitsR l ls).1 := ⟨_, rfl⟩
  obtain ⟨r2, hr2⟩ : ∃ r, r = (admitsR l ls).2 := ⟨_, rfl⟩
  rw [← hr1, ← hr2] at hc ⊢
  clear hn hn2 hr1 hr2
  go_enter Tryz.func38, Tryz.ntmps38
  go_wp2_with fail
  refine (unhide hc).mono ?_
  rintro e w1 ⟨rfl, hw1⟩
  have B1 := hide hw1
  clear hw1 hc
  go_wp2_with fail
  go_ret2
  exact ⟨rfl, unhide B1⟩
def matchPost (w : World) (r : List VOff × Int) (e : Ending) (w' : World) : Prop := ∃ v, e = .returned (.tuple #[v, .int .i64 r.2]) ∧ OwnO w' w.heap.size v r.1 ∧ Below w.heap.size w w'
theorem ownO_nil (w : World) (base : Nat) : OwnO w base (.slice none 0 0) [] := ⟨World.ownsRow_nil _ _ _ _, fun x hx => (by cases hx), by simp⟩
theorem filter_nextO {p : VOff → Bool} {l : List VOff} {k : Nat} (h : k < l.length) : (l.take (k + 1)).filter p = if p l[k] = true then (l.take k).filter p ++ [l[k]] else (l.take k).filter p := by
  rw [take_at6 l k h, List.filter_append]
  by_cases e : p l[k] = true
  · rw [if_pos e, List.filter_cons_of_pos e]; rfl
  · rw [if_neg e, List.filter_cons_of_neg e]; simp
set_option maxRecDepth 100000 in
set_option maxHeartbeats 16000000 in
theorem pMatch_any (v : Value) (l : List VType) (v2 : Value) (l2 : List VOff) (v3 : Value) (rs : List VReq) (pool name : Txt) (w : World) (hL : Laid w) (hv : Lst typK w v l) (hv2 : Lst offK w v2 l2) (hby : l2.length * 48 ≤ 140737488355328) (hv3 : Reqs w v3 rs) (hp : short pool) (hn : short name) :
    Calls Tryz.prog 23 #[v, v2, v3, .string (bytesT pool), .string (bytesT name)] w fun e w' => matchPost w (matchR l l2 rs pool name) e w' := by
  have cad := hide (cadmits_any v3 rs (.slice none 0 0) [] w hL hv3 (labs_of (lst_nil _ _ _) (by simp)))
  have cal := hide (fun w1 hb => pallowed_any v l w1 (hL.below (w' := w1) hb) (hv.below hb))
  have hA := hide (alw_lst hv)
  have hok := cat_ok (alw_ok l)
  have ctab : Hid (∀ w1, Below w.heap.size w w1 → Calls Tryz.prog 33 #[alwV v l] w1 fun e w' => (e = .returned (.map (some w1.heap.size))) ∧ Tab w w' w1.heap.size (findR l) 72 ∧ Below w1.heap.size w1 w') := fun w1 hb => by
    refine (ptable_any _ (alwR l) w w1 (unhide hA) hb hok.2.1 hok.1).mono ?_
    rintro e w' ⟨rfl, ht, h2⟩
    exact ⟨rfl, ht.congr (fun o _ => tab_alw l o), h2⟩
  have HL := hide hL
  have HV3 := hide hv3
  have HP := hide hp
  have HN := hide hn
  have cn1 := hide (fun W => nameT pool W hp)
  have cn2 := hide (fun W => nameT name W hn)
  have hmt : Hid (∀ o, (∀ y, findR l o = some y → TypeOk y.1 ∧ labsR l o pool name = labsF (fiveL o pool name) y.1.labs ∧ meetsO l rs pool name o = (admitsR rs (labsF (fiveL o pool name) y.1.labs)).1) ∧ (findR l o = none → meetsO l rs pool name o = false)) := fun o => by
    refine ⟨fun y hy => ?_, fun hy => ?_⟩
    · obtain ⟨hc, h1, _⟩ := find_key hy
      have hlb : labsR l o pool name = labsF (fiveL o pool name) y.1.labs := by unfold labsR; rw [hy]
      refine ⟨(cat_ok hc).2.1 _ h1, hlb, ?_⟩
      unfold meetsO thereB
      rw [hy, hlb]; rfl
    · unfold meetsO thereB
      rw [hy]; rfl
  obtain ⟨u, hu⟩ : ∃ u, u = alwV v l := ⟨_, rfl⟩
  rw [← hu] at cal ctab hA
  obtain ⟨ua, uc, rfl⟩ := (unhide hA).val
  obtain ⟨m, hm⟩ : ∃ m, m = (alwR l).length := ⟨_, rfl⟩
  rw [← hm] at cal ctab
  obtain ⟨a, c, rfl⟩ := hv.val
  have HV2 := hide hv2
  have HS2 := hide (off_short hv2)
  have hlen2 := hv2.len
  have HBY := hide hby
  obtain ⟨a2, c2, rfl⟩ := hv2.val
  obtain ⟨a3, c3, rfl⟩ := hv3.val
  clear hL hv hA hok hu hm hv2 hv3 hp hn hby
  obtain ⟨n, hn⟩ : ∃ n, n = l.length := ⟨_, rfl⟩
  rw [← hn] at cal ⊢
  clear hn
  obtain ⟨N3, hN3⟩ : ∃ n, n = rs.length := ⟨_, rfl⟩
  rw [← hN3] at cad HV3 ⊢
  clear hN3
  obtain ⟨N, hN⟩ : ∃ N, N = l2.length := ⟨_, rfl⟩
  rw [← hN] at hlen2 HV2 HBY ⊢
  have HNN := hide hN
  clear hN
  obtain ⟨r1, hr1⟩ : ∃ r, r = (admitsR rs []).1 := ⟨_, rfl⟩
  obtain ⟨r2, hr2⟩ : ∃ r, r = (admitsR rs []).2 := ⟨_, rfl⟩
  obtain ⟨q1, hq1⟩ : ∃ q, q = nameB pool := ⟨_, rfl⟩
  obtain ⟨q2, hq2⟩ : ∃ q, q = nameB name := ⟨_, rfl⟩
  obtain ⟨R, hR⟩ : ∃ R, R = matchR l l2 rs pool name := ⟨_, rfl⟩
  rw [← hR]
  unfold matchR at hR
  rw [← hr2, ← hq1, ← hq2] at hR
  rw [← hr1, ← hr2] at cad
  rw [← hq1] at cn1
  rw [← hq2] at cn2
  have HR := hide hR
  clear hr1 hr2 hq1 hq2 hR
  obtain ⟨PP, hPP⟩ : ∃ P, P = matchPost w R := ⟨_, rfl⟩
  show Calls _ _ _ _ (fun e w' => matchPost w R e w')
  rw [← hPP]
  have HPP := hide hPP
  clear hPP
  go_enter Tryz.func23, Tryz.ntmps23
  go_wp2_with fail
  refine (unhide cad).mono ?_
  rintro e w1 ⟨rfl, hw1⟩
  have B1 := hide hw1
  clear hw1 cad
  by_cases hz : r2 = 0
  case neg =>
    have hb := nz hz
    have hfin : Hid (R = ([], r2)) := by show _ = _; rw [unhide HR, if_pos hz]
    clear hz HR
    go_wp2_with fail
    show PP (.returned (.tuple #[.slice none 0 0, .int .i64 r2])) _
    rw [unhide HPP, unhide hfin]
    exact ⟨_, rfl, ownO_nil _ _, unhide B1⟩
  subst hz
  go_wp2_with fail
  refine (unhide cn1 _).mono ?_
  rintro e w2 ⟨rfl, hw2⟩
  obtain rfl := hw2.symm
  clear hw2
  cases q1
  · have hfin : Hid (R = ([], 7)) := by show _ = _; rw [unhide HR]; simp
    go_wp2_with fail
    show PP (.returned (.tuple #[.slice none 0 0, .int .i64 7])) _
    rw [unhide HPP, unhide hfin]
    exact ⟨_, rfl, ownO_nil _ _, unhide B1⟩
  go_wp2_with fail
  refine (unhide cn2 _).mono ?_
  rintro e w2 ⟨rfl, hw2⟩
  obtain rfl := hw2.symm
  clear hw2
  cases q2
  · have hfin : Hid (R = ([], 7)) := by show _ = _; rw [unhide HR]; simp
    go_wp2_with fail
    show PP (.returned (.tuple #[.slice none 0 0, .int .i64 7])) _
    rw [unhide HPP, unhide hfin]
    exact ⟨_, rfl, ownO_nil _ _, unhide B1⟩
  have hfin : Hid (R = (l2.filter (meetsO l rs pool name), 0)) := by show _ = _; rw [unhide HR]; simp
  clear HR cn1 cn2
  go_wp2_with fail
  refine (unhide cal _ (unhide B1)).mono ?_
  rintro e w2 ⟨rfl, hw2⟩
  have B2 := hide (chain (unhide B1) hw2)
  have c1 := hide (unhide ctab w2 (unhide B2))
  clear hw2 cal ctab B1
  go_wp2_with fail
  refine (unhide c1).mono ?_
  rintro e w3 ⟨rfl, ht3, hw3⟩
  have B3 := hide (chain (unhide B2) hw3)
  have T3 := hide ht3
  have hlt : w2.heap.size < w3.heap.size := ht3.lt
  clear ht3 hw3 c1 B2
  obtain ⟨b, hb⟩ : ∃ b, b = w2.heap.size := ⟨_, rfl⟩
  rw [← hb] at hlt T3 ⊢
  clear hb
  go_wp2_with fail
  go_loopw [15, 43] (fun s i W => ∃ k : Nat, k ≤ N ∧ i = .int .i64 k ∧ Hid (Tab w W b (findR l) 72) ∧ Hid (W.ownsRow w3.heap.size 24 3 s ((l2.take k).filter (meetsO l rs pool name)).length (flatO ((l2.take k).filter (meetsO l rs pool name)))) ∧ Hid (Below w3.heap.size w3 W)) (fun _ i _ => N - (intOf i).toNat)
  case atStart => exact ⟨0, Nat.zero_le _, rfl, T3, World.ownsRow_nil _ _ _ _, Below.refl _ _⟩
  case round =>
    obtain ⟨k, hk, rfl, htab, hrow, hbel⟩ := hrel
    by_cases hltk : k < N
    · have hlk : k < l2.length := by rw [← unhide HNN]; exact hltk
      obtain ⟨bb, ob, rfl, hat⟩ := ((unhide HV2).below (chain (unhide B3) (unhide hbel))).at hlk
      have hnx := hide (filter_nextO (p := meetsO l rs pool name) hlk)
      have hso := hide (unhide HS2 _ (List.getElem_mem hlk))
      have hfl : Hid (((l2.take k).filter (meetsO l rs pool name)).length ≤ k) := Nat.le_trans (List.length_filter_le _ _) (by rw [List.length_take]; omega)
      obtain ⟨o, ho⟩ : ∃ o, o = l2[k] := ⟨_, rfl⟩
      rw [← ho] at hat hnx hso
      have HMO := hide (unhide hmt o)
      obtain ⟨mo, hmo⟩ : ∃ q, q = meetsO l rs pool name o := ⟨_, rfl⟩
      rw [← hmo] at hnx HMO
      obtain ⟨F, hF⟩ : ∃ F, F = (l2.take k).filter (meetsO l rs pool name) := ⟨_, rfl⟩
      rw [← hF] at hnx hfl hrow
      obtain ⟨⟨h0, _⟩, ⟨h1, _⟩, h2, _⟩ := off_at.1 hat
      rw [show offK.size = 3 from rfl] at h0 h1 h2
      clear ho hlk hat hmo hF
      have B4 : Hid (Below wr.heap.size wr (wr.alloc (.cells #[.string (bytesT o.1), .string (bytesT o.2.1), .string (bytesT o.2.2)] 24))) := boxb _
      have hT4 := hide ((unhide htab).below (unhide B4))
      obtain ⟨a1, a2', p, q, ua', un', uc', ok, hfv, hlb, hrun⟩ := look5 (unhide hT4) (unhide hso)
      have HF := hide hfv
      have HLB := hide hlb
      have hsA : offA o = .agg #[.string (bytesT o.1), .string (bytesT o.2.1), .string (bytesT o.2.2)] := rfl
      rw [hsA] at hrun
      clear hfv hlb hsA
      obtain ⟨W5, hW5⟩ : ∃ W, W = (wr.alloc (.cells #[.string (bytesT o.1), .string (bytesT o.2.1), .string (bytesT o.2.2)] 24)).alloc (.cells #[.int .i64 a1, .int .i64 a2', .int .i64 p, .bool q, .slice ua' un' uc'] 61) := ⟨_, rfl⟩
      have BR : Hid (Below wr.heap.size wr W5) := by rw [hW5]; exact chain (boxb _) (boxb _)
      have G5 := hide hW5
      have O5 : Hid (W5.cell? ⟨wr.heap.size, 0, none⟩ = some (.string (bytesT o.1)) ∧ W5.cell? ⟨wr.heap.size, 1, none⟩ = some (.string (bytesT o.2.1)) ∧ W5.cell? ⟨wr.heap.size, 2, none⟩ = some (.string (bytesT o.2.2))) := by
        rw [hW5]; exact ⟨cell_box6 _ (by simp [go_sem]), cell_box6 _ (by simp [go_sem]), cell_box6 _ (by simp [go_sem])⟩
      clear hW5
      have TA := hide ((unhide htab).below (unhide BR))
      have RA := hide (grow_below (unhide hrow) (unhide BR))
      have BB := hide (chain (unhide hbel) (unhide BR))
      obtain ⟨RR, hRR⟩ : ∃ RR, RR = findR l o := ⟨_, rfl⟩
      rw [← hRR] at HF HLB HMO
      clear htab hrow hT4 B4 hRR
      cases RR with
      | none =>
        obtain rfl := five_none (unhide HF)
        obtain rfl : mo = false := (unhide HMO).2 rfl
        have hnn : Hid ((l2.take (k + 1)).filter (meetsO l rs pool name) = F) := by show _ = _; rw [unhide hnx]; simp
        clear HF HLB HMO hnx O5
        go_wp2_with fail
        rw [← unhide G5]
        refine ⟨⟨k + 1, by omega, by go_num, TA, by rw [unhide hnn]; exact RA, BB⟩, by simp [intOf]; omega⟩
      | some y =>
        obtain rfl := five_some (unhide HF)
        obtain ⟨hok, hlr, hmr⟩ := (unhide HMO).1 y rfl
        have hlab := unhide HLB y rfl
        have clb := hide (plabs_any y.1 o a1 a2' p q ua' un' uc' pool name w W5 (chain (unhide B3) (unhide BB)) hlab hok (unhide hso) (unhide HP) (unhide HN))
        have hq2 : (admitsR rs (labsF (fiveL o pool name) y.1.labs)).1 = mo := hmr.symm
        have O6 := unhide O5
        rw [unhide G5] at O6
        obtain ⟨o0, o1, o2⟩ := O6
        unfold offA at clb
        clear hok hlab hmr HLB HMO HF
        go_wp2_with fail
        rw [← unhide G5]
        clear o0 o1 o2
        refine (unhide clb).mono ?_
        rintro e w6 ⟨vl, rfl, hol, hw6⟩
        have hol2 := hol.lst
        have hl9 : (labsF (fiveL o pool name) y.1.labs).length ≤ 4398046511104 := by have := hol.2.2; omega
        have cadm := hide (cadmits_any (.slice a3 N3 c3) rs vl _ w6 ((unhide HL).below (chain (unhide B3) (chain (unhide BB) hw6))) ((unhide HV3).below (chain (unhide B3) (chain (unhide BB) hw6))) (labs_of hol2 hl9))
        rw [hq2] at cadm
        obtain ⟨e2, he2⟩ : ∃ e, e = (admitsR rs (labsF (fiveL o pool name) y.1.labs)).2 := ⟨_, rfl⟩
        rw [← he2] at cadm
        have O7 := hide (And.intro (cell_kept hw6 (unhide O5).1) (And.intro (cell_kept hw6 (unhide O5).2.1) (cell_kept hw6 (unhide O5).2.2)))
        have TA6 := hide ((unhide TA).below hw6)
        have RA6 := hide (grow_below (unhide RA) hw6)
        have BB6 := hide (chain (unhide BB) hw6)
        obtain ⟨xl, xc, rfl⟩ := hol2.val
        obtain ⟨nl, hnl⟩ : ∃ n, n = (labsF (fiveL o pool name) y.1.labs).length := ⟨_, rfl⟩
        rw [← hnl] at cadm ⊢
        clear hw6 hol hol2 hl9 clb hq2 he2 O5 TA RA BB hlr hnl G5 BR
        go_wp2_with fail
        refine (unhide cadm).mono ?_
        rintro e w7 ⟨rfl, hw7⟩
        have O8 := hide (And.intro (cell_kept hw7 (unhide O7).1) (And.intro (cell_kept hw7 (unhide O7).2.1) (cell_kept hw7 (unhide O7).2.2)))
        have TA7 := hide ((unhide TA6).below hw7)
        have RA7 := hide (grow_below (unhide RA6) hw7)
        have BB7 := hide (chain (unhide BB6) hw7)
        clear hw7 cadm O7 TA6 RA6 BB6
        cases mo
        · have hnn : Hid ((l2.take (k + 1)).filter (meetsO l rs pool name) = F) := by show _ = _; rw [unhide hnx]; simp
          clear hnx O8
          go_wp2_with fail
          refine ⟨⟨k + 1, by omega, by go_num, TA7, by rw [unhide hnn]; exact RA7, BB7⟩, by simp [intOf]; omega⟩
        · have hnn : Hid ((l2.take (k + 1)).filter (meetsO l rs pool name) = F ++ [o]) := by show _ = _; rw [unhide hnx]; simp
          have LS := hide (rows_block (t := 24) (rows_one (off_row (w := w7) (unhide hso).1 (unhide hso).2.1 (unhide hso).2.2)) (by simp) rfl rfl)
          have BA : Hid (Below w7.heap.size w7 (w7.alloc (.cells #[.string (bytesT o.1), .string (bytesT o.2.1), .string (bytesT o.2.2)] 24))) := boxb _
          have RA8 := hide (grow_below (unhide RA7) (unhide BA))
          have TA8 := hide ((unhide TA7).below (unhide BA))
          have BB8 := hide (chain (unhide BB7) (unhide BA))
          have hb1 : Hid ((F.length + 1) * 48 ≤ 140737488355328) := by have := unhide HBY; have := unhide hfl; show _ ≤ _; omega
          have hb2 : Hid (F.length + 1 ≤ maxLen) := by have := unhide hb1; show _ ≤ _; unfold maxLen; omega
          obtain ⟨g0, g1, g2⟩ := unhide O8
          clear hnx TA7 RA7 BB7 O8
          go_wp2_with (at_builtin; refine append_lst tells_off rfl _ _ rfl w3.heap.size _ F.length _ rfl (unhide RA8) _ [o] rfl _ (Below.refl _ _) (unhide LS) (unhide hb2) (unhide hb1) (unhide BB8).size ?_; intro v' w9 news hnews hown hg; have H9 := hide (And.intro hnews (And.intro hown hg)); clear hnews hown hg; go_frame)
          obtain ⟨hnews, hown, hg⟩ := unhide H9
          have hne : news = encL o := by
            obtain ⟨css, rfl, hlen, hr⟩ := hnews
            match css, hlen with
            | [cs], _ =>
              have := hr 0 (by simp) (by simp)
              obtain ⟨c0, c1, e, ⟨e1, _⟩, _, _, e3, ⟨e4, _⟩, e5, _⟩ := this
              simp only [List.getElem_cons_zero] at e e1 e3 e4 e5
              simp only [List.flatten_cons, List.flatten_nil, List.append_nil]
              rw [e, e1, e3, e4, e5]; rfl
          rw [hne, ← flatO_snoc] at hown
          have TA9 := hide ((unhide TA8).kept hg (own_ne (unhide RA8) hlt))
          have BB9 := hide (grow_on (unhide BB8) (unhide RA8) hg)
          have RA9 := hide hown
          clear hnews hown hg H9 hne
          go_roundw
          case rel =>
            refine ⟨k + 1, by omega, by go_num, TA9, ?_, BB9⟩
            rw [unhide hnn, List.length_append]
            exact unhide RA9
          case measure => simp [intOf]; omega
    · obtain rfl : k = N := by omega
      have hall : Hid ((l2.take k).filter (meetsO l rs pool name) = l2.filter (meetsO l rs pool name)) := by
        show _ = _
        rw [List.take_of_length_le (l := l2) (by rw [← unhide HNN]; exact Nat.le_refl _)]
      have RF := hide (unhide hrow)
      rw [unhide hall] at RF
      have HE : Hid (matchPost w R (.returned (.tuple #[u15, .int .i64 R.2])) wr) := by
        refine ⟨u15, rfl, ?_, chain (unhide B3) (unhide hbel)⟩
        rw [unhide hfin]
        refine OwnO.mono (base := w3.heap.size) ⟨unhide RF, fun x hx => unhide HS2 x (List.mem_filter.1 hx).1, ?_⟩ (unhide B3).size
        exact Nat.le_trans (List.length_filter_le _ _) (by rw [← unhide HNN]; exact hlen2)
      have h2 : R.2 = 0 := by rw [unhide hfin]
      rw [h2] at HE
      obtain ⟨sa, sn, sc, rfl⟩ : ∃ a n c, u15 = .slice a n c := by
        rcases (unhide RF).2 with ⟨e1, e2⟩ | ⟨g, cap, cur, e1, _⟩
        · exact ⟨_, _, _, e1⟩
        · exact ⟨_, _, _, e1⟩
      clear htab hrow hbel hall RF h2
      go_wp2_with fail
      show PP (.returned (.tuple #[.slice sa sn sc, .int .i64 0])) _
      rw [unhide HPP]
      exact unhide HE
end Go.Proofs.YtepcnfnmphgccaaGreatDoor
