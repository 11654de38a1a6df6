/- Layer 4: the document's Sets, the walk. -/
import Derived.Test.YtnkcbmlobikjkaaGreatDoorRqYG
namespace Go.Proofs.YtnkcbmlobikjkaaGreatDoor
open Go.RowKit Suf Val Go.Maps

set_option maxRecDepth 100000 in
set_option maxHeartbeats 8000000 in
theorem rsets_any : RSets := by
  intro v l w hL hv
  have HV := hide hv
  obtain ⟨a, c, rfl⟩ := hv.val
  obtain ⟨n, hn⟩ : ∃ n, n = l.length := ⟨_, rfl⟩
  rw [← hn] at HV ⊢
  have HN := hide hn
  clear hL hv hn
  obtain ⟨R, hR⟩ : ∃ R, R = rsetsPost l w := ⟨_, rfl⟩
  rw [← hR]
  have HR := hide hR
  clear hR
  go_enter Tryz.func15, Tryz.ntmps15
  go_wp2_with fail
  refine (rmore_any _ l _ (unhide HV)).mono ?_
  rintro e w1 ⟨rfl, hw1⟩
  have B1 := hide hw1
  clear hw1
  by_cases hz : moreR 16 l = 0
  rotate_left
  · have hr : Hid (setsR l = ([], moreR 16 l)) := sets_more hz
    obtain ⟨z, hzz⟩ : ∃ z, z = moreR 16 l := ⟨_, rfl⟩
    rw [← hzz] at hz hr ⊢
    have HZ := hide hz
    have ht : (z != 0) = true := bne_iff_ne.2 hz
    clear hz hzz
    go_wp2_with fail
    show R (.returned (.tuple #[.slice none 0 0, .int .i64 z])) w1
    rw [unhide HR]
    exact Or.inl ⟨by rw [unhide hr]; exact unhide HZ, by rw [unhide hr], unhide B1⟩
  have HZ := hide hz
  have h16 : n ≤ 16 := by rw [unhide HN]; exact (more_ok.1 hz).1
  rw [hz]
  clear hz
  go_wp2_with fail
  go_loopw [5, 6] (fun o i W => ∃ (k xn : Nat) (xa : Option Addr) (xc : Nat) (st : List VKS), k ≤ n ∧ i = .int .i64 k ∧ o = .slice xa xn xc ∧ xn ≤ k ∧ Hid (OwnK 45 W w.heap.size (.slice xa xn xc) st) ∧ Hid (xn = st.length) ∧ Hid (SetsAt l k st) ∧ Hid (Below w.heap.size w W)) (fun _ i _ => n - (intOf i).toNat)
  case atStart => exact ⟨0, 0, none, 0, [], Nat.zero_le _, rfl, rfl, Nat.le_refl _, ownK_nil _ _ _, rfl, rfl, unhide B1⟩
  case round =>
    obtain ⟨k, xn, xa, xc, st, hk, rfl, rfl, hxk, hown, hxn, hat, hbel⟩ := hrel
    by_cases hlt : k < n
    · have hlk : k < l.length := by rw [← unhide HN]; exact hlt
      have hwr : Hid (wrongR l[k] = 0) := (more_ok.1 (unhide HZ)).2 _ (List.getElem_mem hlk)
      obtain ⟨b, o, u, rfl, hreq⟩ := ((unhide HV).below (unhide hbel)).at hlk
      have hnext := hide (fun st' he => (unhide hat).next hlk (st' := st') he)
      have hstop := hide (fun z hz he => (unhide hat).stop hlk (z := z) hz he)
      obtain ⟨r, hr⟩ : ∃ r, r = l[k] := ⟨_, rfl⟩
      rw [← hr] at hreq hwr hnext hstop
      obtain ⟨h0, h1, h2, h3, hstr, hsh, hcp⟩ := hreq
      have H0 := hide h0
      have hST := hide hstr
      have hSH := hide hsh
      have hCP := hide hcp
      obtain ⟨ua, uc, hue⟩ := hstr.val
      subst hue
      clear hstr hsh hr hlk hcp
      obtain ⟨un, hun⟩ : ∃ x, x = r.vals.length := ⟨_, rfl⟩
      rw [← hun] at h2 hST hCP
      clear hun
      go_wp2_with fail
      clear h0 h1 h2 h3
      refine (rof_any (bytesT r.key) r.op _ r.vals r.n _ (unhide hST) (unhide hCP) (short_max (unhide hSH))).mono ?_
      rintro e w2 ⟨x1, y1, he, ho2, hw2⟩
      have hof : ofR ⟨(bytesT r.key).data.toList, r.op, r.vals, r.n⟩ = (ofSet r, 0) := ofR_good (unhide hwr)
      rw [hof] at he ho2
      clear hof
      unfold tells at he
      simp only at he ho2
      obtain ⟨s, hs⟩ : ∃ s, s = ofSet r := ⟨_, rfl⟩
      rw [← hs] at he ho2
      have GS : keyS r = (r.key, s) := by rw [hs]; rfl
      rw [GS] at hnext hstop
      clear hs GS
      obtain ⟨sn, hsn⟩ : ∃ x, x = s.vals.length := ⟨_, rfl⟩
      rw [← hsn] at he ho2
      clear hsn
      subst he
      obtain ⟨W1, hW1⟩ : ∃ W, W = w2.alloc (.cells #[.bool s.miss, .bool s.no, .bool s.num, .slice x1 sn y1, .int .i64 s.lo, .int .i64 s.hi] 42) := ⟨_, rfl⟩
      have bV : Hid (Below wr.heap.size wr W1) := by rw [hW1]; exact chain hw2 (box_below _)
      have O1 : Hid (Own W1 wr.heap.size (.slice x1 sn y1) s.vals) := by rw [hW1]; exact ho2.below (box_below _)
      have X1 : Hid (Six W1 w2.heap.size (.bool s.miss) (.bool s.no) (.bool s.num) (.slice x1 sn y1) (.int .i64 s.lo) (.int .i64 s.hi)) := by rw [hW1]; exact six_new _ _ _ _ _ _ _ _
      have Z2 : Hid (wr.heap.size ≤ w2.heap.size) := hw2.size
      have f0 := cell_kept (unhide bV) (unhide H0)
      rw [hW1] at f0
      have GW1 := hide hW1
      have K1 := hide ((unhide hown).below (unhide bV))
      have BW := hide (chain (unhide hbel) (unhide bV))
      clear hW1 hw2 ho2
      go_wp2_with fail
      rw [← unhide GW1]
      clear f0
      refine (rfind_any xa xn xc w.heap.size st r.key _ (unhide K1) (unhide hxn) (by omega)).mono ?_
      rintro e w3 ⟨⟨z, rfl, hf⟩, hw3⟩
      have B3 := hide (chain (unhide BW) hw3)
      have bV3 := hide (chain (unhide bV) hw3)
      have K3 := hide ((unhide K1).below hw3)
      have O3 := hide ((unhide O1).below hw3)
      have X3 := hide ((unhide X1).below hw3)
      clear hw3 K1 O1 X1 bV BW GW1
      rcases hf with ⟨j, hj, rfl, hkey, hnone⟩ | ⟨rfl, hnone⟩
      · have hjx : j < xn := by rw [unhide hxn]; exact hj
        have hstep := hide (fun (c : VSet) (z : Int) hm => step_found (x := (r.key, s)) (unhide hat).up hj hkey hnone (c := c) (z := z) hm)
        obtain ⟨g, rfl, hsev⟩ := (unhide K3).at hj
        have hel := ((unhide K3).2.1 _ (List.getElem_mem hj)).1.strs
        obtain ⟨y, hy⟩ : ∃ y, y = st[j] := ⟨_, rfl⟩
        rw [← hy] at hsev hel hkey hstep
        have GY : Hid (∃ h : j < st.length, y = st[j]) := ⟨hj, hy⟩
        clear hy hj hnone
        obtain ⟨u, key, t⟩ := y
        simp only at hkey hstep
        subst hkey
        have HE := hide hel
        obtain ⟨ua, uc, hue⟩ := hel.val
        obtain ⟨un, hun⟩ : ∃ x, x = t.vals.length := ⟨_, rfl⟩
        simp only at hue hsev
        rw [← hun] at hue
        clear hun hel
        subst hue
        have HSV := hide hsev
        obtain ⟨_, s1, s2, s3, s4, s5, s6⟩ := hsev
        simp only at s1 s2 s3 s4 s5 s6
        obtain ⟨g0, g1, g2, g3, g4, g5⟩ := unhide X3
        obtain ⟨M, hM⟩ : ∃ M, M = meetR t s := ⟨_, rfl⟩
        obtain ⟨mc, mz⟩ := M
        have hst2 := hide (unhide hstep mc mz hM.symm)
        obtain ⟨mn, hmn⟩ : ∃ x, x = mc.vals.length := ⟨_, rfl⟩
        have cH : Hid (∀ W, Hid (Below w3.heap.size w3 W) ∧ W.cell? ⟨g, j * 7 + 1, none⟩ = some (.bool t.miss) ∧ W.cell? ⟨g, j * 7 + 2, none⟩ = some (.bool t.no) ∧ W.cell? ⟨g, j * 7 + 3, none⟩ = some (.bool t.num) ∧ W.cell? ⟨g, j * 7 + 4, none⟩ = some (.slice ua un uc) ∧ W.cell? ⟨g, j * 7 + 5, none⟩ = some (.int .i64 t.lo) ∧ W.cell? ⟨g, j * 7 + 6, none⟩ = some (.int .i64 t.hi) ∧ W.cell? ⟨w2.heap.size, 0, none⟩ = some (.bool s.miss) ∧ W.cell? ⟨w2.heap.size, 1, none⟩ = some (.bool s.no) ∧ W.cell? ⟨w2.heap.size, 2, none⟩ = some (.bool s.num) ∧ W.cell? ⟨w2.heap.size, 3, none⟩ = some (.slice x1 sn y1) ∧ W.cell? ⟨w2.heap.size, 4, none⟩ = some (.int .i64 s.lo) ∧ W.cell? ⟨w2.heap.size, 5, none⟩ = some (.int .i64 s.hi) → Calls Tryz.prog 34 #[.agg #[.bool t.miss, .bool t.no, .bool t.num, .slice ua un uc, .int .i64 t.lo, .int .i64 t.hi], .agg #[.bool s.miss, .bool s.no, .bool s.num, .slice x1 sn y1, .int .i64 s.lo, .int .i64 s.hi]] W fun e w' => ∃ ma mcap, e = .returned (.tuple #[.agg #[.bool mc.miss, .bool mc.no, .bool mc.num, .slice ma mn mcap, .int .i64 mc.lo, .int .i64 mc.hi], .int .i64 mz]) ∧ Own w' W.heap.size (.slice ma mn mcap) mc.vals ∧ Below W.heap.size W w') := fun W hs => by
          have := rmeet_any t.miss t.no t.num _ t.vals t.lo t.hi s.miss s.no s.num _ s.vals s.lo s.hi W ((unhide HE).below (unhide hs.1)) ((unhide O3).strs.below (unhide hs.1))
          have hm : meetR ⟨t.miss, t.no, t.num, t.vals, t.lo, t.hi⟩ ⟨s.miss, s.no, s.num, s.vals, s.lo, s.hi⟩ = (mc, mz) := hM.symm
          rw [hm] at this
          refine this.mono fun e w' ⟨ma, mcap, he, ho, hb⟩ => ⟨ma, mcap, by rw [he, hmn]; rfl, by rw [hmn]; exact ho, hb⟩
        have hS := And.intro (show Hid (Below w3.heap.size w3 w3) from Below.refl _ _) (And.intro s1 (And.intro s2 (And.intro s3 (And.intro s4 (And.intro s5 (And.intro s6 (And.intro g0 (And.intro g1 (And.intro g2 (And.intro g3 (And.intro g4 g5)))))))))))
        have MN := hide hmn
        have i0 : (0 : Int) ≤ (j : Int) := by omega
        have i1 : (j : Int) < (xn : Int) := by omega
        clear s1 s2 s3 s4 s5 s6 g0 g1 g2 g3 g4 g5 hM hmn hstep
        go_wp2_with fail
        go_region_held3 (fun W => Hid (Below w3.heap.size w3 W) ∧ W.cell? ⟨g, j * 7 + 1, none⟩ = some (.bool t.miss) ∧ W.cell? ⟨g, j * 7 + 2, none⟩ = some (.bool t.no) ∧ W.cell? ⟨g, j * 7 + 3, none⟩ = some (.bool t.num) ∧ W.cell? ⟨g, j * 7 + 4, none⟩ = some (.slice ua un uc) ∧ W.cell? ⟨g, j * 7 + 5, none⟩ = some (.int .i64 t.lo) ∧ W.cell? ⟨g, j * 7 + 6, none⟩ = some (.int .i64 t.hi) ∧ W.cell? ⟨w2.heap.size, 0, none⟩ = some (.bool s.miss) ∧ W.cell? ⟨w2.heap.size, 1, none⟩ = some (.bool s.no) ∧ W.cell? ⟨w2.heap.size, 2, none⟩ = some (.bool s.num) ∧ W.cell? ⟨w2.heap.size, 3, none⟩ = some (.slice x1 sn y1) ∧ W.cell? ⟨w2.heap.size, 4, none⟩ = some (.int .i64 s.lo) ∧ W.cell? ⟨w2.heap.size, 5, none⟩ = some (.int .i64 s.hi))
          (first | (with_reducible exact hS) | (with_reducible assumption) | (with_reducible exact c12_box (c12_next hS (unhide hw))) | (with_reducible exact c12_box (c12_next (c12_drew hS) (unhide hw))) | (with_reducible exact c12_drew (c12_box hS)) | (with_reducible exact c12_next hS (set6_below (chain (box_below _).drew (unhide hw)) (Nat.le_refl _))) | (with_reducible refine c12_drew ?_; with_reducible assumption) | (with_reducible refine c12_box ?_; with_reducible assumption) | (with_reducible refine c12_next ?_ (unhide hw); with_reducible assumption))
          (first
            | (go_at_call 34; (with_reducible refine (unhide cH _ ?_).mono ?_); (with_reducible assumption); rintro e w4 ⟨ma, mcap, rfl, ho4, hw4⟩; have SL := hide ((slot_drew (slot_new w3 42)).below hw4); have HO4 := hide ho4; have hw := hide hw4; clear ho4 hw4; have k0 := (unhide SL).1.1; have k1 := (unhide SL).1.2.1; have k2 := (unhide SL).1.2.2.1; have k3 := (unhide SL).1.2.2.2.1; have k4 := (unhide SL).1.2.2.2.2.1; have k5 := (unhide SL).1.2.2.2.2.2; have e0 := (unhide SL).2.1 0; have e1 := (unhide SL).2.1 1; have e2 := (unhide SL).2.1 2; have e3 := (unhide SL).2.1 3; have e4 := (unhide SL).2.1 4; have e5 := (unhide SL).2.1 5)
            | (go_at_call 34; (with_reducible refine (unhide cH _ ?_).mono ?_); (with_reducible assumption); rintro e w4 ⟨ma, mcap, rfl, ho4, hw4⟩; have HO4 := hide ho4; have hw := hide hw4; clear ho4 hw4))
        · rename_i hH
          obtain ⟨V, hV⟩ : ∃ V, V = w4.alloc (.cells #[.bool mc.miss, .bool mc.no, .bool mc.num, .slice ma mn mcap, .int .i64 mc.lo, .int .i64 mc.hi] 42) := ⟨_, rfl⟩
          rw [← hV] at hH ⊢
          have BV := hide (unhide hH.1)
          have SV : Hid (Six V w4.heap.size (.bool mc.miss) (.bool mc.no) (.bool mc.num) (.slice ma mn mcap) (.int .i64 mc.lo) (.int .i64 mc.hi)) := by rw [hV]; exact six_new _ _ _ _ _ _ _ _
          have OV : Hid (Own V w3.heap.size (.slice ma mn mcap) mc.vals) := by rw [hV]; exact (unhide HO4).below (box_below _)
          obtain ⟨BX, hBX⟩ : ∃ B, B = w4.heap.size := ⟨_, rfl⟩
          rw [← hBX] at SV ⊢
          clear hV hH hw HO4 hBX
          have KV := hide ((unhide K3).below (unhide BV))
          have BB := hide (chain (unhide B3) (unhide BV))
          clear hS cH
          by_cases hmz : mz = 0
          · have hfin : Hid (SetsAt l (k + 1) (st.set j (.slice ma mn mcap, r.key, mc))) := by
              show setsF _ _ = _
              rw [List.map_set]
              exact unhide hnext _ ((unhide hst2).1 hmz)
            obtain ⟨hj, hy⟩ := unhide GY
            have hkj : Hid (∃ h : j < st.length, st[j].2.1 = r.key) := ⟨hj, by rw [← hy]⟩
            obtain ⟨g', hgg, sv⟩ := (unhide KV).at hj
            obtain rfl : g = g' := by injection hgg with e; injection e
            have hfr : Hid (∀ i, (Value.slice ma mn mcap).ownBlock = some i → i ≠ g ∧ ∀ y ∈ st, ∀ k, y.1.ownBlock = some k → k ≠ i) := fun i hi => by
              have h1 := (own_block (unhide OV) i hi).1
              have h2 := ((unhide K3).block g rfl).2
              exact ⟨by omega, fun y hy k hk => by have := (own_block ((unhide K3).2.1 y hy).1 k hk).2; omega⟩
            have f1 := (unhide KV).frozenAt (j * 7 + 1)
            have f2 := (unhide KV).frozenAt (j * 7 + 2)
            have f3 := (unhide KV).frozenAt (j * 7 + 3)
            have f4 := (unhide KV).frozenAt (j * 7 + 4)
            have f5 := (unhide KV).frozenAt (j * 7 + 5)
            have f6 := (unhide KV).frozenAt (j * 7 + 6)
            rw [← hy] at sv
            obtain ⟨_, s1, s2, s3, s4, s5, s6⟩ := sv
            simp only at s1 s2 s3 s4 s5 s6
            obtain ⟨q0, q1, q2, q3, q4, q5⟩ := unhide SV
            have hbs : Hid (w.heap.size ≤ g) := ((unhide K3).block g rfl).1
            subst hmz
            clear hy hj hgg
            go_wp2_with fail
            go_roundw
            case rel =>
              obtain ⟨hj, hkk⟩ := unhide hkj
              exact ⟨k + 1, xn, _, xc, _, by omega, by go_num, rfl, by omega, OwnK.store (unhide KV) hj hkk ((unhide OV).mono (unhide B3).size) (unhide hfr), by show _ = _; rw [List.length_set]; exact unhide hxn, hfin, grown_below (unhide BB) (((((set_grown V g (j * 7 + 1) (.bool mc.miss)).trans (set_grown _ g (j * 7 + 2) (.bool mc.no))).trans (set_grown _ g (j * 7 + 3) (.bool mc.num))).trans (set_grown _ g (j * 7 + 4) _)).trans (set_grown _ g (j * 7 + 5) (.int .i64 mc.lo)) |>.trans (set_grown _ g (j * 7 + 6) (.int .i64 mc.hi))) (unhide hbs)⟩
            case measure => simp [intOf]; omega
          · have hfin : Hid (setsR l = ([], mz)) := by
              show _ = _
              rw [sets_of (unhide HZ)]
              exact unhide hstop mz hmz ((unhide hst2).2 hmz)
            have HM := hide hmz
            have ht : (mz != 0) = true := bne_iff_ne.2 hmz
            clear hmz
            go_wp2_with fail
            show R (.returned (.tuple #[.slice none 0 0, .int .i64 mz])) V
            rw [unhide HR]
            exact Or.inl ⟨by rw [unhide hfin]; exact unhide HM, by rw [unhide hfin], unhide BB⟩
        · rename_i hH
          obtain ⟨V, hV⟩ : ∃ V, V = ((((((w4.setCell ⟨w3.heap.size, 0, none⟩ (.bool mc.miss)).setCell ⟨w3.heap.size, 1, none⟩ (.bool mc.no)).setCell ⟨w3.heap.size, 2, none⟩ (.bool mc.num)).setCell ⟨w3.heap.size, 3, none⟩ (.slice ma mn mcap)).setCell ⟨w3.heap.size, 4, none⟩ (.int .i64 mc.lo)).setCell ⟨w3.heap.size, 5, none⟩ (.int .i64 mc.hi)) := ⟨_, rfl⟩
          rw [← hV] at hH ⊢
          have BV := hide (unhide hH.1)
          have SV : Hid (Six V w3.heap.size (.bool mc.miss) (.bool mc.no) (.bool mc.num) (.slice ma mn mcap) (.int .i64 mc.lo) (.int .i64 mc.hi)) := by rw [hV]; exact six_set6 (unhide SL) _ _ _ _ _ _
          have OV : Hid (Own V w3.heap.size (.slice ma mn mcap) mc.vals) := by rw [hV]; exact ((unhide HO4).grown (put6_grown w4 w3.heap.size _ _ _ _ _ _) (by show _ < (w3.alloc _).heap.size; simp)).mono (by show _ ≤ (w3.alloc _).heap.size; simp)
          obtain ⟨BX, hBX⟩ : ∃ B, B = w3.heap.size := ⟨_, rfl⟩
          rw [← hBX] at SV
          rw [show (Value.pointer (some ⟨w3.heap.size, 0, none⟩)) = .pointer (some ⟨BX, 0, none⟩) by rw [hBX]]
          clear hV hH hw HO4 hBX SL k0 k1 k2 k3 k4 k5 e0 e1 e2 e3 e4 e5
          have KV := hide ((unhide K3).below (unhide BV))
          have BB := hide (chain (unhide B3) (unhide BV))
          clear hS cH
          by_cases hmz : mz = 0
          · have hfin : Hid (SetsAt l (k + 1) (st.set j (.slice ma mn mcap, r.key, mc))) := by
              show setsF _ _ = _
              rw [List.map_set]
              exact unhide hnext _ ((unhide hst2).1 hmz)
            obtain ⟨hj, hy⟩ := unhide GY
            have hkj : Hid (∃ h : j < st.length, st[j].2.1 = r.key) := ⟨hj, by rw [← hy]⟩
            obtain ⟨g', hgg, sv⟩ := (unhide KV).at hj
            obtain rfl : g = g' := by injection hgg with e; injection e
            have hfr : Hid (∀ i, (Value.slice ma mn mcap).ownBlock = some i → i ≠ g ∧ ∀ y ∈ st, ∀ k, y.1.ownBlock = some k → k ≠ i) := fun i hi => by
              have h1 := (own_block (unhide OV) i hi).1
              have h2 := ((unhide K3).block g rfl).2
              exact ⟨by omega, fun y hy k hk => by have := (own_block ((unhide K3).2.1 y hy).1 k hk).2; omega⟩
            have f1 := (unhide KV).frozenAt (j * 7 + 1)
            have f2 := (unhide KV).frozenAt (j * 7 + 2)
            have f3 := (unhide KV).frozenAt (j * 7 + 3)
            have f4 := (unhide KV).frozenAt (j * 7 + 4)
            have f5 := (unhide KV).frozenAt (j * 7 + 5)
            have f6 := (unhide KV).frozenAt (j * 7 + 6)
            rw [← hy] at sv
            obtain ⟨_, s1, s2, s3, s4, s5, s6⟩ := sv
            simp only at s1 s2 s3 s4 s5 s6
            obtain ⟨q0, q1, q2, q3, q4, q5⟩ := unhide SV
            have hbs : Hid (w.heap.size ≤ g) := ((unhide K3).block g rfl).1
            subst hmz
            clear hy hj hgg
            go_wp2_with fail
            go_roundw
            case rel =>
              obtain ⟨hj, hkk⟩ := unhide hkj
              exact ⟨k + 1, xn, _, xc, _, by omega, by go_num, rfl, by omega, OwnK.store (unhide KV) hj hkk ((unhide OV).mono (unhide B3).size) (unhide hfr), by show _ = _; rw [List.length_set]; exact unhide hxn, hfin, grown_below (unhide BB) (((((set_grown V g (j * 7 + 1) (.bool mc.miss)).trans (set_grown _ g (j * 7 + 2) (.bool mc.no))).trans (set_grown _ g (j * 7 + 3) (.bool mc.num))).trans (set_grown _ g (j * 7 + 4) _)).trans (set_grown _ g (j * 7 + 5) (.int .i64 mc.lo)) |>.trans (set_grown _ g (j * 7 + 6) (.int .i64 mc.hi))) (unhide hbs)⟩
            case measure => simp [intOf]; omega
          · have hfin : Hid (setsR l = ([], mz)) := by
              show _ = _
              rw [sets_of (unhide HZ)]
              exact unhide hstop mz hmz ((unhide hst2).2 hmz)
            have HM := hide hmz
            have ht : (mz != 0) = true := bne_iff_ne.2 hmz
            clear hmz
            go_wp2_with fail
            show R (.returned (.tuple #[.slice none 0 0, .int .i64 mz])) V
            rw [unhide HR]
            exact Or.inl ⟨by rw [unhide hfin]; exact unhide HM, by rw [unhide hfin], unhide BB⟩
      · have HNO := hide hnone
        clear hnone
        have f0 := cell_kept (unhide bV3) (unhide H0)
        have F0 := hide f0
        clear f0
        go_wp2_with fail
        go_loopw [12] (fun t W => ∃ m : Nat, m ≤ xn ∧ t = .int .i64 m ∧ Hid (∀ y ∈ st.take m, lt y.2.1 r.key = true) ∧ Hid (Below w3.heap.size w3 W)) (fun t _ => xn - (intOf t).toNat)
        case atStart => exact ⟨0, Nat.zero_le _, rfl, fun y hy => (by cases hy), Below.refl _ _⟩
        case round =>
          obtain ⟨m, hm, rfl, hlo, BV⟩ := hrel
          by_cases hmx : m < xn
          · have hms : m < st.length := by rw [← unhide hxn]; exact hmx
            obtain ⟨g, rfl, hsev⟩ := ((unhide K3).below (unhide BV)).at hms
            have hcap : xn ≤ xc := by
              rcases (unhide K3).form with ⟨_, h | ⟨_, _, h⟩⟩
              · cases h.1
              · exact h
            have htk := hide (take_nextG st m hms)
            have hhi0 : Hid (lt st[m].2.1 r.key = false → ∀ h : m < st.length, ¬ lt st[m].2.1 r.key = true) := fun e h => by rw [e]; decide
            obtain ⟨y, hy⟩ : ∃ y, y = st[m] := ⟨_, rfl⟩
            rw [← hy] at hsev htk hhi0
            obtain ⟨s0, _⟩ := hsev
            have f0 := cell_kept (unhide BV) (unhide F0)
            obtain ⟨q, hq⟩ : ∃ q, q = lt y.2.1 r.key := ⟨_, rfl⟩
            have hlg : (Op.bytesLess (bytesT y.2.1).toList (bytesT r.key).toList) = q := by rw [hq, Lib.toList_data, Lib.toList_data]; rfl
            have GQ := hide hq
            have i0 : (0 : Int) ≤ (m : Int) := by omega
            have i1 : (m : Int) < (xn : Int) := by omega
            have i2 : (0 : Int) ≤ (k : Int) := by omega
            have i3 : (k : Int) < (n : Int) := by omega
            clear hq hy hms
            cases q
            · go_wp2_with fail
              go_quiet (fail)
              have hhi := hide (unhide hhi0 (unhide GQ).symm)
              have hcm : ¬ xc = m := by omega
              clear s0 f0 hlg hhi0
              obtain ⟨V, hV⟩ : ∃ V, V = wr.drewN nq := ⟨_, rfl⟩
              rw [← hV]
              have BW : Hid (Below w3.heap.size w3 V) := by rw [hV]; exact below_drewN (unhide BV) nq
              clear hV BV
              have KV := hide ((unhide K3).below (unhide BW))
              have XV := hide ((unhide X3).below (unhide BW))
              have OV := hide ((unhide O3).below (unhide BW))
              have LV := hide (chain (unhide bV3) (unhide BW))
              have BB := hide (chain (unhide B3) (unhide BW))
              have hml : Hid (m ≤ st.length) := by show _ ≤ _; rw [← unhide hxn]; omega
              have hfr : Hid (∀ i, (Value.slice x1 sn y1).ownBlock = some i → ∀ y ∈ st, ∀ k, y.1.ownBlock = some k → k ≠ i) := fun i hi y hy k hk => by
                have h1 := (own_block (unhide O3) i hi).1
                have h2 := (own_block ((unhide hown).2.1 y hy).1 k hk).2
                omega
              have hfin : Hid (SetsAt l (k + 1) (st.take m ++ (.slice x1 sn y1, (r.key, s)) :: st.drop m)) := unhide hnext _ (step_new (x := (r.key, s)) (unhide HNO) (unhide hlo) (unhide hhi) _)
              have hl1 : Hid ((flatK (st.take m)).length = m * 7) := by show _ = _; rw [flatK_len, List.length_take]; have := unhide hml; omega
              have hl3 : Hid ((flatK (st.drop m)).length = (xn - m) * 7) := by show _ = _; rw [flatK_len, List.length_drop, ← unhide hxn]
              have ho1 : Hid (∀ u ∈ flatK (st.take m), u.oneCell' = true) := flatK_one (w := V) (base := w.heap.size) (fun x hx => ((unhide KV).2.1 x (List.mem_of_mem_take hx)).1)
              have ho3 : Hid (∀ u ∈ flatK (st.drop m), u.oneCell' = true) := flatK_one (w := V) (base := w.heap.size) (fun x hx => ((unhide KV).2.1 x (List.mem_of_mem_drop hx)).1)
              have j0 : (0 : Int) ≤ (m : Int) := by omega
              have j1 : (m : Int) ≤ (xc : Int) := by omega
              have j2 : (m : Int) ≤ (xn : Int) := by omega
              have hcV := cell_kept (unhide LV) (unhide H0)
              obtain ⟨g0, g1, g2, g3, g4, g5⟩ := unhide XV
              have hSV := hide (And.intro (show Hid (Below V.heap.size V V) from Below.refl _ _) (And.intro hcV (And.intro g0 (And.intro g1 (And.intro g2 (And.intro g3 (And.intro g4 g5)))))))
              obtain ⟨ti, hti⟩ := info_partsS Tryz.infoKeyedR
              have TI := hide hti
              have i0 : (0 : Int) ≤ (k : Int) := by omega
              have i1 : (k : Int) < (n : Int) := by omega
              clear hcV g0 g1 g2 g3 g4 g5 hti
              go_wp2_with (at_builtin; (refine wpList_append_keys rfl _ _ rfl V.heap.size (.slice none 0 0) 0 [] rfl (World.ownsRow_nil _ _ _ _) _ _ _ (flatK (st.take m)) rfl (unhide hl1) (fun h => (by cases h)) (fun a0 e => by injection e with e; subst e; exact (unhide KV).front m) (unhide ho1) (by omega) (Nat.le_refl _) ?_; intro v1 V1 hown1 hg1; have C1 := hide (row_grow (Below.refl _ _) (World.ownsRow_nil _ _ 45 7) hg1); rw [Nat.zero_add, List.nil_append] at hown1; have R1 := hide hown1; clear hown1 hg1))
              have hS := c7_next (unhide hSV) (unhide C1)
              go_region_held3 (fun W => Hid (Below V.heap.size V W) ∧ W.cell? ⟨b, o + k * 4, none⟩ = some (.string (bytesT r.key)) ∧ W.cell? ⟨w2.heap.size, 0, none⟩ = some (.bool s.miss) ∧ W.cell? ⟨w2.heap.size, 1, none⟩ = some (.bool s.no) ∧ W.cell? ⟨w2.heap.size, 2, none⟩ = some (.bool s.num) ∧ W.cell? ⟨w2.heap.size, 3, none⟩ = some (.slice x1 sn y1) ∧ W.cell? ⟨w2.heap.size, 4, none⟩ = some (.int .i64 s.lo) ∧ W.cell? ⟨w2.heap.size, 5, none⟩ = some (.int .i64 s.hi))
                (first | (with_reducible exact hS) | (with_reducible assumption) | (with_reducible refine c7_drew ?_; with_reducible assumption) | (with_reducible refine c7_next ?_ (box_below _); with_reducible assumption) | (with_reducible exact c7_drew (c7_next hS (box_below _))) | (with_reducible exact c7_next (c7_drew hS) (box_below _)) | (with_reducible exact c7_next (unhide hSV) (unhide C2)))
                (first | (refine step_append_lies _ (by rfl) _ _ _ (by rfl) V.heap.size 45 ti _ 7 64 Tryz.underlying38 (unhide TI).1 (unhide TI).2.1 (unhide TI).2.2.1 (unhide TI).2.2.2 (by rfl) (by decide) v1 m (flatK (st.take m)) (by rfl) (by exact row_below (unhide R1) (chain (Below.refl _ _).drew (box_below _))) ⟨V1.heap.size, 0, none⟩ 1 1 (encK (.slice x1 sn y1, (r.key, s))) (by rfl) (by rfl) (by exact World.news_of_block (heap_alloc_new _ _)) (encK_one rfl) (by decide) (by unfold maxLen; omega) (by omega) (by have := (unhide C1).size; simp; omega) _ rfl ?_; intro ga gcap V2 hown2 hg2 _ _; have C2 := hide (row_grow (chain (unhide C1) (chain (Below.refl _ _).drew (box_below _))) (row_below (unhide R1) (chain (Below.refl _ _).drew (box_below _))) hg2); have R2 := hide hown2; clear hown2 hg2))
              rename_i hH
              clear hH hS
              have hne : Hid (0 < m + 1 + (xn - m)) := by show _ < _; omega
              go_wp2_with (at_builtin; (refine wpList_append_keys rfl _ _ rfl V.heap.size _ (m + 1) (flatK (st.take m) ++ encK (.slice x1 sn y1, (r.key, s))) rfl (unhide R2) _ _ _ (flatK (st.drop m)) rfl (by have := unhide hl3; omega) (fun h => (by cases h)) (fun a0 e => by injection e with e; subst e; exact ((unhide KV).below (unhide C2)).rest (unhide hml)) (unhide ho3) (by omega) (unhide C2).size ?_; intro v3 V3 hown3 hg3; have C3 := hide (row_grow (unhide C2) (unhide R2) hg3); have hown4 : V3.ownsRow V.heap.size 45 7 v3 (m + 1 + (xn - m)) (flatK (st.take m) ++ encK (.slice x1 sn y1, (r.key, s)) ++ flatK (st.drop m)) := (by first | exact hown3 | (have e : m + 1 + (xn - m) = m + 1 + 0 := (by omega); rw [e]; exact hown3)); obtain ⟨ge, c3, hv3, _, _⟩ := hown4.form (unhide hne); subst hv3; have R3 := hide hown4; clear hown3 hg3 hown4))
              go_roundw
              case rel =>
                have hlen := insert_len (unhide hml) (.slice x1 sn y1, (r.key, s))
                rw [← unhide hxn] at hlen
                exact ⟨k + 1, m + 1 + (xn - m), some ⟨ge, 0, none⟩, c3, _, by omega, by go_num, by first | rfl | simp, by omega, OwnK.insert (unhide KV) ((unhide OV).mono (unhide hbel).size) (unhide hSH) (unhide hfr) (unhide C3) (by rw [hlen, insert_flat]; exact unhide R3) (unhide BB).size, hlen.symm, hfin, chain (unhide BB) (unhide C3)⟩
              case measure => simp [intOf]; omega
            · have hn2 : Hid (∀ y ∈ st.take (m + 1), lt y.2.1 r.key = true) := fun z hz => by
                rw [unhide htk] at hz
                rcases List.mem_append.1 hz with h | h
                · exact unhide hlo z h
                · rw [List.mem_singleton] at h; rw [h]; exact (unhide GQ).symm
              go_wp2_with fail
              go_quiet (fail)
              go_wp2_with fail
              go_roundw
              case rel => exact ⟨m + 1, by omega, by go_num, hn2, below_drewN (unhide BV) _⟩
              case measure => simp [intOf]; omega
          · obtain rfl : m = xn := by omega
            have hd : decide ((m : Int) < (m : Int)) = false := by simp
            have hhi : Hid (∀ h : m < st.length, ¬ lt st[m].2.1 r.key = true) := fun h => absurd h (by rw [← unhide hxn]; omega)
            obtain ⟨hfl, hform⟩ := (unhide K3).form
            clear hfl
            rcases hform with ⟨rfl, hx0, hc0⟩ | ⟨g, rfl, hcap⟩
            · have hm0 := hide hx0
              have hcap : m ≤ xc := by omega
              clear hx0 hc0
              go_wp2_with fail
              go_quiet (fail)
              obtain ⟨V, hV⟩ : ∃ V, V = wr.drewN nq := ⟨_, rfl⟩
              rw [← hV]
              have BW : Hid (Below w3.heap.size w3 V) := by rw [hV]; exact below_drewN (unhide BV) nq
              clear hV BV
              have KV := hide ((unhide K3).below (unhide BW))
              have XV := hide ((unhide X3).below (unhide BW))
              have OV := hide ((unhide O3).below (unhide BW))
              have LV := hide (chain (unhide bV3) (unhide BW))
              have BB := hide (chain (unhide B3) (unhide BW))
              have hml : Hid (m ≤ st.length) := by show _ ≤ _; rw [← unhide hxn]; omega
              have hfr : Hid (∀ i, (Value.slice x1 sn y1).ownBlock = some i → ∀ y ∈ st, ∀ k, y.1.ownBlock = some k → k ≠ i) := fun i hi y hy k hk => by
                have h1 := (own_block (unhide O3) i hi).1
                have h2 := (own_block ((unhide hown).2.1 y hy).1 k hk).2
                omega
              have hfin : Hid (SetsAt l (k + 1) (st.take m ++ (.slice x1 sn y1, (r.key, s)) :: st.drop m)) := unhide hnext _ (step_new (x := (r.key, s)) (unhide HNO) (unhide hlo) (unhide hhi) _)
              have hl1 : Hid ((flatK (st.take m)).length = m * 7) := by show _ = _; rw [flatK_len, List.length_take]; have := unhide hml; omega
              have hl3 : Hid ((flatK (st.drop m)).length = (m - m) * 7) := by show _ = _; rw [flatK_len, List.length_drop, ← unhide hxn]
              have hcut : Hid (flatK (st.drop m) = []) := by show _ = _; rw [List.drop_eq_nil_of_le (by rw [← unhide hxn]; omega)]; rfl
              have ho1 : Hid (∀ u ∈ flatK (st.take m), u.oneCell' = true) := flatK_one (w := V) (base := w.heap.size) (fun x hx => ((unhide KV).2.1 x (List.mem_of_mem_take hx)).1)
              have ho3 : Hid (∀ u ∈ flatK (st.drop m), u.oneCell' = true) := flatK_one (w := V) (base := w.heap.size) (fun x hx => ((unhide KV).2.1 x (List.mem_of_mem_drop hx)).1)
              have j0 : (0 : Int) ≤ (m : Int) := by omega
              have j1 : (m : Int) ≤ (xc : Int) := by omega
              have j2 : (m : Int) ≤ (m : Int) := by omega
              have hcV := cell_kept (unhide LV) (unhide H0)
              obtain ⟨g0, g1, g2, g3, g4, g5⟩ := unhide XV
              have hSV := hide (And.intro (show Hid (Below V.heap.size V V) from Below.refl _ _) (And.intro hcV (And.intro g0 (And.intro g1 (And.intro g2 (And.intro g3 (And.intro g4 g5)))))))
              obtain ⟨ti, hti⟩ := info_partsS Tryz.infoKeyedR
              have TI := hide hti
              have i0 : (0 : Int) ≤ (k : Int) := by omega
              have i1 : (k : Int) < (n : Int) := by omega
              clear hcV g0 g1 g2 g3 g4 g5 hti
              go_wp2_with (at_builtin; (refine wpList_append_keys rfl _ _ rfl V.heap.size (.slice none 0 0) 0 [] rfl (World.ownsRow_nil _ _ _ _) _ _ _ (flatK (st.take m)) rfl (unhide hl1) (fun _ => unhide hm0) (fun a0 e => by cases e) (unhide ho1) (by omega) (Nat.le_refl _) ?_; intro v1 V1 hown1 hg1; have C1 := hide (row_grow (Below.refl _ _) (World.ownsRow_nil _ _ 45 7) hg1); rw [Nat.zero_add, List.nil_append] at hown1; have R1 := hide hown1; clear hown1 hg1))
              have hS := c7_next (unhide hSV) (unhide C1)
              go_region_held3 (fun W => Hid (Below V.heap.size V W) ∧ W.cell? ⟨b, o + k * 4, none⟩ = some (.string (bytesT r.key)) ∧ W.cell? ⟨w2.heap.size, 0, none⟩ = some (.bool s.miss) ∧ W.cell? ⟨w2.heap.size, 1, none⟩ = some (.bool s.no) ∧ W.cell? ⟨w2.heap.size, 2, none⟩ = some (.bool s.num) ∧ W.cell? ⟨w2.heap.size, 3, none⟩ = some (.slice x1 sn y1) ∧ W.cell? ⟨w2.heap.size, 4, none⟩ = some (.int .i64 s.lo) ∧ W.cell? ⟨w2.heap.size, 5, none⟩ = some (.int .i64 s.hi))
                (first | (with_reducible exact hS) | (with_reducible assumption) | (with_reducible refine c7_drew ?_; with_reducible assumption) | (with_reducible refine c7_next ?_ (box_below _); with_reducible assumption) | (with_reducible exact c7_drew (c7_next hS (box_below _))) | (with_reducible exact c7_next (c7_drew hS) (box_below _)) | (with_reducible exact c7_next (unhide hSV) (unhide C2)))
                (first | (refine step_append_lies _ (by rfl) _ _ _ (by rfl) V.heap.size 45 ti _ 7 64 Tryz.underlying38 (unhide TI).1 (unhide TI).2.1 (unhide TI).2.2.1 (unhide TI).2.2.2 (by rfl) (by decide) v1 m (flatK (st.take m)) (by rfl) (by exact row_below (unhide R1) (chain (Below.refl _ _).drew (box_below _))) ⟨V1.heap.size, 0, none⟩ 1 1 (encK (.slice x1 sn y1, (r.key, s))) (by rfl) (by rfl) (by exact World.news_of_block (heap_alloc_new _ _)) (encK_one rfl) (by decide) (by unfold maxLen; omega) (by omega) (by have := (unhide C1).size; simp; omega) _ rfl ?_; intro ga gcap V2 hown2 hg2 _ _; have C2 := hide (row_grow (chain (unhide C1) (chain (Below.refl _ _).drew (box_below _))) (row_below (unhide R1) (chain (Below.refl _ _).drew (box_below _))) hg2); have R2 := hide hown2; clear hown2 hg2))
              rename_i hH
              clear hH hS
              have hne : Hid (0 < m + 1 + (m - m)) := by show _ < _; omega
              go_wp2_with (at_builtin; (refine wpList_append_keys rfl _ _ rfl V.heap.size _ (m + 1) (flatK (st.take m) ++ encK (.slice x1 sn y1, (r.key, s))) rfl (unhide R2) _ _ _ (flatK (st.drop m)) rfl (by have := unhide hl3; omega) (fun _ => by first | rfl | omega | simp) (fun a0 e j u hu => by rw [unhide hcut] at hu; cases hu) (unhide ho3) (by omega) (unhide C2).size ?_; intro v3 V3 hown3 hg3; have C3 := hide (row_grow (unhide C2) (unhide R2) hg3); have hown4 : V3.ownsRow V.heap.size 45 7 v3 (m + 1 + (m - m)) (flatK (st.take m) ++ encK (.slice x1 sn y1, (r.key, s)) ++ flatK (st.drop m)) := (by first | exact hown3 | (have e : m + 1 + (m - m) = m + 1 + 0 := (by omega); rw [e]; exact hown3)); obtain ⟨ge, c3, hv3, _, _⟩ := hown4.form (unhide hne); subst hv3; have R3 := hide hown4; clear hown3 hg3 hown4))
              go_roundw
              case rel =>
                have hlen := insert_len (unhide hml) (.slice x1 sn y1, (r.key, s))
                rw [← unhide hxn] at hlen
                exact ⟨k + 1, m + 1 + (m - m), some ⟨ge, 0, none⟩, c3, _, by omega, by go_num, by first | rfl | simp, by omega, OwnK.insert (unhide KV) ((unhide OV).mono (unhide hbel).size) (unhide hSH) (unhide hfr) (unhide C3) (by rw [hlen, insert_flat]; exact unhide R3) (unhide BB).size, hlen.symm, hfin, chain (unhide BB) (unhide C3)⟩
              case measure => simp [intOf]; omega
            · go_wp2_with fail
              go_quiet (fail)
              by_cases hcm : xc = m
              · obtain ⟨V, hV⟩ : ∃ V, V = wr.drewN nq := ⟨_, rfl⟩
                rw [← hV]
                have BW : Hid (Below w3.heap.size w3 V) := by rw [hV]; exact below_drewN (unhide BV) nq
                clear hV BV
                have KV := hide ((unhide K3).below (unhide BW))
                have XV := hide ((unhide X3).below (unhide BW))
                have OV := hide ((unhide O3).below (unhide BW))
                have LV := hide (chain (unhide bV3) (unhide BW))
                have BB := hide (chain (unhide B3) (unhide BW))
                have hml : Hid (m ≤ st.length) := by show _ ≤ _; rw [← unhide hxn]; omega
                have hfr : Hid (∀ i, (Value.slice x1 sn y1).ownBlock = some i → ∀ y ∈ st, ∀ k, y.1.ownBlock = some k → k ≠ i) := fun i hi y hy k hk => by
                  have h1 := (own_block (unhide O3) i hi).1
                  have h2 := (own_block ((unhide hown).2.1 y hy).1 k hk).2
                  omega
                have hfin : Hid (SetsAt l (k + 1) (st.take m ++ (.slice x1 sn y1, (r.key, s)) :: st.drop m)) := unhide hnext _ (step_new (x := (r.key, s)) (unhide HNO) (unhide hlo) (unhide hhi) _)
                have hl1 : Hid ((flatK (st.take m)).length = m * 7) := by show _ = _; rw [flatK_len, List.length_take]; have := unhide hml; omega
                have hl3 : Hid ((flatK (st.drop m)).length = (m - m) * 7) := by show _ = _; rw [flatK_len, List.length_drop, ← unhide hxn]
                have hcut : Hid (flatK (st.drop m) = []) := by show _ = _; rw [List.drop_eq_nil_of_le (by rw [← unhide hxn]; omega)]; rfl
                have ho1 : Hid (∀ u ∈ flatK (st.take m), u.oneCell' = true) := flatK_one (w := V) (base := w.heap.size) (fun x hx => ((unhide KV).2.1 x (List.mem_of_mem_take hx)).1)
                have ho3 : Hid (∀ u ∈ flatK (st.drop m), u.oneCell' = true) := flatK_one (w := V) (base := w.heap.size) (fun x hx => ((unhide KV).2.1 x (List.mem_of_mem_drop hx)).1)
                have j0 : (0 : Int) ≤ (m : Int) := by omega
                have j1 : (m : Int) ≤ (xc : Int) := by omega
                have j2 : (m : Int) ≤ (m : Int) := by omega
                have hcV := cell_kept (unhide LV) (unhide H0)
                obtain ⟨g0, g1, g2, g3, g4, g5⟩ := unhide XV
                have hSV := hide (And.intro (show Hid (Below V.heap.size V V) from Below.refl _ _) (And.intro hcV (And.intro g0 (And.intro g1 (And.intro g2 (And.intro g3 (And.intro g4 g5)))))))
                obtain ⟨ti, hti⟩ := info_partsS Tryz.infoKeyedR
                have TI := hide hti
                have i0 : (0 : Int) ≤ (k : Int) := by omega
                have i1 : (k : Int) < (n : Int) := by omega
                clear hcV g0 g1 g2 g3 g4 g5 hti
                go_wp2_with (at_builtin; (refine wpList_append_keys rfl _ _ rfl V.heap.size (.slice none 0 0) 0 [] rfl (World.ownsRow_nil _ _ _ _) _ _ _ (flatK (st.take m)) rfl (unhide hl1) (fun h => (by cases h)) (fun a0 e => by injection e with e; subst e; exact (unhide KV).front m) (unhide ho1) (by omega) (Nat.le_refl _) ?_; intro v1 V1 hown1 hg1; have C1 := hide (row_grow (Below.refl _ _) (World.ownsRow_nil _ _ 45 7) hg1); rw [Nat.zero_add, List.nil_append] at hown1; have R1 := hide hown1; clear hown1 hg1))
                have hS := c7_next (unhide hSV) (unhide C1)
                go_region_held3 (fun W => Hid (Below V.heap.size V W) ∧ W.cell? ⟨b, o + k * 4, none⟩ = some (.string (bytesT r.key)) ∧ W.cell? ⟨w2.heap.size, 0, none⟩ = some (.bool s.miss) ∧ W.cell? ⟨w2.heap.size, 1, none⟩ = some (.bool s.no) ∧ W.cell? ⟨w2.heap.size, 2, none⟩ = some (.bool s.num) ∧ W.cell? ⟨w2.heap.size, 3, none⟩ = some (.slice x1 sn y1) ∧ W.cell? ⟨w2.heap.size, 4, none⟩ = some (.int .i64 s.lo) ∧ W.cell? ⟨w2.heap.size, 5, none⟩ = some (.int .i64 s.hi))
                  (first | (with_reducible exact hS) | (with_reducible assumption) | (with_reducible refine c7_drew ?_; with_reducible assumption) | (with_reducible refine c7_next ?_ (box_below _); with_reducible assumption) | (with_reducible exact c7_drew (c7_next hS (box_below _))) | (with_reducible exact c7_next (c7_drew hS) (box_below _)) | (with_reducible exact c7_next (unhide hSV) (unhide C2)))
                  (first | (refine step_append_lies _ (by rfl) _ _ _ (by rfl) V.heap.size 45 ti _ 7 64 Tryz.underlying38 (unhide TI).1 (unhide TI).2.1 (unhide TI).2.2.1 (unhide TI).2.2.2 (by rfl) (by decide) v1 m (flatK (st.take m)) (by rfl) (by exact row_below (unhide R1) (chain (Below.refl _ _).drew (box_below _))) ⟨V1.heap.size, 0, none⟩ 1 1 (encK (.slice x1 sn y1, (r.key, s))) (by rfl) (by rfl) (by exact World.news_of_block (heap_alloc_new _ _)) (encK_one rfl) (by decide) (by unfold maxLen; omega) (by omega) (by have := (unhide C1).size; simp; omega) _ rfl ?_; intro ga gcap V2 hown2 hg2 _ _; have C2 := hide (row_grow (chain (unhide C1) (chain (Below.refl _ _).drew (box_below _))) (row_below (unhide R1) (chain (Below.refl _ _).drew (box_below _))) hg2); have R2 := hide hown2; clear hown2 hg2))
                rename_i hH
                clear hH hS
                have hne : Hid (0 < m + 1 + (m - m)) := by show _ < _; omega
                go_wp2_with (at_builtin; (refine wpList_append_keys rfl _ _ rfl V.heap.size _ (m + 1) (flatK (st.take m) ++ encK (.slice x1 sn y1, (r.key, s))) rfl (unhide R2) _ _ _ (flatK (st.drop m)) rfl (by have := unhide hl3; omega) (fun _ => by first | rfl | omega | simp) (fun a0 e j u hu => by rw [unhide hcut] at hu; cases hu) (unhide ho3) (by omega) (unhide C2).size ?_; intro v3 V3 hown3 hg3; have C3 := hide (row_grow (unhide C2) (unhide R2) hg3); have hown4 : V3.ownsRow V.heap.size 45 7 v3 (m + 1 + (m - m)) (flatK (st.take m) ++ encK (.slice x1 sn y1, (r.key, s)) ++ flatK (st.drop m)) := (by first | exact hown3 | (have e : m + 1 + (m - m) = m + 1 + 0 := (by omega); rw [e]; exact hown3)); obtain ⟨ge, c3, hv3, _, _⟩ := hown4.form (unhide hne); subst hv3; have R3 := hide hown4; clear hown3 hg3 hown4))
                go_roundw
                case rel =>
                  have hlen := insert_len (unhide hml) (.slice x1 sn y1, (r.key, s))
                  rw [← unhide hxn] at hlen
                  exact ⟨k + 1, m + 1 + (m - m), some ⟨ge, 0, none⟩, c3, _, by omega, by go_num, by first | rfl | simp, by omega, OwnK.insert (unhide KV) ((unhide OV).mono (unhide hbel).size) (unhide hSH) (unhide hfr) (unhide C3) (by rw [hlen, insert_flat]; exact unhide R3) (unhide BB).size, hlen.symm, hfin, chain (unhide BB) (unhide C3)⟩
                case measure => simp [intOf]; omega
              · obtain ⟨V, hV⟩ : ∃ V, V = wr.drewN nq := ⟨_, rfl⟩
                rw [← hV]
                have BW : Hid (Below w3.heap.size w3 V) := by rw [hV]; exact below_drewN (unhide BV) nq
                clear hV BV
                have KV := hide ((unhide K3).below (unhide BW))
                have XV := hide ((unhide X3).below (unhide BW))
                have OV := hide ((unhide O3).below (unhide BW))
                have LV := hide (chain (unhide bV3) (unhide BW))
                have BB := hide (chain (unhide B3) (unhide BW))
                have hml : Hid (m ≤ st.length) := by show _ ≤ _; rw [← unhide hxn]; omega
                have hfr : Hid (∀ i, (Value.slice x1 sn y1).ownBlock = some i → ∀ y ∈ st, ∀ k, y.1.ownBlock = some k → k ≠ i) := fun i hi y hy k hk => by
                  have h1 := (own_block (unhide O3) i hi).1
                  have h2 := (own_block ((unhide hown).2.1 y hy).1 k hk).2
                  omega
                have hfin : Hid (SetsAt l (k + 1) (st.take m ++ (.slice x1 sn y1, (r.key, s)) :: st.drop m)) := unhide hnext _ (step_new (x := (r.key, s)) (unhide HNO) (unhide hlo) (unhide hhi) _)
                have hl1 : Hid ((flatK (st.take m)).length = m * 7) := by show _ = _; rw [flatK_len, List.length_take]; have := unhide hml; omega
                have hl3 : Hid ((flatK (st.drop m)).length = (m - m) * 7) := by show _ = _; rw [flatK_len, List.length_drop, ← unhide hxn]
                have hcut : Hid (flatK (st.drop m) = []) := by show _ = _; rw [List.drop_eq_nil_of_le (by rw [← unhide hxn]; omega)]; rfl
                have ho1 : Hid (∀ u ∈ flatK (st.take m), u.oneCell' = true) := flatK_one (w := V) (base := w.heap.size) (fun x hx => ((unhide KV).2.1 x (List.mem_of_mem_take hx)).1)
                have ho3 : Hid (∀ u ∈ flatK (st.drop m), u.oneCell' = true) := flatK_one (w := V) (base := w.heap.size) (fun x hx => ((unhide KV).2.1 x (List.mem_of_mem_drop hx)).1)
                have j0 : (0 : Int) ≤ (m : Int) := by omega
                have j1 : (m : Int) ≤ (xc : Int) := by omega
                have j2 : (m : Int) ≤ (m : Int) := by omega
                have hcV := cell_kept (unhide LV) (unhide H0)
                obtain ⟨g0, g1, g2, g3, g4, g5⟩ := unhide XV
                have hSV := hide (And.intro (show Hid (Below V.heap.size V V) from Below.refl _ _) (And.intro hcV (And.intro g0 (And.intro g1 (And.intro g2 (And.intro g3 (And.intro g4 g5)))))))
                obtain ⟨ti, hti⟩ := info_partsS Tryz.infoKeyedR
                have TI := hide hti
                have i0 : (0 : Int) ≤ (k : Int) := by omega
                have i1 : (k : Int) < (n : Int) := by omega
                clear hcV g0 g1 g2 g3 g4 g5 hti
                go_wp2_with (at_builtin; (refine wpList_append_keys rfl _ _ rfl V.heap.size (.slice none 0 0) 0 [] rfl (World.ownsRow_nil _ _ _ _) _ _ _ (flatK (st.take m)) rfl (unhide hl1) (fun h => (by cases h)) (fun a0 e => by injection e with e; subst e; exact (unhide KV).front m) (unhide ho1) (by omega) (Nat.le_refl _) ?_; intro v1 V1 hown1 hg1; have C1 := hide (row_grow (Below.refl _ _) (World.ownsRow_nil _ _ 45 7) hg1); rw [Nat.zero_add, List.nil_append] at hown1; have R1 := hide hown1; clear hown1 hg1))
                have hS := c7_next (unhide hSV) (unhide C1)
                go_region_held3 (fun W => Hid (Below V.heap.size V W) ∧ W.cell? ⟨b, o + k * 4, none⟩ = some (.string (bytesT r.key)) ∧ W.cell? ⟨w2.heap.size, 0, none⟩ = some (.bool s.miss) ∧ W.cell? ⟨w2.heap.size, 1, none⟩ = some (.bool s.no) ∧ W.cell? ⟨w2.heap.size, 2, none⟩ = some (.bool s.num) ∧ W.cell? ⟨w2.heap.size, 3, none⟩ = some (.slice x1 sn y1) ∧ W.cell? ⟨w2.heap.size, 4, none⟩ = some (.int .i64 s.lo) ∧ W.cell? ⟨w2.heap.size, 5, none⟩ = some (.int .i64 s.hi))
                  (first | (with_reducible exact hS) | (with_reducible assumption) | (with_reducible refine c7_drew ?_; with_reducible assumption) | (with_reducible refine c7_next ?_ (box_below _); with_reducible assumption) | (with_reducible exact c7_drew (c7_next hS (box_below _))) | (with_reducible exact c7_next (c7_drew hS) (box_below _)) | (with_reducible exact c7_next (unhide hSV) (unhide C2)))
                  (first | (refine step_append_lies _ (by rfl) _ _ _ (by rfl) V.heap.size 45 ti _ 7 64 Tryz.underlying38 (unhide TI).1 (unhide TI).2.1 (unhide TI).2.2.1 (unhide TI).2.2.2 (by rfl) (by decide) v1 m (flatK (st.take m)) (by rfl) (by exact row_below (unhide R1) (chain (Below.refl _ _).drew (box_below _))) ⟨V1.heap.size, 0, none⟩ 1 1 (encK (.slice x1 sn y1, (r.key, s))) (by rfl) (by rfl) (by exact World.news_of_block (heap_alloc_new _ _)) (encK_one rfl) (by decide) (by unfold maxLen; omega) (by omega) (by have := (unhide C1).size; simp; omega) _ rfl ?_; intro ga gcap V2 hown2 hg2 _ _; have C2 := hide (row_grow (chain (unhide C1) (chain (Below.refl _ _).drew (box_below _))) (row_below (unhide R1) (chain (Below.refl _ _).drew (box_below _))) hg2); have R2 := hide hown2; clear hown2 hg2))
                rename_i hH
                clear hH hS
                have hne : Hid (0 < m + 1 + (m - m)) := by show _ < _; omega
                go_wp2_with (at_builtin; (refine wpList_append_keys rfl _ _ rfl V.heap.size _ (m + 1) (flatK (st.take m) ++ encK (.slice x1 sn y1, (r.key, s))) rfl (unhide R2) _ _ _ (flatK (st.drop m)) rfl (by have := unhide hl3; omega) (fun _ => by first | rfl | omega | simp) (fun a0 e j u hu => by rw [unhide hcut] at hu; cases hu) (unhide ho3) (by omega) (unhide C2).size ?_; intro v3 V3 hown3 hg3; have C3 := hide (row_grow (unhide C2) (unhide R2) hg3); have hown4 : V3.ownsRow V.heap.size 45 7 v3 (m + 1 + (m - m)) (flatK (st.take m) ++ encK (.slice x1 sn y1, (r.key, s)) ++ flatK (st.drop m)) := (by first | exact hown3 | (have e : m + 1 + (m - m) = m + 1 + 0 := (by omega); rw [e]; exact hown3)); obtain ⟨ge, c3, hv3, _, _⟩ := hown4.form (unhide hne); subst hv3; have R3 := hide hown4; clear hown3 hg3 hown4))
                go_roundw
                case rel =>
                  have hlen := insert_len (unhide hml) (.slice x1 sn y1, (r.key, s))
                  rw [← unhide hxn] at hlen
                  exact ⟨k + 1, m + 1 + (m - m), some ⟨ge, 0, none⟩, c3, _, by omega, by go_num, by first | rfl | simp, by omega, OwnK.insert (unhide KV) ((unhide OV).mono (unhide hbel).size) (unhide hSH) (unhide hfr) (unhide C3) (by rw [hlen, insert_flat]; exact unhide R3) (unhide BB).size, hlen.symm, hfin, chain (unhide BB) (unhide C3)⟩
                case measure => simp [intOf]; omega
    · obtain rfl : k = n := by omega
      have hfin : Hid (setsR l = (st.map (·.2), 0)) := by
        show _ = _
        have := unhide hat
        unfold SetsAt at this
        rw [List.take_of_length_le (by rw [← unhide HN]; exact Nat.le_refl _)] at this
        rw [sets_of (unhide HZ), this]
      go_wp2_with fail
      show R (.returned (.tuple #[.slice xa xn xc, .int .i64 0])) wr
      rw [unhide HR]
      exact Or.inr ⟨by rw [unhide hfin], _, st, rfl, by rw [unhide hfin], unhide hown, unhide hbel⟩
end Go.Proofs.YtnkcbmlobikjkaaGreatDoor
