/- ReqsMet: the walk. -/
import Derived.Test.YtnkcbmlobikjkaaGreatDoorRqWG
namespace Go.Proofs.YtnkcbmlobikjkaaGreatDoor.reqsMet
open Go.RowKit Suf Val Go.Maps

set_option maxRecDepth 100000 in
set_option maxHeartbeats 8000000 in
theorem walk (v0 : Value) (l : List VReq) (v1 : Value) (ls : List Lab) (w : World) (h0 : Reqs w v0 l) (h1 : Labs w v1 ls) (hL : Laid w) :
    Calls Tryz.prog 8 #[v0, v1] w fun e w' => e = .returned (.bool true) ∧ Below w.heap.size w w' := by
  have HL := hide hL
  have H0 := hide h0
  have H1 := hide h1
  have hlen := h1.len
  obtain ⟨a0, c0, rfl⟩ := h0.val
  obtain ⟨a1, c1, rfl⟩ := h1.val
  obtain ⟨n0, hn0⟩ : ∃ n, n = l.length := ⟨_, rfl⟩
  obtain ⟨n1, hn1⟩ : ∃ n, n = ls.length := ⟨_, rfl⟩
  rw [← hn0] at H0 ⊢
  rw [← hn1] at H1 hlen ⊢
  have N1 := hide hn1
  clear hL h0 h1 hn0 hn1
  obtain ⟨R, hR⟩ : ∃ R, R = admitsR l ls := ⟨_, rfl⟩
  have HR := hide hR
  clear hR
  obtain ⟨q, z⟩ := R
  go_enter Tryz.func8, Tryz.ntmps8
  go_wp2_with fail
  refine (padmits_any _ l _ ls _ (unhide HL) (unhide H0) (unhide H1)).mono ?_
  rintro e w1 ⟨he, hw1⟩
  rw [← unhide HR] at he
  subst he
  have B1 := hide hw1
  clear hw1
  by_cases hz : z = 0
  · have hok : Hid (moreR 16 l = 0 ∧ labelsR ls = 0 ∧ q = l.all (fun r => admB ls (keyS r))) := by
      have hr := unhide HR
      by_cases h1 : moreR 16 l = 0
      · by_cases h2 : labelsR ls = 0
        · rw [admits_is h1 h2] at hr
          exact ⟨h1, h2, congrArg Prod.fst hr⟩
        · rw [admits_lab h1 h2] at hr
          exact absurd ((congrArg Prod.snd hr).symm.trans hz) h2
      · rw [admits_bad h1] at hr
        exact absurd ((congrArg Prod.snd hr).symm.trans hz) h1
    clear HR
    subst hz
    obtain ⟨C, hC⟩ : ∃ C, C = canR l := ⟨_, rfl⟩
    have HC := hide hC
    clear hC
    obtain ⟨cq, cz⟩ := C
    go_wp2_with fail
    refine (pcan_any _ l _ ((unhide HL).below (unhide B1)) ((unhide H0).below (unhide B1))).mono ?_
    rintro e w2 ⟨he, hw2⟩
    rw [← unhide HC] at he
    subst he
    have B2 := hide (chain (unhide B1) hw2)
    clear hw2 B1
    go_wp2_with fail
    refine (psets_any _ l _ ((unhide HL).below (unhide B2)) ((unhide H0).below (unhide B2))).mono ?_
    rintro e w3 (⟨h0, rfl, hw3⟩ | ⟨h0, v', st, rfl, hst, hown, hw3⟩)
    · have hs3 : (setsR l).2 = 3 := sets_err (unhide hok).1 h0
      have hcz : cz = 3 := by have := unhide HC; rw [can_bad h0, hs3] at this; exact congrArg Prod.snd this
      rw [hs3]
      clear HC h0 hs3
      subst hcz
      have B3 := hide (chain (unhide B2) hw3)
      clear hw3 B2
      go_wp2_with fail
      refine (live4_any _ ((unhide HL).below (unhide B3))).mono ?_
      rintro e w4 ⟨rfl, hw4⟩
      have B4 := hide (chain (unhide B3) hw4)
      clear hw4
      go_wp2_with fail
      go_ret
      exact ⟨rfl, unhide B4⟩
    have hcz : cz = 0 := by have := unhide HC; rw [can_is h0] at this; exact congrArg Prod.snd this
    have hcq : Hid (q = true → cq = true) := fun hq => by
      have := unhide HC
      unfold canR at this
      rw [if_pos h0] at this
      have h1 : cq = _ := congrArg Prod.fst this
      rw [h1]
      exact met_can (unhide hok).1 h0 (labels := ls) (by rw [← (unhide hok).2.2]; exact hq)
    have hmet : Hid (st.all (fun x => admB ls x.2) = q) := by
      show _ = _
      rw [(unhide hok).2.2, ← met_is (unhide hok).1 h0 ls, ← hst, List.all_map]; rfl
    have h16 : st.length ≤ 16 := by
      have := congrArg List.length hst
      have h3 := sets_len (l := l)
      simp at this
      omega
    have hlab : Hid (∀ k (h : k < ls.length), ∀ x ∈ ls.take k, ¬ x.1 = ls[k].1) := fun k h x hx => by
      have := (labels_next ls [] k h (unhide hok).2.1).2.2 x
      rw [List.nil_append] at this
      exact this hx
    clear HC h0
    subst hcz
    have B3 := hide (chain (unhide B2) hw3)
    have HO := hide hown
    obtain ⟨xa, xc, hxe⟩ := hown.val
    obtain ⟨xn, hxn⟩ : ∃ x, x = st.length := ⟨_, rfl⟩
    rw [← hxn] at hxe h16
    have HN := hide hxn
    subst hxe
    clear hw3 B2 hown hxn hst
    go_wp2_with fail
    go_loopw [11, 12] (fun m i W => ∃ k : Nat, k ≤ xn ∧ i = .int .i64 k ∧ m = .bool ((st.take k).all (fun x => admB ls x.2)) ∧ Hid (Below w3.heap.size w3 W)) (fun _ i _ => xn - (intOf i).toNat)
    case atStart => exact ⟨0, Nat.zero_le _, rfl, rfl, Below.refl _ _⟩
    case round =>
      obtain ⟨k, hk, rfl, rfl, hbel⟩ := hrel
      by_cases hlt : k < xn
      · have hxk : k < st.length := by rw [← unhide HN]; exact hlt
        obtain ⟨g, rfl, hsev⟩ := ((unhide HO).below (unhide hbel)).at hxk
        have hel := (((unhide HO).below (unhide hbel)).2.1 _ (List.getElem_mem hxk)).1.strs
        have hnx := hide (all_nextG (p := fun x : VKS => admB ls x.2) st k hxk)
        obtain ⟨m0, hm0⟩ : ∃ m, m = (st.take k).all (fun x => admB ls x.2) := ⟨_, rfl⟩
        obtain ⟨m1, hm1⟩ : ∃ m, m = (st.take (k + 1)).all (fun x => admB ls x.2) := ⟨_, rfl⟩
        rw [← hm0]
        rw [← hm0, ← hm1] at hnx
        have M1 := hide hm1
        obtain ⟨y, hy⟩ : ∃ y, y = st[k] := ⟨_, rfl⟩
        rw [← hy] at hsev hel hnx
        clear hm0 hm1
        obtain ⟨u, key, s⟩ := y
        have HE := hide hel
        obtain ⟨ua, uc, hue⟩ := hel.val
        obtain ⟨un, hun⟩ : ∃ x, x = s.vals.length := ⟨_, rfl⟩
        simp only at hue hsev hnx
        rw [← hun] at hue
        clear hun hy hxk hel
        subst hue
        have HS := hide hsev
        obtain ⟨s0, s1, s2, s3, s4, s5, s6⟩ := hsev
        simp only at s0 s1 s2 s3 s4 s5 s6
        have hst0 : Hid (s.miss = admB (ls.take 0) (key, s)) := rfl
        go_wp2_with fail
        clear s0 s1 s2 s3 s4 s5 s6
        obtain ⟨V, hV⟩ : ∃ V, V = wr := ⟨_, rfl⟩
        subst hV
        go_loopw [13, 14] (fun t j W => ∃ m : Nat, m ≤ n1 ∧ j = .int .i64 m ∧ t = .bool (admB (ls.take m) (key, s)) ∧ Hid (Below V.heap.size V W)) (fun _ j _ => n1 - (intOf j).toNat)
        case atStart => exact ⟨0, Nat.zero_le _, rfl, by rw [← unhide hst0], Below.refl _ _⟩
        case round =>
          obtain ⟨m, hm, rfl, rfl, hbel3⟩ := hrel
          have B6 := hide (chain (unhide hbel) (unhide hbel3))
          by_cases hmn : m < n1
          · have hlm : m < ls.length := by rw [← unhide N1]; exact hmn
            obtain ⟨b, o, hab, h0, h1, hs0, hs1⟩ := ((unhide H1).below (chain (unhide B3) (unhide B6))).at hlm
            have hstep := hide (adm_step hlm (unhide hlab m hlm) key s)
            obtain ⟨t, ht⟩ : ∃ t, t = ls[m] := ⟨_, rfl⟩
            rw [← ht] at h0 h1 hs0 hs1 hstep
            have HS1 := hide hs1
            obtain ⟨r0, hr0⟩ : ∃ r, r = admB (ls.take m) (key, s) := ⟨_, rfl⟩
            obtain ⟨r1, hr1⟩ : ∃ r, r = admB (ls.take (m + 1)) (key, s) := ⟨_, rfl⟩
            rw [← hr0]
            rw [← hr0, ← hr1] at hstep
            have HR1 := hide hr1
            clear hs0 hs1 ht hlm hr0 hr1
            subst hab
            obtain ⟨s0, s1, s2, s3, s4, s5, s6⟩ := (unhide HS).below (unhide hbel3)
            simp only at s0 s1 s2 s3 s4 s5 s6
            have hq := eq_txts t.1 key
            obtain ⟨p, hpp⟩ : ∃ q, q = (t.1 == key) := ⟨_, rfl⟩
            rw [← hpp] at hq
            obtain ⟨X, hX⟩ : ∃ X, X = bytesT t.1 := ⟨_, rfl⟩
            obtain ⟨Y, hY⟩ : ∃ Y, Y = bytesT key := ⟨_, rfl⟩
            obtain ⟨Z, hZ⟩ : ∃ Z, Z = bytesT t.2 := ⟨_, rfl⟩
            rw [← hX] at h0 hq
            rw [← hY] at s0 hq
            rw [← hZ] at h1
            have GQ := hide hpp
            have GZ := hide hZ
            have K1 := hide h1
            have hS := And.intro (show Hid (Below wr.heap.size wr wr) from Below.refl _ _) (And.intro h0 s0)
            have i0 : (0 : Int) ≤ (m : Int) := by omega
            have i1 : (m : Int) < (n1 : Int) := by omega
            have i2 : (0 : Int) ≤ (k : Int) := by omega
            have i3 : (k : Int) < (xn : Int) := by omega
            clear h0 h1 s0 s1 s2 s3 s4 s5 s6 hX hY hpp hZ
            go_wp2_with fail
            go_region_held3 (fun W => Hid (Below wr.heap.size wr W) ∧ W.cell? ⟨b, o + m * 2, none⟩ = some (.string X) ∧ W.cell? ⟨g, k * 7, none⟩ = some (.string Y))
              (first | (with_reducible exact hS) | (with_reducible assumption) | (with_reducible refine c2_drew ?_; with_reducible assumption))
              (fail)
            rename_i hH
            have bH := hide (unhide hH.1)
            have B7 := hide (chain (unhide hbel3) (unhide hH.1))
            clear hH hS
            cases p
            · have hne : ¬ t.1 = key := fun e => by have := unhide GQ; rw [e] at this; simp at this
              have hrr : r0 = r1 := by have := unhide hstep; rw [if_neg hne] at this; exact this.symm
              clear hstep hne
              subst hrr
              go_wp2_with fail
              go_roundw
              case rel => exact ⟨m + 1, by omega, by go_num, by rw [unhide HR1], B7⟩
              case measure => simp [intOf]; omega
            · have hke : t.1 = key := by have := unhide GQ; simpa using this.symm
              have hfin : Hid (hasB s t.2 = r1) := by show _ = _; rw [unhide hstep, if_pos hke]
              have h1' := cell_kept (unhide bH) (unhide K1)
              obtain ⟨g0, g1, g2, g3, g4, g5, g6⟩ := (unhide HS).below (unhide B7)
              simp only at g1 g2 g3 g4 g5 g6
              have hS := And.intro (show Hid (Below wr.drew.heap.size wr.drew wr.drew) from Below.refl _ _) (And.intro g1 (And.intro g2 (And.intro g3 (And.intro g4 (And.intro g5 (And.intro g6 h1'))))))
              have cH : Hid (∀ W, Hid (Below wr.drew.heap.size wr.drew W) ∧ W.cell? ⟨g, k * 7 + 1, none⟩ = some (.bool s.miss) ∧ W.cell? ⟨g, k * 7 + 2, none⟩ = some (.bool s.no) ∧ W.cell? ⟨g, k * 7 + 3, none⟩ = some (.bool s.num) ∧ W.cell? ⟨g, k * 7 + 4, none⟩ = some (.slice ua un uc) ∧ W.cell? ⟨g, k * 7 + 5, none⟩ = some (.int .i64 s.lo) ∧ W.cell? ⟨g, k * 7 + 6, none⟩ = some (.int .i64 s.hi) ∧ W.cell? ⟨b, o + m * 2 + 1, none⟩ = some (.string Z) → Calls Tryz.prog 24 #[.agg #[.bool s.miss, .bool s.no, .bool s.num, .slice ua un uc, .int .i64 s.lo, .int .i64 s.hi], .string Z] W fun e w' => e = .returned (.bool r1) ∧ Below W.heap.size W w') := fun W hs => by
                rw [← unhide hfin, unhide GZ]
                exact has_any s.miss s.no s.num _ s.vals s.lo s.hi t.2 W ((unhide HL).below (chain (chain (unhide B3) (chain (unhide hbel) (unhide B7))) (unhide hs.1))) ((unhide HE).below (chain (unhide B7) (unhide hs.1))) (unhide HS1)
              clear g0 g1 g2 g3 g4 g5 g6 h1' hq hke
              go_wp2_with fail
              go_region_held3 (fun W => Hid (Below wr.drew.heap.size wr.drew W) ∧ W.cell? ⟨g, k * 7 + 1, none⟩ = some (.bool s.miss) ∧ W.cell? ⟨g, k * 7 + 2, none⟩ = some (.bool s.no) ∧ W.cell? ⟨g, k * 7 + 3, none⟩ = some (.bool s.num) ∧ W.cell? ⟨g, k * 7 + 4, none⟩ = some (.slice ua un uc) ∧ W.cell? ⟨g, k * 7 + 5, none⟩ = some (.int .i64 s.lo) ∧ W.cell? ⟨g, k * 7 + 6, none⟩ = some (.int .i64 s.hi) ∧ W.cell? ⟨b, o + m * 2 + 1, none⟩ = some (.string Z))
                (first | (with_reducible exact hS) | (with_reducible assumption) | (with_reducible refine c7_drew ?_; with_reducible assumption) | (with_reducible refine c7_next ?_ hw; with_reducible assumption))
                (first | (go_at_call 24; with_reducible refine (unhide cH _ ?_).mono ?_; with_reducible assumption; rintro e w4 ⟨rfl, hw⟩))
              rename_i hH
              have B8 := hide (chain (unhide B7) (unhide hH.1))
              clear hH hS hw cH
              go_wp2_with fail
              go_roundw
              case rel => exact ⟨m + 1, by omega, by go_num, by rw [unhide HR1], B8⟩
              case measure => simp [intOf]; omega
          · obtain rfl : m = n1 := by omega
            have hfull : Hid (admB (ls.take m) (key, s) = admB ls (key, s)) := by show _ = _; rw [List.take_of_length_le (by rw [← unhide N1]; exact Nat.le_refl _)]
            rw [unhide hfull]
            obtain ⟨r0, hr0⟩ : ∃ r, r = admB ls (key, s) := ⟨_, rfl⟩
            rw [← hr0] at hnx ⊢
            clear hr0 hfull
            have hmm : Hid (m1 = (m0 && r0)) := hnx
            cases m0
            · have hv : Hid (m1 = false) := unhide hmm
              go_wp2_with fail
              go_roundw
              case rel => exact ⟨k + 1, by omega, by go_num, by rw [← unhide M1, unhide hv], B6⟩
              case measure => simp [intOf]; omega
            · have hv : Hid (m1 = r0) := by show _ = _; rw [unhide hmm, Bool.true_and]
              go_wp2_with fail
              go_roundw
              case rel => exact ⟨k + 1, by omega, by go_num, by rw [← unhide M1, unhide hv], B6⟩
              case measure => simp [intOf]; omega
      · obtain rfl : k = xn := by omega
        have hfull : Hid ((st.take k).all (fun x => admB ls x.2) = q) := by
          show _ = _
          rw [List.take_of_length_le (by rw [← unhide HN]; exact Nat.le_refl _), unhide hmet]
        rw [unhide hfull]
        have B6 := hide (chain (unhide B3) (unhide hbel))
        clear hfull hmet
        cases q
        · go_wp2_with fail
          refine (live4_any _ ((unhide HL).below (unhide B6))).mono ?_
          rintro e w5 ⟨rfl, hw5⟩
          have B7 := hide (chain (unhide B6) hw5)
          clear hw5
          go_wp2_with fail
          go_ret
          exact ⟨rfl, unhide B7⟩
        · obtain rfl : cq = true := unhide hcq rfl
          go_wp2_with fail
          refine (live4_any _ ((unhide HL).below (unhide B6))).mono ?_
          rintro e w5 ⟨rfl, hw5⟩
          have B7 := hide (chain (unhide B6) hw5)
          clear hw5
          go_wp2_with fail
          go_ret
          exact ⟨rfl, unhide B7⟩
  · have hq : q = false := by
      have hr := unhide HR
      by_cases h1 : moreR 16 l = 0
      · by_cases h2 : labelsR ls = 0
        · rw [admits_is h1 h2] at hr
          exact absurd (congrArg Prod.snd hr) hz
        · rw [admits_lab h1 h2] at hr
          exact congrArg Prod.fst hr
      · rw [admits_bad h1] at hr
        exact congrArg Prod.fst hr
    have ht : (z != 0) = true := bne_iff_ne.2 hz
    clear HR hz
    subst hq
    go_wp2_with fail
    refine (live4_any _ ((unhide HL).below (unhide B1))).mono ?_
    rintro e w2 ⟨rfl, hw2⟩
    have B2 := hide (chain (unhide B1) hw2)
    clear hw2
    go_wp2_with fail
    go_ret
    exact ⟨rfl, unhide B2⟩
end Go.Proofs.YtnkcbmlobikjkaaGreatDoor.reqsMet
