/- Layer 6: contracts of allowed and table. -/
import Derived.Test.YtepcnfnmphgccaaGreatDoorMpOffG
import Derived.Test.YtepcnfnmphgccaaGreatDoorCtCG
namespace Go.Proofs.YtepcnfnmphgccaaGreatDoor
open Go.RowKit Suf Val Go.Maps

def alwV (v : Value) (l : List VType) : Value := if catR l = 0 then v else .slice none 0 0
theorem alw_lst {w : World} {v : Value} {l : List VType} (h : Lst typK w v l) : Lst typK w (alwV v l) (alwR l) := by
  unfold alwV alwR
  by_cases e : catR l = 0
  · rw [if_pos e, if_pos e]; exact h
  · rw [if_neg e, if_neg e]; exact lst_nil _ _ _
set_option maxHeartbeats 4000000 in
theorem pallowed_any (v : Value) (l : List VType) (w : World) (hL : Laid w) (hv : Lst typK w v l) :
    Calls Tryz.prog 34 #[v] w fun e w' => e = .returned (alwV v l) ∧ Below w.heap.size w w' := by
  have hc := hide (pcheck6_any v l w hL hv)
  by_cases h : catR l = 0
  · have ha : alwV v l = v := if_pos h
    rw [ha]
    rw [h] at hc
    obtain ⟨a, c, rfl⟩ := hv.val
    clear hL hv ha h
    obtain ⟨n, hn⟩ : ∃ n, n = l.length := ⟨_, rfl⟩
    rw [← hn] at hc ⊢
    clear hn
    go_enter Tryz.func34, Tryz.ntmps34
    go_wp2_with fail
    refine (unhide hc).mono ?_
    rintro e w1 ⟨rfl, hw1⟩
    have B1 := hide hw1
    clear hw1 hc
    go_wp2_with fail
    go_ret
    exact ⟨rfl, unhide B1⟩
  · have ha : alwV v l = .slice none 0 0 := if_neg h
    rw [ha]
    obtain ⟨z, hz⟩ : ∃ z, z = catR l := ⟨_, rfl⟩
    rw [← hz] at hc h
    have hb := nz h
    obtain ⟨a, c, rfl⟩ := hv.val
    clear hL hv ha h hz
    obtain ⟨n, hn⟩ : ∃ n, n = l.length := ⟨_, rfl⟩
    rw [← hn] at hc ⊢
    clear hn
    go_enter Tryz.func34, Tryz.ntmps34
    go_wp2_with fail
    refine (unhide hc).mono ?_
    rintro e w1 ⟨rfl, hw1⟩
    have B1 := hide hw1
    clear hw1 hc
    go_wp2_with fail
    go_ret
    exact ⟨rfl, unhide B1⟩

/-- Types and offerings in memory have short texts. -/
theorem typ_short {w : World} {v : Value} {l : List VType} (h : Lst typK w v l) {p : VType × VOfg} (h1 : p.1 ∈ l) (h2 : p.2 ∈ p.1.offs) : okO (keyP p) := by
  obtain ⟨a, c, rfl⟩ := h.val
  obtain ⟨j, hj, e⟩ := List.getElem_of_mem h1
  obtain ⟨b, o, _, hat⟩ := h.at hj
  rw [e] at hat
  obtain ⟨⟨_, s0⟩, _, _, _, u2, _, hu2⟩ := typ_at.1 hat
  obtain ⟨a2, c2, rfl⟩ := hu2.val
  obtain ⟨i, hi, e2⟩ := List.getElem_of_mem h2
  obtain ⟨b2, o2, _, hat2⟩ := hu2.at hi
  rw [e2] at hat2
  obtain ⟨⟨_, s1⟩, ⟨_, s2⟩, _⟩ := ofg_at.1 hat2
  exact ⟨s0, s1, s2⟩
theorem grown_bel6 {w W W1 : World} {b : Nat} (h : Below w.heap.size w W) (hg : W.grownBy W1 (some b)) (hb : w.heap.size ≤ b) : Below w.heap.size w W1 := h.grown hg h.size (fun k hk => by cases hk; exact hb)
theorem tab_step (ps : List (VType × VOfg)) (p : VType × VOfg) : ∀ o, (if keyP p = o then some p else tabP ps o) = tabP (ps ++ [p]) o := fun o => (tabP_snoc ps p o).symm
theorem TypBox.map {W W' : World} {b B : Nat} {t : VType} {u1 u2 : Value} (h : TypBox W B t u1 u2) (hg : W.grownBy W' (some b)) (hm : ∃ es c, W.heap[b]? = some (.map es c)) : TypBox W' B t u1 u2 :=
  ⟨cell_map hg hm h.1, cell_map hg hm h.2.1, cell_map hg hm h.2.2.1, cell_map hg hm h.2.2.2.1, cell_map hg hm h.2.2.2.2.1, cell_map hg hm h.2.2.2.2.2.1, cell_map hg hm h.2.2.2.2.2.2⟩
theorem sub_ok {t : VType} (h : TypeOk t) : Am.eSub t.cap.1 t.cap.2 t.ovr.1 t.ovr.2 = 0 := by
  have h1 : chkAll t.cap = 0 := h.cap
  have h2 : chkAll t.ovr = 0 := h.ovr
  have h3 := h.fits
  unfold fitsN at h3
  rw [decide_eq_true_eq] at h3
  have hb : Am.chkB t.cap.1 t.cap.2 t.ovr.1 t.ovr.2 = 0 := (Am.chkB_iff _ _ _ _).2 ⟨h1, h2⟩
  exact Am.eSub_yes _ _ _ _ hb ⟨h3.2.2.1, h3.2.2.2⟩

set_option maxRecDepth 100000 in
set_option maxHeartbeats 16000000 in
theorem ptable_any (v : Value) (l : List VType) (w0 w : World) (hv : Lst typK w0 v l) (hb0 : Below w0.heap.size w0 w) (hok : ∀ t ∈ l, TypeOk t) (h12 : l.length ≤ 12) :
    Calls Tryz.prog 33 #[v] w fun e w' => e = .returned (.map (some w.heap.size)) ∧ Tab w0 w' w.heap.size (tabP (pairsT l)) 72 ∧ Below w.heap.size w w' := by
  have HV := hide hv
  have HB0 := hide hb0
  have hlen := hv.len
  have HS := hide (fun (p : VType × VOfg) h1 h2 => typ_short hv (p := p) h1 h2)
  have HOK := hide hok
  obtain ⟨a, c, rfl⟩ := hv.val
  clear hv hok hb0
  obtain ⟨n, hn⟩ : ∃ n, n = l.length := ⟨_, rfl⟩
  rw [← hn] at HV hlen h12 ⊢
  have HN := hide hn
  clear hn
  have hmm := @run_makeMap Tryz.prog
  go_enter Tryz.func33, Tryz.ntmps33
  go_wp2_with fail
  clear hmm
  go_loopw [14] (fun i W => ∃ k : Nat, k ≤ n ∧ i = .int .i64 k ∧ Hid (Tab w0 W w.heap.size (tabP (pairsT (l.take k))) (k * 6)) ∧ Hid (Below w.heap.size w W)) (fun i _ => n - (intOf i).toNat)
  case atStart => exact ⟨0, Nat.zero_le _, rfl, tab_new w0 w, boxb _⟩
  case round =>
    obtain ⟨k, hk, rfl, htab, hbel⟩ := hrel
    by_cases hlt : k < n
    · have hlk : k < l.length := by rw [← unhide HN]; exact hlt
      obtain ⟨b, o, rfl, hat0⟩ := (unhide HV).at hlk
      have hat := hat0.below (chain (unhide HB0) (unhide hbel))
      have hst := hide (pairs_next hlk)
      have hmem := hide (List.getElem_mem hlk)
      obtain ⟨y, hy⟩ : ∃ y, y = l[k] := ⟨_, rfl⟩
      rw [← hy] at hat hat0 hst hmem
      have hok := hide (unhide HOK y (unhide hmem))
      obtain ⟨⟨_, hs0⟩, _, _, ⟨u1, h5w, hu1⟩, u2, h6w, hu2⟩ := typ_at.1 hat0
      obtain ⟨⟨h0, _⟩, ⟨h1, h2⟩, ⟨h3, h4⟩, ⟨u1', h5, _⟩, u2', h6, _⟩ := typ_at.1 hat
      obtain rfl : u1' = u1 := by have := cell_kept (chain (unhide HB0) (unhide hbel)) h5w; rw [h5] at this; exact Option.some.inj this
      obtain rfl : u2' = u2 := by have := cell_kept (chain (unhide HB0) (unhide hbel)) h6w; rw [h6] at this; exact Option.some.inj this
      rw [show typK.size = 7 from rfl] at h0 h1 h2 h3 h4 h5 h6
      have HU1 := hide hu1
      have HU2 := hide hu2
      clear hy hlk hat hat0 hu1 hu2 h5w h6w hs0
      obtain ⟨W0, hW0⟩ : ∃ W, W = wr.alloc (.cells #[.string (bytesT y.name), .int .i64 y.cap.1, .int .i64 y.cap.2, .int .i64 y.ovr.1, .int .i64 y.ovr.2, u1', u2'] 57) := ⟨_, rfl⟩
      have B0 : Hid (Below wr.heap.size wr W0) := by rw [hW0]; exact boxb _
      have F0 : Hid (TypBox W0 wr.heap.size y u1' u2') := by rw [hW0]; exact typ_box _ _ _ _
      have GW0 := hide hW0
      clear hW0
      have csub : Hid (∀ W, Calls Tryz.prog 54 #[.agg #[.int .i64 y.cap.1, .int .i64 y.cap.2], .agg #[.int .i64 y.ovr.1, .int .i64 y.ovr.2]] W fun e w' => e = .returned (.tuple #[.agg #[.int .i64 (y.cap.1 - y.ovr.1), .int .i64 (y.cap.2 - y.ovr.2)], .int .i64 0]) ∧ Below W.heap.size W w') := fun W => by
        have h := Am.sub_any y.cap.1 y.cap.2 y.ovr.1 y.ovr.2 W
        rw [sub_ok (unhide hok), Am.keep_yes _ _ rfl, Am.keep_yes _ _ rfl] at h
        exact h
      obtain ⟨a1, d1, e1⟩ := (unhide HU1).val
      obtain ⟨m1, hm1⟩ : ∃ m, m = y.labs.length := ⟨_, rfl⟩
      rw [← hm1] at e1
      clear hm1
      subst e1
      obtain ⟨a2, d2, e2⟩ := (unhide HU2).val
      have hm6 : y.offs.length ≤ 6 := (unhide hok).offs
      obtain ⟨m, hm⟩ : ∃ m, m = y.offs.length := ⟨_, rfl⟩
      rw [← hm] at e2 hm6
      have HM := hide hm
      clear hm
      subst e2
      have hwb : w.heap.size < wr.heap.size := (unhide htab).lt
      go_wp2_with fail
      rw [← unhide GW0]
      clear h0 h1 h2 h3 h4 h5 h6
      refine (unhide csub _).mono ?_
      rintro e w1 ⟨rfl, hw1⟩
      have B1 := hide (chain (unhide B0) hw1)
      have F1 := hide ((unhide F0).below hw1)
      clear hw1 F0 GW0 B0
      have f6' := cell_box6 (.cells #[.int .i64 (y.cap.1 - y.ovr.1), .int .i64 (y.cap.2 - y.ovr.2)] 28) (unhide F1).2.2.2.2.2.2
      go_wp2_with fail
      clear f6'
      obtain ⟨V, hV⟩ : ∃ V, V = w1.alloc (.cells #[.int .i64 (y.cap.1 - y.ovr.1), .int .i64 (y.cap.2 - y.ovr.2)] 28) := ⟨_, rfl⟩
      have BV : Hid (Below w1.heap.size w1 V) := by rw [hV]; exact boxb _
      have P0 : Hid (V.cell? ⟨w1.heap.size, 0, none⟩ = some (.int .i64 (y.cap.1 - y.ovr.1)) ∧ V.cell? ⟨w1.heap.size, 1, none⟩ = some (.int .i64 (y.cap.2 - y.ovr.2))) := by rw [hV]; exact ⟨by simp [go_sem], by simp [go_sem]⟩
      rw [← hV]
      clear hV
      have FV := hide ((unhide F1).below (unhide BV))
      have TV := hide ((unhide htab).below (chain (unhide B1) (unhide BV)))
      have BW := hide (chain (unhide hbel) (chain (unhide B1) (unhide BV)))
      clear F1 BV B1 htab
      generalize wr.heap.size = B5 at FV ⊢
      generalize w1.heap.size = B6 at P0 ⊢
      go_loopw [29] (fun i W => ∃ j : Nat, j ≤ m ∧ i = .int .i64 j ∧ Hid (Tab w0 W w.heap.size (tabP (pairsT (l.take k) ++ ofgsP y (y.offs.take j))) (k * 6 + j)) ∧ Hid (TypBox W B5 y (.slice a1 m1 d1) (.slice a2 m d2)) ∧ Hid (W.cell? ⟨B6, 0, none⟩ = some (.int .i64 (y.cap.1 - y.ovr.1)) ∧ W.cell? ⟨B6, 1, none⟩ = some (.int .i64 (y.cap.2 - y.ovr.2))) ∧ Hid (Below w.heap.size w W)) (fun i _ => m - (intOf i).toNat)
      case atStart => exact ⟨0, Nat.zero_le _, rfl, (unhide TV).congr (fun _ _ => by rw [List.take_zero]; unfold ofgsP; simp), FV, P0, BW⟩
      case round =>
        obtain ⟨j, hj, rfl, htab2, hF, hP, hbel2⟩ := hrel
        by_cases hlt2 : j < m
        · have hlj : j < y.offs.length := by rw [← unhide HM]; exact hlt2
          obtain ⟨b2, o2, rfl, hat2⟩ := ((unhide HU2).below (chain (unhide HB0) (unhide hbel2))).at hlj
          have hst2 := hide (ofgs_next hlj)
          have hsh := hide (unhide HS (y, y.offs[j]) (unhide hmem) (List.getElem_mem hlj))
          obtain ⟨x, hx⟩ : ∃ x, x = y.offs[j] := ⟨_, rfl⟩
          rw [← hx] at hat2 hst2 hsh
          obtain ⟨⟨g0, _⟩, ⟨g1, _⟩, g2, g3⟩ := ofg_at.1 hat2
          rw [show ofgK.size = 4 from rfl] at g0 g1 g2 g3
          clear hx hlj hat2
          have HSH := hide hsh
          obtain ⟨f0, f1, f2, f3, f4, f5, f6⟩ := unhide hF
          obtain ⟨p0, p1⟩ := unhide hP
          clear hsh
          have e0 := cell_box6 (.cells #[.string (bytesT x.zone), .string (bytesT x.kind), .int .i64 x.price, .bool x.opn] 65) f0
          have e3 := cell_box6 (.cells #[.string (bytesT y.name), .string (bytesT x.zone), .string (bytesT x.kind)] 24) (cell_box6 (.cells #[.string (bytesT x.zone), .string (bytesT x.kind), .int .i64 x.price, .bool x.opn] 65) f5)
          have q0 := cell_box6 (.cells #[.string (bytesT y.name), .string (bytesT x.zone), .string (bytesT x.kind)] 24) (cell_box6 (.cells #[.string (bytesT x.zone), .string (bytesT x.kind), .int .i64 x.price, .bool x.opn] 65) p0)
          have q1 := cell_box6 (.cells #[.string (bytesT y.name), .string (bytesT x.zone), .string (bytesT x.kind)] 24) (cell_box6 (.cells #[.string (bytesT x.zone), .string (bytesT x.kind), .int .i64 x.price, .bool x.opn] 65) p1)
          have x0 : (wr.alloc (.cells #[.string (bytesT x.zone), .string (bytesT x.kind), .int .i64 x.price, .bool x.opn] 65)).cell? ⟨wr.heap.size, 0, none⟩ = some (.string (bytesT x.zone)) := by simp [go_sem]
          have x1 : (wr.alloc (.cells #[.string (bytesT x.zone), .string (bytesT x.kind), .int .i64 x.price, .bool x.opn] 65)).cell? ⟨wr.heap.size, 1, none⟩ = some (.string (bytesT x.kind)) := by simp [go_sem]
          have x2 : (wr.alloc (.cells #[.string (bytesT x.zone), .string (bytesT x.kind), .int .i64 x.price, .bool x.opn] 65)).cell? ⟨wr.heap.size, 2, none⟩ = some (.int .i64 x.price) := by simp [go_sem]
          have x3 : (wr.alloc (.cells #[.string (bytesT x.zone), .string (bytesT x.kind), .int .i64 x.price, .bool x.opn] 65)).cell? ⟨wr.heap.size, 3, none⟩ = some (.bool x.opn) := by simp [go_sem]
          have z2 := cell_box6 (.cells #[.string (bytesT y.name), .string (bytesT x.zone), .string (bytesT x.kind)] 24) x2
          have z3 := cell_box6 (.cells #[.string (bytesT y.name), .string (bytesT x.zone), .string (bytesT x.kind)] 24) x3
          clear f0 f1 f2 f3 f4 f5 f6 p0 p1 x2 x3
          have BY : Hid (Below wr.heap.size wr ((wr.alloc (.cells #[.string (bytesT x.zone), .string (bytesT x.kind), .int .i64 x.price, .bool x.opn] 65)).alloc (.cells #[.string (bytesT y.name), .string (bytesT x.zone), .string (bytesT x.kind)] 24))) := chain (boxb _) (boxb _)
          have TY := hide ((unhide htab2).below (unhide BY))
          have FY := hide ((unhide hF).below (unhide BY))
          have PY := hide (And.intro (cell_kept (unhide BY) (unhide hP).1) (cell_kept (unhide BY) (unhide hP).2))
          clear htab2 hF hP
          go_wp2_with (at_mapUpdate; refine wpList_tab rfl _ _ _ _ rfl 61 Tryz.underlying76 (unhide TY) (by unfold maxLen; omega) rfl (keyP (y, x)) rfl (unhide HSH) (y, x) (.slice a1 m1 d1) rfl (unhide HU1) ?_; intro w3 ht3 hg3; have TN := hide (ht3.congr (fun o _ => tab_step _ _ o)); have FN := hide ((unhide FY).map hg3 (unhide TY).isMap); have PN := hide (And.intro (cell_map hg3 (unhide TY).isMap (unhide PY).1) (cell_map hg3 (unhide TY).isMap (unhide PY).2)); have BN := hide (grown_bel6 (chain (unhide hbel2) (unhide BY)) hg3 (Nat.le_refl _)); clear ht3 hg3)
          go_roundw
          case rel =>
            refine ⟨j + 1, by omega, by go_num, ?_, FN, PN, BN⟩
            rw [unhide hst2, ← List.append_assoc]
            exact (unhide TN).mono (by omega)
          case measure => simp [intOf]; omega
        · obtain rfl : j = m := by omega
          have hT : Hid (Tab w0 wr w.heap.size (tabP (pairsT (l.take (k + 1)))) ((k + 1) * 6)) := by
            have h := unhide htab2
            rw [List.take_of_length_le (l := y.offs) (by rw [← unhide HM]; exact Nat.le_refl _), ← unhide hst] at h
            exact h.mono (by omega)
          go_wp2_with fail
          go_roundw
          case rel => exact ⟨k + 1, by omega, by go_num, hT, hbel2⟩
          case measure => simp [intOf]; omega
    · obtain rfl : k = n := by omega
      have hT : Hid (Tab w0 wr w.heap.size (tabP (pairsT l)) 72) := by
        have h := unhide htab
        rw [List.take_of_length_le (by rw [← unhide HN]; exact Nat.le_refl _)] at h
        exact h.mono (by omega)
      go_wp2_with fail
      go_ret
      exact ⟨rfl, unhide hT, unhide hbel⟩
end Go.Proofs.YtepcnfnmphgccaaGreatDoor
