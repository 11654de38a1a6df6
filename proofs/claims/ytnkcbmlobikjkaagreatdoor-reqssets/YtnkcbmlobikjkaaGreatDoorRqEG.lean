/- Layer 4: contracts of the document's first, more, Check, Labels, admits, Admits. -/
import Derived.Test.YtnkcbmlobikjkaaGreatDoorRqCG
import Derived.Test.YtnkcbmlobikjkaaGreatDoorV3WRG
import Derived.Test.YtnkcbmlobikjkaaGreatDoorV3LIG
namespace Go.Proofs.YtnkcbmlobikjkaaGreatDoor
open Go.RowKit Suf Val Go.Maps

set_option maxRecDepth 100000 in
set_option maxHeartbeats 8000000 in
theorem rfirst_any (v : Value) (l : List VReq) (w : World) (hv : Reqs w v l) (h16 : l.length ≤ 16) :
    Calls Tryz.prog 30 #[v] w fun e w' => e = .returned (.int .i64 (firstR l)) ∧ Below w.heap.size w w' := by
  have HV := hide hv
  obtain ⟨a, c, rfl⟩ := hv.val
  clear hv
  obtain ⟨n, hn⟩ : ∃ n, n = l.length := ⟨_, rfl⟩
  rw [← hn] at HV h16 ⊢
  have HN := hide hn
  clear hn
  obtain ⟨R, hR⟩ : ∃ R, R = firstR l := ⟨_, rfl⟩
  rw [← hR]
  have HR := hide hR
  clear hR
  go_enter Tryz.func30, Tryz.ntmps30
  go_wp2_with fail
  go_loopw [3] (fun i W => ∃ k : Nat, k ≤ n ∧ i = .int .i64 k ∧ Hid (∀ r ∈ l.take k, wrongR r = 0) ∧ Hid (Below w.heap.size w W)) (fun i _ => n - (intOf i).toNat)
  case atStart => exact ⟨0, Nat.zero_le _, rfl, fun r hr => (by cases hr), Below.refl _ _⟩
  case round =>
    obtain ⟨k, hk, rfl, hok, hbel⟩ := hrel
    by_cases hlt : k < n
    · have hlk : k < l.length := by rw [← unhide HN]; exact hlt
      obtain ⟨b, o, u, rfl, hreq⟩ := ((unhide HV).below (unhide hbel)).at hlk
      have htk := hide (take_nextG l k hlk)
      have hft := hide (first_take hlk (unhide hok))
      obtain ⟨r, hr⟩ : ∃ r, r = l[k] := ⟨_, rfl⟩
      rw [← hr] at hreq htk hft
      obtain ⟨h0, h1, h2, h3, hstr, hsh, hcp⟩ := hreq
      have hST := hide hstr
      have hSH := hide hsh
      have hCP := hide hcp
      obtain ⟨ua, uc, hue⟩ := hstr.val
      subst hue
      clear hstr hsh hr hlk hcp
      obtain ⟨un, hun⟩ : ∃ x, x = r.vals.length := ⟨_, rfl⟩
      rw [← hun] at h2 hST hCP
      clear hun
      go_wp2_with fail
      clear h0 h1 h2 h3
      refine (rof_any (bytesT r.key) r.op _ r.vals r.n _ (unhide hST) (unhide hCP) (short_max (unhide hSH))).mono ?_
      rintro e w1 ⟨x1, y1, he, ho1, hw1⟩
      have hof : ofR ⟨(bytesT r.key).data.toList, r.op, r.vals, r.n⟩ = ofR r := rfl
      rw [hof] at he ho1
      clear hof ho1
      unfold tells at he
      obtain ⟨z, hz⟩ : ∃ z, z = (ofR r).2 := ⟨_, rfl⟩
      obtain ⟨s, hs⟩ : ∃ s, s = (ofR r).1 := ⟨_, rfl⟩
      rw [← hz, ← hs] at he
      obtain ⟨sn, hsn⟩ : ∃ x, x = s.vals.length := ⟨_, rfl⟩
      rw [← hsn] at he
      subst he
      have hzw : Hid (z = wrongR r) := by
        show _ = _
        rw [hz]
        by_cases hw : wrongR r = 0
        · rw [ofR_good hw, hw]
        · rw [ofR_bad hw]
      have B1 := hide (chain (chain (unhide hbel) hw1) (box_below (.cells #[.bool s.miss, .bool s.no, .bool s.num, .slice x1 sn y1, .int .i64 s.lo, .int .i64 s.hi] 42)))
      clear hz hs hsn hw1
      by_cases hz0 : z = 0
      · subst hz0
        have hn2 : Hid (∀ r' ∈ l.take (k + 1), wrongR r' = 0) := fun r' hr' => by
          rw [unhide htk] at hr'
          rcases List.mem_append.1 hr' with h | h
          · exact unhide hok r' h
          · rw [List.mem_singleton] at h; rw [h]; exact (unhide hzw).symm
        go_wp2_with fail
        go_roundw
        case rel => exact ⟨k + 1, by omega, by go_num, hn2, B1⟩
        case measure => simp [intOf]; omega
      · have ht : (z != 0) = true := bne_iff_ne.2 hz0
        have hfin : Hid (R = z) := by
          show _ = _
          rw [unhide HR, unhide hzw]
          exact unhide hft (by rw [← unhide hzw]; exact hz0)
        clear hz0
        go_wp2_with fail
        go_ret
        exact ⟨ret_int (unhide hfin).symm, unhide B1⟩
    · obtain rfl : k = n := by omega
      have hfin : Hid (R = 0) := by
        show _ = _
        rw [unhide HR, first_ok]
        have := unhide hok
        rw [List.take_of_length_le (by rw [← unhide HN]; exact Nat.le_refl _)] at this
        exact this
      go_wp2_with fail
      go_ret
      exact ⟨ret_int (unhide hfin).symm, unhide hbel⟩

set_option maxRecDepth 100000 in
set_option maxHeartbeats 4000000 in
theorem rmore_any (v : Value) (l : List VReq) (w : World) (hv : Reqs w v l) :
    Calls Tryz.prog 31 #[v] w fun e w' => e = .returned (.int .i64 (moreR 16 l)) ∧ Below w.heap.size w w' := by
  have HV := hide hv
  have hlen := hv.len
  obtain ⟨a, c, rfl⟩ := hv.val
  clear hv
  obtain ⟨n, hn⟩ : ∃ n, n = l.length := ⟨_, rfl⟩
  rw [← hn] at HV hlen ⊢
  have HN := hide hn
  clear hn
  obtain ⟨R, hR⟩ : ∃ R, R = moreR 16 l := ⟨_, rfl⟩
  rw [← hR]
  have HR := hide hR
  clear hR
  by_cases hb : 16 < n
  · have hfin : Hid (R = 3) := by show _ = _; rw [unhide HR]; unfold moreR; rw [← unhide HN, if_pos hb]
    go_enter Tryz.func31, Tryz.ntmps31
    go_wp2_with fail
    go_ret
    exact ⟨ret_int (unhide hfin).symm, Below.refl _ _⟩
  · have hfin : Hid (R = firstR l) := by show _ = _; rw [unhide HR]; unfold moreR; rw [← unhide HN, if_neg hb]
    have hl16 : Hid (l.length ≤ 16) := by show _ ≤ _; rw [← unhide HN]; omega
    go_enter Tryz.func31, Tryz.ntmps31
    go_wp2_with fail
    refine (rfirst_any _ l _ (unhide HV) (unhide hl16)).mono ?_
    rintro e w1 ⟨he, hw1⟩
    rw [← unhide hfin] at he
    subst he
    have B1 := hide hw1
    clear hw1
    go_wp2_with fail
    go_ret
    exact ⟨rfl, unhide B1⟩
set_option maxRecDepth 100000 in
set_option maxHeartbeats 4000000 in
theorem rcheck4_any (v : Value) (l : List VReq) (w : World) (hv : Reqs w v l) :
    Calls Tryz.prog 14 #[v] w fun e w' => e = .returned (.int .i64 (moreR 8 l)) ∧ Below w.heap.size w w' := by
  have HV := hide hv
  have hlen := hv.len
  obtain ⟨a, c, rfl⟩ := hv.val
  clear hv
  obtain ⟨n, hn⟩ : ∃ n, n = l.length := ⟨_, rfl⟩
  rw [← hn] at HV hlen ⊢
  have HN := hide hn
  clear hn
  obtain ⟨R, hR⟩ : ∃ R, R = moreR 8 l := ⟨_, rfl⟩
  rw [← hR]
  have HR := hide hR
  clear hR
  by_cases hb : 8 < n
  · have hfin : Hid (R = 3) := by show _ = _; rw [unhide HR]; unfold moreR; rw [← unhide HN, if_pos hb]
    go_enter Tryz.func14, Tryz.ntmps14
    go_wp2_with fail
    go_ret
    exact ⟨ret_int (unhide hfin).symm, Below.refl _ _⟩
  · have hfin : Hid (R = firstR l) := by show _ = _; rw [unhide HR]; unfold moreR; rw [← unhide HN, if_neg hb]
    have hl16 : Hid (l.length ≤ 16) := by show _ ≤ _; rw [← unhide HN]; omega
    go_enter Tryz.func14, Tryz.ntmps14
    go_wp2_with fail
    refine (rfirst_any _ l _ (unhide HV) (unhide hl16)).mono ?_
    rintro e w1 ⟨he, hw1⟩
    rw [← unhide hfin] at he
    subst he
    have B1 := hide hw1
    clear hw1
    go_wp2_with fail
    go_ret
    exact ⟨rfl, unhide B1⟩

theorem c2_next {V W W' : World} {p0 p1 : Addr} {v0 v1 : Value} (h : Hid (Below V.heap.size V W) ∧ W.cell? p0 = some v0 ∧ W.cell? p1 = some v1) (hb : Below W.heap.size W W') : Hid (Below V.heap.size V W') ∧ W'.cell? p0 = some v0 ∧ W'.cell? p1 = some v1 :=
  ⟨chain (unhide h.1) hb, cell_kept hb (h.2.1), cell_kept hb (h.2.2)⟩
theorem c2_drew {V W : World} {p0 p1 : Addr} {v0 v1 : Value} (h : Hid (Below V.heap.size V W) ∧ W.cell? p0 = some v0 ∧ W.cell? p1 = some v1) : Hid (Below V.heap.size V W.drew) ∧ W.drew.cell? p0 = some v0 ∧ W.drew.cell? p1 = some v1 :=
  ⟨(unhide h.1).drew, h.2.1, h.2.2⟩

theorem eq_txts (s t : Txt) : ((bytesT s).toList == (bytesT t).toList) = (s == t) := by rw [Lib.toList_data, Lib.toList_data]; rfl

set_option maxRecDepth 100000 in
set_option maxHeartbeats 8000000 in
theorem rlabels_any (v : Value) (l : List Lab) (w : World) (hv : Labs w v l) :
    Calls Tryz.prog 35 #[v] w fun e w' => e = .returned (.int .i64 (labelsR l)) ∧ Below w.heap.size w w' := by
  have HV := hide hv
  have hlen := hv.len
  obtain ⟨a, c, rfl⟩ := hv.val
  clear hv
  obtain ⟨n, hn⟩ : ∃ n, n = l.length := ⟨_, rfl⟩
  rw [← hn] at HV hlen ⊢
  have HN := hide hn
  clear hn
  obtain ⟨R, hR⟩ : ∃ R, R = labelsR l := ⟨_, rfl⟩
  rw [← hR]
  have HR := hide hR
  clear hR
  go_enter Tryz.func35, Tryz.ntmps35
  go_wp2_with fail
  go_loopw [3] (fun i W => ∃ k : Nat, k ≤ n ∧ i = .int .i64 k ∧ Hid (labelsR l = labelsF (l.take k) (l.drop k)) ∧ Hid (Below w.heap.size w W)) (fun i _ => n - (intOf i).toNat)
  case atStart => exact ⟨0, Nat.zero_le _, rfl, rfl, Below.refl _ _⟩
  case round =>
    obtain ⟨k, hk, rfl, hlab, hbel⟩ := hrel
    by_cases hlt : k < n
    · have hlk : k < l.length := by rw [← unhide HN]; exact hlt
      obtain ⟨b, o, rfl, h0, h1, hs0, hs1⟩ := ((unhide HV).below (unhide hbel)).at hlk
      have hst := hide (labels_step hlk)
      obtain ⟨y, hy⟩ : ∃ y, y = l[k] := ⟨_, rfl⟩
      rw [← hy] at h0 h1 hs0 hs1 hst
      have HS0 := hide hs0
      have HS1 := hide hs1
      clear hs0 hs1 hy hlk
      obtain ⟨q0, hq0⟩ : ∃ q, q = nameB y.1 := ⟨_, rfl⟩
      obtain ⟨q1, hq1⟩ : ∃ q, q = valueB y.2 := ⟨_, rfl⟩
      rw [← hq0, ← hq1] at hst
      have GQ0 := hide hq0
      have GQ1 := hide hq1
      clear hq0 hq1
      go_wp2_with fail
      refine (rname_any (bytesT y.1) _ (short_max (unhide HS0))).mono ?_
      rintro e w1 ⟨he, hw1⟩
      rw [bytesT_list, ← unhide GQ0] at he
      subst he
      obtain rfl := hw1.symm
      clear hw1
      go_wp2_with fail
      refine (rvalue_any (bytesT y.2) _ (short_size (unhide HS1))).mono ?_
      rintro e w2 ⟨he, hw2⟩
      rw [bytesT_list, ← unhide GQ1] at he
      subst he
      have B2 := hide (chain (unhide hbel) hw2)
      have H0 := hide (cell_kept hw2 h0)
      clear hw2 h0 h1
      cases q0
      · have hfin : Hid (R = 20) := by show _ = _; rw [unhide HR, unhide hlab, unhide hst]; simp
        go_wp2_with fail
        go_ret
        exact ⟨ret_int (unhide hfin).symm, unhide B2⟩
      cases q1
      · have hfin : Hid (R = 20) := by show _ = _; rw [unhide HR, unhide hlab, unhide hst]; simp
        go_wp2_with fail
        go_ret
        exact ⟨ret_int (unhide hfin).symm, unhide B2⟩
      have hst2 : Hid (labelsR l = if (lookL y.1 (l.take k)).isSome = true then 6 else labelsF (l.take (k + 1)) (l.drop (k + 1))) := by
        show _ = _; rw [unhide hlab, unhide hst]; simp
      clear hst hlab
      go_wp2_with fail
      go_loopw [6] (fun i W => ∃ m : Nat, m ≤ k ∧ i = .int .i64 m ∧ Hid (∀ x ∈ l.take m, ¬ x.1 = y.1) ∧ Hid (Below w2.heap.size w2 W)) (fun i _ => k - (intOf i).toNat)
      case atStart => exact ⟨0, Nat.zero_le _, rfl, fun x hx => (by cases hx), Below.refl _ _⟩
      case round =>
        obtain ⟨m, hm, rfl, hnone, hbel3⟩ := hrel
        by_cases hmk : m < k
        · have hlm : m < l.length := by rw [← unhide HN]; omega
          obtain ⟨b', o', eb, g0, hj1, hj2, hj3⟩ := ((unhide HV).below (chain (unhide B2) (unhide hbel3))).at hlm
          obtain ⟨rfl, rfl⟩ : b = b' ∧ o = o' := by injection eb with eb; injection eb with e1 e2 _; exact ⟨e1, e2⟩
          have g1 := cell_kept (unhide hbel3) (unhide H0)
          have htm := hide (take_nextG l m hlm)
          have hmem : Hid (m < k → l[m] ∈ l.take k) := fun h => List.mem_take_iff_getElem.2 ⟨m, by omega, rfl⟩
          obtain ⟨t, ht⟩ : ∃ t, t = l[m] := ⟨_, rfl⟩
          rw [← ht] at g0 htm hmem
          have hq := eq_txts t.1 y.1
          obtain ⟨q, hqq⟩ : ∃ q, q = (t.1 == y.1) := ⟨_, rfl⟩
          rw [← hqq] at hq
          obtain ⟨X, hX⟩ : ∃ X, X = bytesT t.1 := ⟨_, rfl⟩
          obtain ⟨Y, hY⟩ : ∃ Y, Y = bytesT y.1 := ⟨_, rfl⟩
          rw [← hX] at g0 hq
          rw [← hY] at g1 hq
          have GQ := hide hqq
          have hS := And.intro (show Hid (Below wr.heap.size wr wr) from Below.refl _ _) (And.intro g0 g1)
          have i0 : (0 : Int) ≤ (m : Int) := by omega
          have i1 : (m : Int) < (n : Int) := by omega
          have i2 : (0 : Int) ≤ (k : Int) := by omega
          have i3 : (k : Int) < (n : Int) := by omega
          clear g0 g1 hX hY hqq hj1 hj2 hj3 ht hlm eb
          go_wp2_with fail
          go_region_held3 (fun W => Hid (Below wr.heap.size wr W) ∧ W.cell? ⟨b, o + m * 2, none⟩ = some (.string X) ∧ W.cell? ⟨b, o + k * 2, none⟩ = some (.string Y))
            (first | (with_reducible exact hS) | (with_reducible assumption) | (with_reducible refine c2_drew ?_; with_reducible assumption))
            (fail)
          rename_i hH
          have B6 := hide (chain (unhide hbel3) (unhide hH.1))
          clear hH hS
          cases q
          · have hn2 : Hid (∀ x ∈ l.take (m + 1), ¬ x.1 = y.1) := fun x hx => by
              rw [unhide htm] at hx
              rcases List.mem_append.1 hx with h | h
              · exact unhide hnone x h
              · rw [List.mem_singleton] at h
                rw [h]
                intro e
                have := unhide GQ
                rw [e] at this
                simp at this
            go_wp2_with fail
            go_roundw
            case rel => exact ⟨m + 1, by omega, by go_num, hn2, B6⟩
            case measure => simp [intOf]; omega
          · have hfin : Hid (R = 6) := by
              show _ = _
              have he : t.1 = y.1 := by have := unhide GQ; simpa using this.symm
              rw [unhide HR, unhide hst2]
              cases hlo : lookL y.1 (l.take k) with
              | none => exact absurd he (lookL_none.1 hlo t (unhide hmem hmk))
              | some u => simp
            go_wp2_with fail
            go_ret
            exact ⟨ret_int (unhide hfin).symm, chain (unhide B2) (unhide B6)⟩
        · obtain rfl : m = k := by omega
          have hnx : Hid (labelsR l = labelsF (l.take (m + 1)) (l.drop (m + 1))) := by
            show _ = _
            rw [unhide hst2, lookL_none.2 (unhide hnone)]; simp
          have B6 := hide (chain (unhide B2) (unhide hbel3))
          go_wp2_with fail
          go_roundw
          case rel => exact ⟨m + 1, by omega, by go_num, hnx, B6⟩
          case measure => simp [intOf]; omega
    · obtain rfl : k = n := by omega
      have hfin : Hid (R = 0) := by
        show _ = _
        rw [unhide HR, unhide hlab, List.drop_eq_nil_of_le (by rw [← unhide HN]; exact Nat.le_refl _)]; rfl
      go_wp2_with fail
      go_ret
      exact ⟨ret_int (unhide hfin).symm, unhide hbel⟩

theorem adm_at {ls : List Lab} {k : Nat} (h : k < ls.length) (hn : ∀ x ∈ ls.take k, ¬ x.1 = ls[k].1) (s : VSet) : admB ls (ls[k].1, s) = hasB s ls[k].2 := by
  unfold admB; simp only [look_at ls k h hn]
theorem adm_none {ls : List Lab} {key : Txt} (hn : ∀ x ∈ ls, ¬ x.1 = key) (s : VSet) : admB ls (key, s) = s.miss := by
  unfold admB; simp only [lookL_none.2 hn]

set_option maxRecDepth 100000 in
set_option maxHeartbeats 8000000 in
theorem radmits_any (key : Txt) (op : Int) (u : Value) (vals : List Txt) (z : Int) (v : Value) (ls : List Lab) (w : World) (hu : Strs w u vals) (hcap : Capd u) (hk : short key) (hv : Labs w v ls) (hw : wrongR ⟨key, op, vals, z⟩ = 0) :
    Calls Tryz.prog 36 #[.agg #[.string (bytesT key), .int .i64 op, u, .int .i64 z], v] w fun e w' => e = .returned (.bool (admB ls (keyS ⟨key, op, vals, z⟩))) ∧ Below w.heap.size w w' := by
  have HU := hide hu
  have HC := hide hcap
  have HK := hide hk
  have HV := hide hv
  have hlen := hv.len
  have HS := hide hv.short
  obtain ⟨a, c, rfl⟩ := hu.val
  obtain ⟨a2, c2, rfl⟩ := hv.val
  obtain ⟨un, hun⟩ : ∃ n, n = vals.length := ⟨_, rfl⟩
  rw [← hun] at HU HC ⊢
  obtain ⟨n, hn⟩ : ∃ n, n = ls.length := ⟨_, rfl⟩
  rw [← hn] at HV hlen ⊢
  have HN := hide hn
  clear hu hcap hk hv hun hn
  obtain ⟨s, hs⟩ : ∃ s, s = ofSet ⟨key, op, vals, z⟩ := ⟨_, rfl⟩
  obtain ⟨R, hR⟩ : ∃ R, R = admB ls (key, s) := ⟨_, rfl⟩
  have hRe : admB ls (keyS ⟨key, op, vals, z⟩) = R := by rw [hR, hs]; rfl
  rw [hRe]
  have HR := hide hR
  have hof : Hid (ofR ⟨(bytesT key).data.toList, op, vals, z⟩ = (s, 0)) := by show _ = _; rw [hs]; exact ofR_good hw
  clear hR hRe hs hw
  obtain ⟨W0, hW0⟩ : ∃ W, W = w.alloc (.cells #[.string (bytesT key), .int .i64 op, .slice a un c, .int .i64 z] 25) := ⟨_, rfl⟩
  have B0 : Hid (Below w.heap.size w W0) := by rw [hW0]; exact box_below _
  have F0 : Hid (W0.cell? ⟨w.heap.size, 0, none⟩ = some (.string (bytesT key))) := by rw [hW0]; show _ = _; simp [go_sem]
  have GW := hide hW0
  clear hW0
  go_enter Tryz.func36, Tryz.ntmps36
  go_wp2_with fail
  rw [← unhide GW]
  refine (rof_any (bytesT key) op _ vals z _ ((unhide HU).below (unhide B0)) (unhide HC) (short_max (unhide HK))).mono ?_
  rintro e w1 ⟨x1, y1, he, ho1, hw1⟩
  rw [unhide hof] at he ho1
  unfold tells at he
  simp only at he ho1
  obtain ⟨sn, hsn⟩ : ∃ x, x = s.vals.length := ⟨_, rfl⟩
  rw [← hsn] at he ho1
  clear hsn
  subst he
  obtain ⟨W1, hW1⟩ : ∃ W, W = w1.alloc (.cells #[.bool s.miss, .bool s.no, .bool s.num, .slice x1 sn y1, .int .i64 s.lo, .int .i64 s.hi] 42) := ⟨_, rfl⟩
  have bV1 : Hid (Below W0.heap.size W0 W1) := by rw [hW1]; exact chain hw1 (box_below _)
  have ST1 : Hid (Strs W1 (.slice x1 sn y1) s.vals) := by rw [hW1]; exact (Own.strs ho1).below (box_below _)
  have X1 : Hid (Six W1 w1.heap.size (.bool s.miss) (.bool s.no) (.bool s.num) (.slice x1 sn y1) (.int .i64 s.lo) (.int .i64 s.hi)) := by rw [hW1]; exact six_new _ _ _ _ _ _ _ _
  have GW1 := hide hW1
  clear hW1 hw1 ho1 hof
  have B1 := hide (chain (unhide B0) (unhide bV1))
  have F1 := hide (cell_kept (unhide bV1) (unhide F0))
  clear bV1 F0
  go_wp2_with fail
  rw [← unhide GW1]
  go_loopw [7] (fun i W => ∃ k : Nat, k ≤ n ∧ i = .int .i64 k ∧ Hid (∀ x ∈ ls.take k, ¬ x.1 = key) ∧ Hid (Below W1.heap.size W1 W)) (fun i _ => n - (intOf i).toNat)
  case atStart => exact ⟨0, Nat.zero_le _, rfl, fun x hx => (by cases hx), Below.refl _ _⟩
  case round =>
    obtain ⟨k, hk, rfl, hnone, hbel⟩ := hrel
    by_cases hlt : k < n
    · have hlk : k < ls.length := by rw [← unhide HN]; exact hlt
      obtain ⟨b, o, rfl, h0, h1, hs0, hs1⟩ := ((unhide HV).below (chain (unhide B1) (unhide hbel))).at hlk
      have htk := hide (take_nextG ls k hlk)
      have hat := hide (fun hh => adm_at hlk hh s)
      obtain ⟨y, hy⟩ : ∃ y, y = ls[k] := ⟨_, rfl⟩
      rw [← hy] at h0 h1 hs1 htk hat
      have HS1 := hide hs1
      clear hs0 hs1 hy hlk
      have f0 := cell_kept (unhide hbel) (unhide F1)
      have hq := eq_txts y.1 key
      obtain ⟨q, hqq⟩ : ∃ q, q = (y.1 == key) := ⟨_, rfl⟩
      rw [← hqq] at hq
      obtain ⟨X, hX⟩ : ∃ X, X = bytesT y.1 := ⟨_, rfl⟩
      obtain ⟨Y, hY⟩ : ∃ Y, Y = bytesT key := ⟨_, rfl⟩
      obtain ⟨Z, hZ⟩ : ∃ Z, Z = bytesT y.2 := ⟨_, rfl⟩
      rw [← hX] at h0 hq
      rw [← hY] at f0 hq
      rw [← hZ] at h1
      have GQ := hide hqq
      have GZ := hide hZ
      have H1 := hide h1
      have hS := And.intro (show Hid (Below wr.heap.size wr wr) from Below.refl _ _) (And.intro h0 f0)
      have i0 : (0 : Int) ≤ (k : Int) := by omega
      have i1 : (k : Int) < (n : Int) := by omega
      clear h0 f0 h1 hX hY hqq hZ
      go_wp2_with fail
      go_region_held3 (fun W => Hid (Below wr.heap.size wr W) ∧ W.cell? ⟨b, o + k * 2, none⟩ = some (.string X) ∧ W.cell? ⟨w.heap.size, 0, none⟩ = some (.string Y))
        (first | (with_reducible exact hS) | (with_reducible assumption) | (with_reducible refine c2_drew ?_; with_reducible assumption))
        (fail)
      rename_i hH
      have bH := hide (unhide hH.1)
      have B6 := hide (chain (unhide hbel) (unhide hH.1))
      clear hH hS
      cases q
      · have hn2 : Hid (∀ x ∈ ls.take (k + 1), ¬ x.1 = key) := fun x hx => by
          rw [unhide htk] at hx
          rcases List.mem_append.1 hx with h | h
          · exact unhide hnone x h
          · rw [List.mem_singleton] at h
            rw [h]
            intro e
            have := unhide GQ
            rw [e] at this
            simp at this
        go_wp2_with fail
        go_roundw
        case rel => exact ⟨k + 1, by omega, by go_num, hn2, B6⟩
        case measure => simp [intOf]; omega
      · have hke : Hid (y.1 = key) := by show _ = _; have := unhide GQ; simpa using this.symm
        have hfin : Hid (hasB s y.2 = R) := by
          show _ = _
          rw [unhide HR, ← unhide hke]
          exact (unhide hat (fun x hx => by rw [unhide hke]; exact unhide hnone x hx)).symm
        have h1' := cell_kept (unhide bH) (unhide H1)
        obtain ⟨g0, g1, g2, g3, g4, g5⟩ := (unhide X1).below (unhide B6)
        have hS := And.intro (show Hid (Below wr.drew.heap.size wr.drew wr.drew) from Below.refl _ _) (And.intro g0 (And.intro g1 (And.intro g2 (And.intro g3 (And.intro g4 (And.intro g5 h1'))))))
        have cH : Hid (∀ W, Hid (Below wr.drew.heap.size wr.drew W) ∧ W.cell? ⟨w1.heap.size, 0, none⟩ = some (.bool s.miss) ∧ W.cell? ⟨w1.heap.size, 1, none⟩ = some (.bool s.no) ∧ W.cell? ⟨w1.heap.size, 2, none⟩ = some (.bool s.num) ∧ W.cell? ⟨w1.heap.size, 3, none⟩ = some (.slice x1 sn y1) ∧ W.cell? ⟨w1.heap.size, 4, none⟩ = some (.int .i64 s.lo) ∧ W.cell? ⟨w1.heap.size, 5, none⟩ = some (.int .i64 s.hi) ∧ W.cell? ⟨b, o + k * 2 + 1, none⟩ = some (.string Z) → Calls Tryz.prog 59 #[.agg #[.bool s.miss, .bool s.no, .bool s.num, .slice x1 sn y1, .int .i64 s.lo, .int .i64 s.hi], .string Z] W fun e w' => e = .returned (.bool R) ∧ Below W.heap.size W w') := fun W hs => by
          rw [← unhide hfin, unhide GZ]
          exact rhas_any s.miss s.no s.num _ s.vals s.lo s.hi y.2 W ((unhide ST1).below (chain (unhide B6) (unhide hs.1))) (unhide HS1)
        clear g0 g1 g2 g3 g4 g5 h1' hq
        go_wp2_with fail
        go_region_held3 (fun W => Hid (Below wr.drew.heap.size wr.drew W) ∧ W.cell? ⟨w1.heap.size, 0, none⟩ = some (.bool s.miss) ∧ W.cell? ⟨w1.heap.size, 1, none⟩ = some (.bool s.no) ∧ W.cell? ⟨w1.heap.size, 2, none⟩ = some (.bool s.num) ∧ W.cell? ⟨w1.heap.size, 3, none⟩ = some (.slice x1 sn y1) ∧ W.cell? ⟨w1.heap.size, 4, none⟩ = some (.int .i64 s.lo) ∧ W.cell? ⟨w1.heap.size, 5, none⟩ = some (.int .i64 s.hi) ∧ W.cell? ⟨b, o + k * 2 + 1, none⟩ = some (.string Z))
          (first | (with_reducible exact hS) | (with_reducible assumption) | (with_reducible refine c7_drew ?_; with_reducible assumption) | (with_reducible refine c7_next ?_ hw; with_reducible assumption))
          (first | (go_at_call 59; with_reducible refine (unhide cH _ ?_).mono ?_; with_reducible assumption; rintro e w2 ⟨rfl, hw⟩))
        rename_i hH
        have B7 := hide (chain (unhide B6) (unhide hH.1))
        clear hH hS hw
        go_wp2_with fail
        go_ret
        exact ⟨rfl, chain (unhide B1) (unhide B7)⟩
    · obtain rfl : k = n := by omega
      have hfin : Hid (s.miss = R) := by
        show _ = _
        have := unhide hnone
        rw [List.take_of_length_le (by rw [← unhide HN]; exact Nat.le_refl _)] at this
        rw [unhide HR, adm_none this]
      obtain ⟨g0, g1, g2, g3, g4, g5⟩ := (unhide X1).below (unhide hbel)
      go_wp2_with fail
      go_ret
      exact ⟨ret_bool (unhide hfin), chain (unhide B1) (unhide hbel)⟩

set_option maxRecDepth 100000 in
set_option maxHeartbeats 8000000 in
theorem radmitsL_any (v : Value) (l : List VReq) (u : Value) (ls : List Lab) (w : World) (hv : Reqs w v l) (hu : Labs w u ls) :
    Calls Tryz.prog 17 #[v, u] w fun e w' => e = .returned (.tuple #[.bool (admitsR l ls).1, .int .i64 (admitsR l ls).2]) ∧ Below w.heap.size w w' := by
  have HV := hide hv
  have HU := hide hu
  have hlen := hv.len
  obtain ⟨a, c, rfl⟩ := hv.val
  obtain ⟨a2, c2, rfl⟩ := hu.val
  clear hv hu
  obtain ⟨n, hn⟩ : ∃ n, n = l.length := ⟨_, rfl⟩
  rw [← hn] at HV hlen ⊢
  have HN := hide hn
  clear hn
  obtain ⟨n2, hn2⟩ : ∃ n, n = ls.length := ⟨_, rfl⟩
  rw [← hn2] at HU ⊢
  clear hn2
  obtain ⟨R, hR⟩ : ∃ R, R = admitsR l ls := ⟨_, rfl⟩
  rw [← hR]
  have HR := hide hR
  clear hR
  obtain ⟨z, hz⟩ : ∃ z, z = moreR 16 l := ⟨_, rfl⟩
  have GZ := hide hz
  clear hz
  go_enter Tryz.func17, Tryz.ntmps17
  go_wp2_with fail
  refine (rmore_any _ l _ (unhide HV)).mono ?_
  rintro e w1 ⟨he, hw1⟩
  rw [← unhide GZ] at he
  subst he
  have B1 := hide hw1
  clear hw1
  by_cases hz0 : z = 0
  rotate_left
  · have hr : Hid (R = (false, z)) := by show _ = _; rw [unhide HR, unhide GZ]; exact admits_bad (by rw [← unhide GZ]; exact hz0)
    have ht : (z != 0) = true := bne_iff_ne.2 hz0
    clear hz0
    go_wp2_with fail
    go_ret2
    exact ⟨by rw [unhide hr]; rfl, unhide B1⟩
  subst hz0
  obtain ⟨y, hy⟩ : ∃ y, y = labelsR ls := ⟨_, rfl⟩
  have GY := hide hy
  clear hy
  go_wp2_with fail
  refine (rlabels_any _ ls _ ((unhide HU).below (unhide B1))).mono ?_
  rintro e w2 ⟨he, hw2⟩
  rw [← unhide GY] at he
  subst he
  have B2 := hide (chain (unhide B1) hw2)
  clear hw2 B1
  by_cases hy0 : y = 0
  rotate_left
  · have hr : Hid (R = (false, y)) := by show _ = _; rw [unhide HR, unhide GY]; exact admits_lab (unhide GZ).symm (by rw [← unhide GY]; exact hy0)
    have ht : (y != 0) = true := bne_iff_ne.2 hy0
    clear hy0
    go_wp2_with fail
    go_ret2
    exact ⟨by rw [unhide hr]; rfl, unhide B2⟩
  subst hy0
  have hr : Hid (R = (l.all (fun r => admB ls (keyS r)), 0)) := by show _ = _; rw [unhide HR]; exact admits_is (unhide GZ).symm (unhide GY).symm
  have hok := hide (more_ok.1 (unhide GZ).symm).2
  go_wp2_with fail
  go_loopw [8] (fun i W => ∃ k : Nat, k ≤ n ∧ i = .int .i64 k ∧ Hid ((l.take k).all (fun r => admB ls (keyS r)) = true) ∧ Hid (Below w.heap.size w W)) (fun i _ => n - (intOf i).toNat)
  case atStart => exact ⟨0, Nat.zero_le _, rfl, rfl, B2⟩
  case round =>
    obtain ⟨k, hk, rfl, hall, hbel⟩ := hrel
    by_cases hlt : k < n
    · have hlk : k < l.length := by rw [← unhide HN]; exact hlt
      obtain ⟨b, o, u, rfl, hreq⟩ := ((unhide HV).below (unhide hbel)).at hlk
      have hnx := hide (all_nextG (p := fun r => admB ls (keyS r)) l k hlk)
      have hno := hide (all_noG (p := fun r => admB ls (keyS r)) l k hlk)
      have hwr := hide (unhide hok _ (List.getElem_mem hlk))
      obtain ⟨r, hr'⟩ : ∃ r, r = l[k] := ⟨_, rfl⟩
      rw [← hr'] at hreq hnx hno hwr
      obtain ⟨h0, h1, h2, h3, hstr, hsh, hcp⟩ := hreq
      have hST := hide hstr
      have hSH := hide hsh
      have hCP := hide hcp
      obtain ⟨ua, uc, hue⟩ := hstr.val
      subst hue
      clear hstr hsh hr' hlk hcp
      obtain ⟨un, hun⟩ : ∃ x, x = r.vals.length := ⟨_, rfl⟩
      rw [← hun] at h2 hST hCP
      clear hun
      obtain ⟨q, hq⟩ : ∃ q, q = admB ls (keyS r) := ⟨_, rfl⟩
      rw [← hq] at hnx hno
      have GQ := hide hq
      clear hq
      go_wp2_with fail
      clear h0 h1 h2 h3
      refine (radmits_any r.key r.op _ r.vals r.n _ ls _ (unhide hST) (unhide hCP) (unhide hSH) ((unhide HU).below (unhide hbel)) (unhide hwr)).mono ?_
      rintro e w4 ⟨he, hw4⟩
      rw [show admB ls (keyS ⟨r.key, r.op, r.vals, r.n⟩) = q from (unhide GQ).symm] at he
      subst he
      have B4 := hide (chain (unhide hbel) hw4)
      clear hw4
      cases q
      · have hfin : Hid (R = (false, 0)) := by show _ = _; rw [unhide hr, unhide hno rfl]
        go_wp2_with fail
        go_ret2
        exact ⟨by rw [unhide hfin]; rfl, unhide B4⟩
      · have hn2 : Hid ((l.take (k + 1)).all (fun r => admB ls (keyS r)) = true) := by show _ = _; rw [unhide hnx, unhide hall]; rfl
        go_wp2_with fail
        go_roundw
        case rel => exact ⟨k + 1, by omega, by go_num, hn2, B4⟩
        case measure => simp [intOf]; omega
    · obtain rfl : k = n := by omega
      have hfin : Hid (R = (true, 0)) := by
        show _ = _
        have := unhide hall
        rw [List.take_of_length_le (by rw [← unhide HN]; exact Nat.le_refl _)] at this
        rw [unhide hr, this]
      go_wp2_with fail
      go_ret2
      exact ⟨by rw [unhide hfin]; rfl, unhide hbel⟩
end Go.Proofs.YtnkcbmlobikjkaaGreatDoor
