/- Layer 6: the document's CheckType and Check. -/
import Derived.Test.YthjcmcnhidgcjaaGreatDoorCeBG
namespace Go.Proofs.YthjcmcnhidgcjaaGreatDoor
open Go.RowKit Suf Val

set_option maxRecDepth 100000 in
set_option maxHeartbeats 16000000 in
theorem rtype6_any (t : VType) (u1 u2 : Value) (w : World) (hs : short t.name) (h1 : Lst labK w u1 t.labs) (h2 : Lst ofgK w u2 t.offs) :
    Calls Tryz.prog 13 #[typA t u1 u2] w fun e w' => e = .returned (.int .i64 (typeR t)) ∧ Below w.heap.size w w' := by
  obtain ⟨a1, d1, e1⟩ := h1.val
  obtain ⟨a2, d2, e2⟩ := h2.val
  subst e1
  subst e2
  obtain ⟨q0, hq0⟩ : ∃ q, q = nameB t.name := ⟨_, rfl⟩
  obtain ⟨z1, hz1⟩ : ∃ z, z = chkAll t.cap := ⟨_, rfl⟩
  obtain ⟨z2, hz2⟩ : ∃ z, z = chkAll t.ovr := ⟨_, rfl⟩
  obtain ⟨q3, hq3⟩ : ∃ q, q = fitsN t.ovr t.cap := ⟨_, rfl⟩
  obtain ⟨z4, hz4⟩ : ∃ z, z = tlabR t.labs := ⟨_, rfl⟩
  obtain ⟨z5, hz5⟩ : ∃ z, z = ofgR t.offs := ⟨_, rfl⟩
  have c0 : Hid (∀ W, Calls Tryz.prog 37 #[.string (bytesT t.name)] W fun e w' => e = .returned (.bool q0) ∧ w' = W) := fun W => by
    have h := rname_any (bytesT t.name) W (short_max hs)
    rw [bytesT_list, ← hq0] at h; exact h
  have c1 : Hid (∀ W, Calls Tryz.prog 38 #[.agg #[.int .i64 t.cap.1, .int .i64 t.cap.2]] W fun e w' => e = .returned (.int .i64 z1) ∧ Below W.heap.size W w') := by rw [hz1]; exact fun W => Am.rcheckAll_any _ _ W
  have c2 : Hid (∀ W, Calls Tryz.prog 38 #[.agg #[.int .i64 t.ovr.1, .int .i64 t.ovr.2]] W fun e w' => e = .returned (.int .i64 z2) ∧ Below W.heap.size W w') := by rw [hz2]; exact fun W => Am.rcheckAll_any _ _ W
  have c3 : Hid (∀ W, Calls Tryz.prog 39 #[.agg #[.int .i64 t.ovr.1, .int .i64 t.ovr.2], .agg #[.int .i64 t.cap.1, .int .i64 t.cap.2]] W fun e w' => e = .returned (.bool q3) ∧ Below W.heap.size W w') := by rw [hq3, ← fits_eq]; exact fun W => Am.rfits_any _ _ _ _ W
  have c4 : Hid (∀ W, Below w.heap.size w W → Calls Tryz.prog 40 #[.slice a1 t.labs.length d1] W fun e w' => e = .returned (.int .i64 z4) ∧ Below W.heap.size W w') := by rw [hz4]; exact fun W hW => rlab6_any _ _ W (h1.below hW)
  have c5 : Hid (∀ W, Below w.heap.size w W → Calls Tryz.prog 41 #[.slice a2 t.offs.length d2] W fun e w' => e = .returned (.int .i64 z5) ∧ Below W.heap.size W w') := by rw [hz5]; exact fun W hW => rofg6_any _ _ W (h2.below hW)
  obtain ⟨R, hR⟩ : ∃ R, R = typeR t := ⟨_, rfl⟩
  rw [← hR]
  unfold typeR at hR
  rw [← hq0, ← hz1, ← hz2, ← hq3, ← hz4, ← hz5] at hR
  have HR := hide hR
  clear hR hq0 hz1 hz2 hq3 hz4 hz5 h1 h2 hs
  obtain ⟨n1, hn1⟩ : ∃ n, n = t.labs.length := ⟨_, rfl⟩
  obtain ⟨n2, hn2⟩ : ∃ n, n = t.offs.length := ⟨_, rfl⟩
  rw [← hn1] at c4 ⊢
  rw [← hn2] at c5 ⊢
  clear hn1 hn2
  unfold typA
  obtain ⟨W0, hW0⟩ : ∃ W, W = w.alloc (.cells #[.string (bytesT t.name), .int .i64 t.cap.1, .int .i64 t.cap.2, .int .i64 t.ovr.1, .int .i64 t.ovr.2, (.slice a1 n1 d1), (.slice a2 n2 d2)] 27) := ⟨_, rfl⟩
  have B0 : Hid (Below w.heap.size w W0) := by rw [hW0]; exact boxb _
  have F0 : Hid (TypBox W0 w.heap.size t (.slice a1 n1 d1) (.slice a2 n2 d2)) := by rw [hW0]; exact typ_box _ _ _ _
  have GW := hide hW0
  clear hW0
  go_enter Tryz.func13, Tryz.ntmps13
  go_wp2_with fail
  rw [← unhide GW]
  obtain ⟨f0, f1, f2, f3, f4, f5, f6⟩ := unhide F0
  refine (unhide c0 _).mono ?_
  rintro e w1 ⟨rfl, hw1⟩
  obtain rfl := hw1.symm
  clear hw1
  cases q0
  · have hfin : Hid (R = 7) := by show _ = _; rw [unhide HR]; simp
    go_wp2_with fail
    go_ret
    exact ⟨ret_int (unhide hfin).symm, unhide B0⟩
  go_wp2_with fail
  refine (unhide c1 _).mono ?_
  rintro e w1 ⟨rfl, hw1⟩
  have B1 := hide (chain (unhide B0) hw1)
  have F1 := hide ((unhide F0).below hw1)
  clear hw1 F0 B0 f0 f1 f2 f3 f4 f5 f6 GW
  by_cases e1 : z1 = 0
  case neg =>
    have hb := nz e1
    have hfin : Hid (R = z1) := by show _ = _; rw [unhide HR]; simp [e1]
    clear e1
    go_wp2_with fail
    go_ret
    exact ⟨ret_int (unhide hfin).symm, unhide B1⟩
  subst e1
  obtain ⟨f0, f1, f2, f3, f4, f5, f6⟩ := unhide F1
  go_wp2_with fail
  refine (unhide c2 _).mono ?_
  rintro e w2 ⟨rfl, hw2⟩
  have B2 := hide (chain (unhide B1) hw2)
  have F2 := hide ((unhide F1).below hw2)
  clear hw2 F1 B1 f0 f1 f2 f3 f4 f5 f6
  by_cases e2 : z2 = 0
  case neg =>
    have hb := nz e2
    have hfin : Hid (R = z2) := by show _ = _; rw [unhide HR]; simp [e2]
    clear e2
    go_wp2_with fail
    go_ret
    exact ⟨ret_int (unhide hfin).symm, unhide B2⟩
  subst e2
  obtain ⟨f0, f1, f2, f3, f4, f5, f6⟩ := unhide F2
  go_wp2_with fail
  refine (unhide c3 _).mono ?_
  rintro e w3 ⟨rfl, hw3⟩
  have B3 := hide (chain (unhide B2) hw3)
  have F3 := hide ((unhide F2).below hw3)
  clear hw3 F2 B2 f0 f1 f2 f3 f4 f5 f6
  cases q3
  · have hfin : Hid (R = 1) := by show _ = _; rw [unhide HR]; simp
    go_wp2_with fail
    go_ret
    exact ⟨ret_int (unhide hfin).symm, unhide B3⟩
  obtain ⟨f0, f1, f2, f3, f4, f5, f6⟩ := unhide F3
  go_wp2_with fail
  refine (unhide c4 _ (unhide B3)).mono ?_
  rintro e w4 ⟨rfl, hw4⟩
  have B4 := hide (chain (unhide B3) hw4)
  have F4 := hide ((unhide F3).below hw4)
  clear hw4 F3 B3 f0 f1 f2 f3 f4 f5 f6
  by_cases e4 : z4 = 0
  case neg =>
    have hb := nz e4
    have hfin : Hid (R = z4) := by show _ = _; rw [unhide HR]; simp [e4]
    clear e4
    go_wp2_with fail
    go_ret
    exact ⟨ret_int (unhide hfin).symm, unhide B4⟩
  subst e4
  obtain ⟨f0, f1, f2, f3, f4, f5, f6⟩ := unhide F4
  have hfin : Hid (R = z5) := by show _ = _; rw [unhide HR]; simp
  go_wp2_with fail
  refine (unhide c5 _ (unhide B4)).mono ?_
  rintro e w5 ⟨rfl, hw5⟩
  have B5 := hide (chain (unhide B4) hw5)
  clear hw5 F4 B4 f0 f1 f2 f3 f4 f5 f6
  go_wp2_with fail
  go_ret
  exact ⟨ret_int (unhide hfin).symm, unhide B5⟩

set_option maxRecDepth 100000 in
set_option maxHeartbeats 16000000 in
theorem rcat6_any (v : Value) (l : List VType) (w : World) (hv : Lst typK w v l) :
    Calls Tryz.prog 14 #[v] w fun e w' => e = .returned (.int .i64 (catR l)) ∧ Below w.heap.size w w' := by
  have HV := hide hv
  have hlen := hv.len
  obtain ⟨a, c, rfl⟩ := hv.val
  clear hv
  obtain ⟨n, hn⟩ : ∃ n, n = l.length := ⟨_, rfl⟩
  rw [← hn] at HV hlen ⊢
  have HN := hide hn
  clear hn
  obtain ⟨R, hR⟩ : ∃ R, R = catR l := ⟨_, rfl⟩
  rw [← hR]
  have HR := hide hR
  clear hR
  by_cases h4 : 12 < n
  · have hfin : Hid (R = 3) := by show _ = _; rw [unhide HR]; unfold catR; rw [if_pos (by rw [← unhide HN]; exact h4)]
    go_enter Tryz.func14, Tryz.ntmps14
    go_wp2_with fail
    go_ret
    exact ⟨ret_int (unhide hfin).symm, Below.refl _ _⟩
  have HF : Hid (R = typesF (l.take 0) (l.drop 0)) := by show _ = _; rw [unhide HR]; unfold catR; rw [if_neg (by rw [← unhide HN]; exact h4)]; rfl
  go_enter Tryz.func14, Tryz.ntmps14
  go_wp2_with fail
  go_loopw [3] (fun i W => ∃ k : Nat, k ≤ n ∧ i = .int .i64 k ∧ Hid (R = typesF (l.take k) (l.drop k)) ∧ Hid (Below w.heap.size w W)) (fun i _ => n - (intOf i).toNat)
  case atStart => exact ⟨0, Nat.zero_le _, rfl, HF, Below.refl _ _⟩
  case round =>
    obtain ⟨k, hk, rfl, hlab, hbel⟩ := hrel
    by_cases hlt : k < n
    · have hlk : k < l.length := by rw [← unhide HN]; exact hlt
      obtain ⟨b, o, rfl, hat0⟩ := ((unhide HV).below (unhide hbel)).at hlk
      have hst := hide (types_step hlk)
      obtain ⟨y, hy⟩ : ∃ y, y = l[k] := ⟨_, rfl⟩
      rw [← hy] at hat0 hst
      obtain ⟨⟨h0, hs0⟩, ⟨h1, h2⟩, ⟨h3, h4'⟩, ⟨u1, h5, hu1⟩, u2, h6, hu2⟩ := typ_at.1 hat0
      rw [show typK.size = 7 from rfl] at h0 h1 h2 h3 h4' h5 h6
      clear hat0
      obtain ⟨z2, hz2⟩ : ∃ z, z = typeR y := ⟨_, rfl⟩
      have hct : Hid (∀ W, Below wr.heap.size wr W → Calls Tryz.prog 13 #[.agg #[.string (bytesT y.name), .int .i64 y.cap.1, .int .i64 y.cap.2, .int .i64 y.ovr.1, .int .i64 y.ovr.2, u1, u2]] W fun e w' => e = .returned (.int .i64 z2) ∧ Below W.heap.size W w') := by
        rw [hz2]; exact fun W hW => rtype6_any y u1 u2 W hs0 (hu1.below hW) (hu2.below hW)
      rw [← hz2] at hst
      obtain ⟨a1, d1, e1⟩ := hu1.val
      obtain ⟨a2, d2, e2⟩ := hu2.val
      obtain ⟨n1, hn1⟩ : ∃ n, n = y.labs.length := ⟨_, rfl⟩
      obtain ⟨n2, hn2⟩ : ∃ n, n = y.offs.length := ⟨_, rfl⟩
      rw [← hn1] at e1
      rw [← hn2] at e2
      clear hs0 hy hlk hz2 hu1 hu2 hn1 hn2
      subst e1
      subst e2
      have HQ := hide (fun x : VType => txt_beq6 x.name y.name)
      obtain ⟨Y0, hY0⟩ : ∃ X, X = bytesT y.name := ⟨_, rfl⟩
      rw [← hY0] at h0 hct HQ
      clear hY0
      go_wp2_with fail
      refine (unhide hct _ (Below.refl _ _)).mono ?_
      rintro e w2 ⟨rfl, hw2⟩
      have B2 := hide (chain (unhide hbel) hw2)
      have H0 := hide (cell_kept hw2 h0)
      clear hw2 h0 h1 h2 h3 h4' h5 h6 hct
      by_cases hz : z2 = 0
      case neg =>
        have hb := nz hz
        have hfin : Hid (R = z2) := by show _ = _; rw [unhide hlab, unhide hst]; simp [hz]
        clear hz
        go_wp2_with fail
        go_ret
        exact ⟨ret_int (unhide hfin).symm, unhide B2⟩
      subst hz
      have hst2 : Hid ((l.take k).any (fun z => z.name == y.name) = true → R = 6) := fun h => by
        rw [unhide hlab, unhide hst, h]; simp
      have hst3 : Hid ((l.take k).any (fun z => z.name == y.name) = false → R = typesF (l.take (k + 1)) (l.drop (k + 1))) := fun h => by
        rw [unhide hlab, unhide hst, h]; simp
      clear hst hlab
      go_wp2_with fail
      go_loopw [5] (fun i W => ∃ m : Nat, m ≤ k ∧ i = .int .i64 m ∧ Hid ((l.take m).any (fun z => z.name == y.name) = false) ∧ Hid (Below w2.heap.size w2 W)) (fun i _ => k - (intOf i).toNat)
      case atStart => exact ⟨0, Nat.zero_le _, rfl, rfl, Below.refl _ _⟩
      case round =>
        obtain ⟨m, hm, rfl, hnone, hbel3⟩ := hrel
        by_cases hmk : m < k
        · have hlm : m < l.length := by rw [← unhide HN]; omega
          obtain ⟨b', o', eb, hat⟩ := ((unhide HV).below (chain (unhide B2) (unhide hbel3))).at hlm
          obtain ⟨rfl, rfl⟩ : b = b' ∧ o = o' := by injection eb with eb; injection eb with e1 e2 _; exact ⟨e1, e2⟩
          have hnx := hide (any_next6 (p := fun z : VType => z.name == y.name) l m hlm)
          have hmem : Hid (l[m] ∈ l.take k) := List.mem_take_iff_getElem.2 ⟨m, by omega, rfl⟩
          obtain ⟨x, hx⟩ : ∃ x, x = l[m] := ⟨_, rfl⟩
          rw [← hx] at hat hnx hmem
          obtain ⟨q, hq⟩ : ∃ q, q = (x.name == y.name) := ⟨_, rfl⟩
          rw [← hq] at hnx
          have hyes : Hid (q = true → (l.take k).any (fun z => z.name == y.name) = true) := fun h => List.any_eq_true.2 ⟨x, unhide hmem, hq.symm.trans h⟩
          have hqq := (unhide HQ x).trans hq.symm
          clear hq hx hlm eb hmem
          have i0 : (0 : Int) ≤ (m : Int) := by omega
          have i1 : (m : Int) < (n : Int) := by omega
          have i2 : (0 : Int) ≤ (k : Int) := by omega
          have i3 : (k : Int) < (n : Int) := by omega
          have g1 := cell_kept (unhide hbel3) (unhide H0)
          obtain ⟨⟨g0, _⟩, _⟩ := typ_at.1 hat
          rw [show typK.size = 7 from rfl] at g0
          obtain ⟨X, hX⟩ : ∃ X, X = bytesT x.name := ⟨_, rfl⟩
          rw [← hX] at g0 hqq
          have hS := And.intro (show Hid (Below wr.heap.size wr wr) from Below.refl _ _) (And.intro g0 g1)
          clear g0 g1 hX hat
          go_wp2_with fail
          go_region_held3 (fun W => Hid (Below wr.heap.size wr W) ∧ W.cell? ⟨b, o + m * 7, none⟩ = some (.string X) ∧ W.cell? ⟨b, o + k * 7, none⟩ = some (.string Y0))
            (first | (with_reducible exact hS) | (with_reducible assumption) | (with_reducible refine c2_drew ?_; with_reducible assumption))
            (fail)
          rename_i hH
          have B6 := hide (chain (unhide hbel3) (unhide hH.1))
          clear hH hS
          cases q
          · have hn2 : Hid ((l.take (m + 1)).any (fun z => z.name == y.name) = false) := by show _ = _; rw [unhide hnx, unhide hnone]; rfl
            go_wp2_with fail
            go_roundw
            case rel => exact ⟨m + 1, by omega, by go_num, hn2, B6⟩
            case measure => simp [intOf]; omega
          · have hfin : Hid (R = 6) := unhide hst2 (unhide hyes rfl)
            go_wp2_with fail
            go_ret
            exact ⟨ret_int (unhide hfin).symm, chain (unhide B2) (unhide B6)⟩
        · obtain rfl : m = k := by omega
          have hnx : Hid (R = typesF (l.take (m + 1)) (l.drop (m + 1))) := unhide hst3 (unhide hnone)
          have B6 := hide (chain (unhide B2) (unhide hbel3))
          go_wp2_with fail
          go_roundw
          case rel => exact ⟨m + 1, by omega, by go_num, hnx, B6⟩
          case measure => simp [intOf]; omega
    · obtain rfl : k = n := by omega
      have hfin : Hid (R = 0) := by
        show _ = _
        rw [unhide hlab, List.drop_eq_nil_of_le (by rw [← unhide HN]; exact Nat.le_refl _)]; rfl
      go_wp2_with fail
      go_ret
      exact ⟨ret_int (unhide hfin).symm, unhide hbel⟩
end Go.Proofs.YthjcmcnhidgcjaaGreatDoor
