/- Layer 6: the document's offerings. -/
import Derived.Test.YthjcmcnhidgcjaaGreatDoorCeAG
import Derived.Deep.DeepCutAuto
import Derived.Deep.CutRange
namespace Go.Proofs.YthjcmcnhidgcjaaGreatDoor
open Go.RowKit Suf Val

theorem takeH6 {P : Program} {md : Region.Mode} {ops : Array Oper} {Q : Exit → Act → World → Prop} {S : World → Prop} {i d : Nat} {oi : Oper} {v : Value} {fuel : Nat} {listed : Array Bool} {a : Act} {w : World} (hi : ops[i]? = some oi) (hd : oi.dst = some d)
    (hs : Region.noSelect ops = true) (hf : Region.free md ops listed i = true) (hr : (Region.ready md ops listed).contains i = true)
    (hQ : ∀ c a w, Q (.panic c) (a.put (some d) v) w → Q (.panic c) a w) (hy : YieldsIf P ops S oi v a) (hS : S w)
    (h : wpAnyH P md ops Q S fuel (listed.setIfInBounds i true) (a.put (some d) v) w) : wpAnyH P md ops Q S (fuel + 1) listed a w := by
  rw [← hd] at hQ h
  exact wpAnyH_take hi hs hf hr hQ hy hS h
theorem c4_drew6 {V W : World} {p0 p1 p2 p3 : Addr} {v0 v1 v2 v3 : Value} (h : Hid (Below V.heap.size V W) ∧ W.cell? p0 = some v0 ∧ W.cell? p1 = some v1 ∧ W.cell? p2 = some v2 ∧ W.cell? p3 = some v3) : Hid (Below V.heap.size V W.drew) ∧ W.drew.cell? p0 = some v0 ∧ W.drew.cell? p1 = some v1 ∧ W.drew.cell? p2 = some v2 ∧ W.drew.cell? p3 = some v3 :=
  ⟨(unhide h.1).drew, h.2⟩
set_option maxRecDepth 100000 in
set_option maxHeartbeats 16000000 in
theorem rofg6_any (v : Value) (l : List VOfg) (w : World) (hv : Lst ofgK w v l) :
    Calls Tryz.prog 41 #[v] w fun e w' => e = .returned (.int .i64 (ofgR l)) ∧ Below w.heap.size w w' := by
  have HV := hide hv
  have hlen := hv.len
  obtain ⟨a, c, rfl⟩ := hv.val
  clear hv
  obtain ⟨n, hn⟩ : ∃ n, n = l.length := ⟨_, rfl⟩
  rw [← hn] at HV hlen ⊢
  have HN := hide hn
  clear hn
  obtain ⟨R, hR⟩ : ∃ R, R = ofgR l := ⟨_, rfl⟩
  rw [← hR]
  have HR := hide hR
  clear hR
  by_cases h4 : 6 < n
  · have hfin : Hid (R = 3) := by show _ = _; rw [unhide HR]; unfold ofgR; rw [if_pos (by rw [← unhide HN]; exact h4)]
    go_enter Tryz.func41, Tryz.ntmps41
    go_wp2_with fail
    go_ret
    exact ⟨ret_int (unhide hfin).symm, Below.refl _ _⟩
  have HF : Hid (R = ofgF (l.take 0) (l.drop 0)) := by show _ = _; rw [unhide HR]; unfold ofgR; rw [if_neg (by rw [← unhide HN]; exact h4)]; rfl
  go_enter Tryz.func41, Tryz.ntmps41
  go_wp2_with fail
  go_loopw [3] (fun i W => ∃ k : Nat, k ≤ n ∧ i = .int .i64 k ∧ Hid (R = ofgF (l.take k) (l.drop k)) ∧ Hid (Below w.heap.size w W)) (fun i _ => n - (intOf i).toNat)
  case atStart => exact ⟨0, Nat.zero_le _, rfl, HF, Below.refl _ _⟩
  case round =>
    obtain ⟨k, hk, rfl, hlab, hbel⟩ := hrel
    by_cases hlt : k < n
    · have hlk : k < l.length := by rw [← unhide HN]; exact hlt
      obtain ⟨b, o, rfl, hat0⟩ := ((unhide HV).below (unhide hbel)).at hlk
      obtain ⟨⟨h0, hs0⟩, ⟨h1, hs1⟩, h2, h3⟩ := ofg_at.1 hat0
      rw [show ofgK.size = 4 from rfl] at h0 h1 h2 h3
      clear hat0
      have hst := hide (ofg_step hlk)
      obtain ⟨y, hy⟩ : ∃ y, y = l[k] := ⟨_, rfl⟩
      rw [← hy] at h0 h1 h2 h3 hs0 hs1 hst
      obtain ⟨q0, hq0⟩ : ∃ q, q = nameB y.zone := ⟨_, rfl⟩
      obtain ⟨q1, hq1⟩ : ∃ q, q = nameB y.kind := ⟨_, rfl⟩
      obtain ⟨z2, hz2⟩ : ∃ z, z = chkN y.price := ⟨_, rfl⟩
      have hnm := hide (fun W => rname_any (bytesT y.zone) W (short_max hs0))
      have hnm2 := hide (fun W => rname_any (bytesT y.kind) W (short_max hs1))
      have hpr : Hid (∀ W, Calls Tryz.prog 66 #[.int .i64 y.price] W fun e w' => e = .returned (.int .i64 z2) ∧ w' = W) := by rw [hz2]; exact fun W => Am.rcheck_any _ W
      rw [bytesT_list, ← hq0] at hnm
      rw [bytesT_list, ← hq1] at hnm2
      rw [← hq0, ← hq1, ← hz2] at hst
      clear hs0 hs1 hy hlk hq0 hq1 hz2
      have HQ0 := hide (fun x : VOfg => txt_beq6 x.zone y.zone)
      have HQ1 := hide (fun x : VOfg => txt_beq6 x.kind y.kind)
      obtain ⟨Y0, hY0⟩ : ∃ X, X = bytesT y.zone := ⟨_, rfl⟩
      obtain ⟨Y1, hY1⟩ : ∃ X, X = bytesT y.kind := ⟨_, rfl⟩
      rw [← hY0] at h0 hnm HQ0
      rw [← hY1] at h1 hnm2 HQ1
      clear hY0 hY1
      go_wp2_with fail
      refine (unhide hnm _).mono ?_
      rintro e w1 ⟨rfl, hw1⟩
      obtain rfl := hw1.symm
      clear hw1
      go_wp2_with fail
      refine (unhide hnm2 _).mono ?_
      rintro e w1 ⟨rfl, hw1⟩
      obtain rfl := hw1.symm
      clear hw1
      cases q0
      · have hfin : Hid (R = 7) := by show _ = _; rw [unhide hlab, unhide hst]; simp
        go_wp2_with fail
        go_ret
        exact ⟨ret_int (unhide hfin).symm, unhide hbel⟩
      cases q1
      · have hfin : Hid (R = 7) := by show _ = _; rw [unhide hlab, unhide hst]; simp
        go_wp2_with fail
        go_ret
        exact ⟨ret_int (unhide hfin).symm, unhide hbel⟩
      go_wp2_with fail
      refine (unhide hpr _).mono ?_
      rintro e w1 ⟨rfl, hw1⟩
      obtain rfl := hw1.symm
      clear hw1
      by_cases hz : z2 = 0
      case neg =>
        have hb := nz hz
        have hfin : Hid (R = z2) := by show _ = _; rw [unhide hlab, unhide hst]; simp [hz]
        clear hz
        go_wp2_with fail
        go_ret
        exact ⟨ret_int (unhide hfin).symm, unhide hbel⟩
      subst hz
      have H0 := hide (And.intro h0 h1)
      have hst2 : Hid ((l.take k).any (fun z => sameZK z y) = true → R = 6) := fun h => by
        rw [unhide hlab, unhide hst, h]; simp
      have hst3 : Hid ((l.take k).any (fun z => sameZK z y) = false → R = ofgF (l.take (k + 1)) (l.drop (k + 1))) := fun h => by
        rw [unhide hlab, unhide hst, h]; simp
      clear hst hlab h0 h1 h2 h3 hnm hnm2 hpr
      obtain ⟨w2, hw2⟩ : ∃ W, W = wr := ⟨_, rfl⟩
      rw [← hw2] at hbel H0 ⊢
      have B2 := hbel
      clear hw2 hbel
      go_wp2_with fail
      go_loopw [7] (fun i W => ∃ m : Nat, m ≤ k ∧ i = .int .i64 m ∧ Hid ((l.take m).any (fun z => sameZK z y) = false) ∧ Hid (Below w2.heap.size w2 W)) (fun i _ => k - (intOf i).toNat)
      case atStart => exact ⟨0, Nat.zero_le _, rfl, rfl, Below.refl _ _⟩
      case round =>
        obtain ⟨m, hm, rfl, hnone, hbel3⟩ := hrel
        by_cases hmk : m < k
        · have hlm : m < l.length := by rw [← unhide HN]; omega
          obtain ⟨b', o', eb, hat⟩ := ((unhide HV).below (chain (unhide B2) (unhide hbel3))).at hlm
          obtain ⟨rfl, rfl⟩ : b = b' ∧ o = o' := by injection eb with eb; injection eb with e1 e2 _; exact ⟨e1, e2⟩
          have hnx := hide (any_next6 (p := fun z : VOfg => sameZK z y) l m hlm)
          have hmem : Hid (l[m] ∈ l.take k) := List.mem_take_iff_getElem.2 ⟨m, by omega, rfl⟩
          obtain ⟨x, hx⟩ : ∃ x, x = l[m] := ⟨_, rfl⟩
          rw [← hx] at hat hnx hmem
          obtain ⟨q, hq⟩ : ∃ q, q = (x.zone == y.zone) := ⟨_, rfl⟩
          obtain ⟨q', hq'⟩ : ∃ q, q = (x.kind == y.kind) := ⟨_, rfl⟩
          have hzk : sameZK x y = (q && q') := by unfold sameZK; rw [hq, hq']
          have hyes : Hid ((q && q') = true → (l.take k).any (fun z => sameZK z y) = true) := fun h => List.any_eq_true.2 ⟨x, unhide hmem, hzk.trans h⟩
          simp only [hzk] at hnx
          have hqq := (unhide HQ0 x).trans hq.symm
          have hqq' := (unhide HQ1 x).trans hq'.symm
          clear hq hq' hx hlm eb hmem hzk
          have i0 : (0 : Int) ≤ (m : Int) := by omega
          have i1 : (m : Int) < (n : Int) := by omega
          have i2 : (0 : Int) ≤ (k : Int) := by omega
          have i3 : (k : Int) < (n : Int) := by omega
          have g2 := cell_kept (unhide hbel3) (unhide H0).1
          have g3 := cell_kept (unhide hbel3) (unhide H0).2
          obtain ⟨⟨g0, _⟩, ⟨g1, _⟩, _, _⟩ := ofg_at.1 hat
          rw [show ofgK.size = 4 from rfl] at g0 g1
          obtain ⟨X0, hX0⟩ : ∃ X, X = bytesT x.zone := ⟨_, rfl⟩
          obtain ⟨X1, hX1⟩ : ∃ X, X = bytesT x.kind := ⟨_, rfl⟩
          rw [← hX0] at g0 hqq
          rw [← hX1] at g1 hqq'
          have hS : Hid (Below wr.heap.size wr wr) ∧ wr.cell? ⟨b, o + m * 4, none⟩ = some (.string X0) ∧ wr.cell? ⟨b, o + m * 4 + 1, none⟩ = some (.string X1) ∧ wr.cell? ⟨b, o + k * 4, none⟩ = some (.string Y0) ∧ wr.cell? ⟨b, o + k * 4 + 1, none⟩ = some (.string Y1) := ⟨Below.refl _ _, g0, g1, g2, g3⟩
          clear g0 g1 g2 g3 hX0 hX1 hat
          cases q
          · have hn2 : Hid ((l.take (m + 1)).any (fun z => sameZK z y) = false) := by show _ = _; rw [unhide hnx, unhide hnone]; rfl
            go_wp2_with fail
            refine wp_region_noPanic ?_
            refine wp_region_held_drew (S := fun W => Hid (Below wr.heap.size wr W) ∧ W.cell? ⟨b, o + m * 4, none⟩ = some (.string X0) ∧ W.cell? ⟨b, o + m * 4 + 1, none⟩ = some (.string X1) ∧ W.cell? ⟨b, o + k * 4, none⟩ = some (.string Y0) ∧ W.cell? ⟨b, o + k * 4 + 1, none⟩ = some (.string Y1)) (by kernel_rfl) (c4_drew6 hS) (fun hHeld => ?_)
            refine takeH6 (i := 0) (d := 49) (v := ?_) rfl rfl (by kernel_rfl) (by kernel_rfl) (by kernel_rfl) (fun _ _ _ h => h) (Or.inl ⟨by rfl, ?_⟩) (by assumption) ?_
            rotate_left
            · (intro W hSW; (try dsimp only at hSW); go_simp; try (with_reducible rfl))
            simp only [Act.put, List.setIfInBounds_toArray, List.set_cons_zero, List.set_cons_succ]
            refine takeH6 (i := 1) (d := 50) (v := ?_) rfl rfl (by kernel_rfl) (by kernel_rfl) (by kernel_rfl) (fun _ _ _ h => h) (Or.inl ⟨by rfl, ?_⟩) (by assumption) ?_
            rotate_left
            · (intro W hSW; (try dsimp only at hSW); go_simp; try (with_reducible rfl))
            simp only [Act.put, List.setIfInBounds_toArray, List.set_cons_zero, List.set_cons_succ]
            refine takeH6 (i := 2) (d := 51) (v := ?_) rfl rfl (by kernel_rfl) (by kernel_rfl) (by kernel_rfl) (fun _ _ _ h => h) (Or.inl ⟨by rfl, ?_⟩) (by assumption) ?_
            rotate_left
            · (intro W hSW; (try dsimp only at hSW); go_simp; try (with_reducible rfl))
            simp only [Act.put, List.setIfInBounds_toArray, List.set_cons_zero, List.set_cons_succ]
            refine takeH6 (i := 3) (d := 52) (v := ?_) rfl rfl (by kernel_rfl) (by kernel_rfl) (by kernel_rfl) (fun _ _ _ h => h) (Or.inl ⟨by rfl, ?_⟩) (by assumption) ?_
            rotate_left
            · (intro W hSW; (try dsimp only at hSW); go_simp; try (with_reducible rfl))
            simp only [Act.put, List.setIfInBounds_toArray, List.set_cons_zero, List.set_cons_succ]
            refine takeH6 (i := 4) (d := 53) (v := ?_) rfl rfl (by kernel_rfl) (by kernel_rfl) (by kernel_rfl) (fun _ _ _ h => h) (Or.inl ⟨by rfl, ?_⟩) (by assumption) ?_
            rotate_left
            · (intro W hSW; (try dsimp only at hSW); go_simp; try (with_reducible rfl))
            simp only [Act.put, List.setIfInBounds_toArray, List.set_cons_zero, List.set_cons_succ]
            refine takeH6 (i := 5) (d := 54) (v := ?_) rfl rfl (by kernel_rfl) (by kernel_rfl) (by kernel_rfl) (fun _ _ _ h => h) (Or.inl ⟨by rfl, ?_⟩) (by assumption) ?_
            rotate_left
            · (intro W hSW; (try dsimp only at hSW); go_simp; try (with_reducible rfl))
            simp only [Act.put, List.setIfInBounds_toArray, List.set_cons_zero, List.set_cons_succ]
            refine takeH6 (i := 6) (d := 55) (v := ?_) rfl rfl (by kernel_rfl) (by kernel_rfl) (by kernel_rfl) (fun _ _ _ h => h) (Or.inl ⟨by rfl, ?_⟩) (by assumption) ?_
            rotate_left
            · (intro W hSW; (try dsimp only at hSW); go_simp; try (with_reducible rfl))
            simp only [Act.put, List.setIfInBounds_toArray, List.set_cons_zero, List.set_cons_succ]
            refine takeH6 (i := 7) (d := 56) (v := ?_) rfl rfl (by kernel_rfl) (by kernel_rfl) (by kernel_rfl) (fun _ _ _ h => h) (Or.inl ⟨by rfl, ?_⟩) (by assumption) ?_
            rotate_left
            · (intro W hSW; (try dsimp only at hSW); go_simp; try (with_reducible rfl))
            simp only [Act.put, List.setIfInBounds_toArray, List.set_cons_zero, List.set_cons_succ]
            refine takeH6 (i := 8) (d := 57) (v := ?_) rfl rfl (by kernel_rfl) (by kernel_rfl) (by kernel_rfl) (fun _ _ _ h => h) (Or.inl ⟨by rfl, ?_⟩) (by assumption) ?_
            rotate_left
            · (intro W hSW; (try dsimp only at hSW); go_simp; try (with_reducible rfl))
            simp only [Act.put, List.setIfInBounds_toArray, List.set_cons_zero, List.set_cons_succ]
            refine takeH6 (i := 9) (d := 58) (v := ?_) rfl rfl (by kernel_rfl) (by kernel_rfl) (by kernel_rfl) (fun _ _ _ h => h) (Or.inl ⟨by rfl, ?_⟩) (by assumption) ?_
            rotate_left
            · (intro W hSW; (try dsimp only at hSW); go_simp; try (with_reducible rfl))
            simp only [Act.put, List.setIfInBounds_toArray, List.set_cons_zero, List.set_cons_succ]
            refine takeH6 (i := 10) (d := 59) (v := ?_) rfl rfl (by kernel_rfl) (by kernel_rfl) (by kernel_rfl) (fun _ _ _ h => h) (Or.inl ⟨by rfl, ?_⟩) (by assumption) ?_
            rotate_left
            · (intro W hSW; (try dsimp only at hSW); go_simp; try (with_reducible rfl))
            simp only [Act.put, List.setIfInBounds_toArray, List.set_cons_zero, List.set_cons_succ]
            refine takeH6 (i := 11) (d := 60) (v := ?_) rfl rfl (by kernel_rfl) (by kernel_rfl) (by kernel_rfl) (fun _ _ _ h => h) (Or.inl ⟨by rfl, ?_⟩) (by assumption) ?_
            rotate_left
            · (intro W hSW; (try dsimp only at hSW); go_simp; try (with_reducible rfl))
            simp only [Act.put, List.setIfInBounds_toArray, List.set_cons_zero, List.set_cons_succ]
            refine takeH6 (i := 12) (d := 61) (v := undef) rfl rfl (by kernel_rfl) (by kernel_rfl) (by kernel_rfl) (fun _ _ _ h => h) (Or.inr ⟨by rfl, rfl⟩) (by assumption) ?_
            simp only [Act.put, List.setIfInBounds_toArray, List.set_cons_zero, List.set_cons_succ]
            refine takeH6 (i := 13) (d := 62) (v := undef) rfl rfl (by kernel_rfl) (by kernel_rfl) (by kernel_rfl) (fun _ _ _ h => h) (Or.inr ⟨by rfl, rfl⟩) (by assumption) ?_
            simp only [Act.put, List.setIfInBounds_toArray, List.set_cons_zero, List.set_cons_succ]
            refine takeH6 (i := 14) (d := 63) (v := undef) rfl rfl (by kernel_rfl) (by kernel_rfl) (by kernel_rfl) (fun _ _ _ h => h) (Or.inr ⟨by rfl, rfl⟩) (by assumption) ?_
            simp only [Act.put, List.setIfInBounds_toArray, List.set_cons_zero, List.set_cons_succ]
            refine takeH6 (i := 15) (d := 64) (v := undef) rfl rfl (by kernel_rfl) (by kernel_rfl) (by kernel_rfl) (fun _ _ _ h => h) (Or.inr ⟨by rfl, rfl⟩) (by assumption) ?_
            simp only [Act.put, List.setIfInBounds_toArray, List.set_cons_zero, List.set_cons_succ]
            refine takeH6 (i := 16) (d := 65) (v := undef) rfl rfl (by kernel_rfl) (by kernel_rfl) (by kernel_rfl) (fun _ _ _ h => h) (Or.inr ⟨by rfl, rfl⟩) (by assumption) ?_
            simp only [Act.put, List.setIfInBounds_toArray, List.set_cons_zero, List.set_cons_succ]
            refine takeH6 (i := 17) (d := 66) (v := undef) rfl rfl (by kernel_rfl) (by kernel_rfl) (by kernel_rfl) (fun _ _ _ h => h) (Or.inr ⟨by rfl, rfl⟩) (by assumption) ?_
            simp only [Act.put, List.setIfInBounds_toArray, List.set_cons_zero, List.set_cons_succ]
            refine takeH6 (i := 18) (d := 67) (v := undef) rfl rfl (by kernel_rfl) (by kernel_rfl) (by kernel_rfl) (fun _ _ _ h => h) (Or.inr ⟨by rfl, rfl⟩) (by assumption) ?_
            simp only [Act.put, List.setIfInBounds_toArray, List.set_cons_zero, List.set_cons_succ]
            refine takeH6 (i := 19) (d := 68) (v := undef) rfl rfl (by kernel_rfl) (by kernel_rfl) (by kernel_rfl) (fun _ _ _ h => h) (Or.inr ⟨by rfl, rfl⟩) (by assumption) ?_
            simp only [Act.put, List.setIfInBounds_toArray, List.set_cons_zero, List.set_cons_succ]
            refine takeH6 (i := 20) (d := 69) (v := undef) rfl rfl (by kernel_rfl) (by kernel_rfl) (by kernel_rfl) (fun _ _ _ h => h) (Or.inr ⟨by rfl, rfl⟩) (by assumption) ?_
            simp only [Act.put, List.setIfInBounds_toArray, List.set_cons_zero, List.set_cons_succ]
            refine takeH6 (i := 21) (d := 70) (v := undef) rfl rfl (by kernel_rfl) (by kernel_rfl) (by kernel_rfl) (fun _ _ _ h => h) (Or.inr ⟨by rfl, rfl⟩) (by assumption) ?_
            simp only [Act.put, List.setIfInBounds_toArray, List.set_cons_zero, List.set_cons_succ]
            refine takeH6 (i := 22) (d := 71) (v := undef) rfl rfl (by kernel_rfl) (by kernel_rfl) (by kernel_rfl) (fun _ _ _ h => h) (Or.inr ⟨by rfl, rfl⟩) (by assumption) ?_
            simp only [Act.put, List.setIfInBounds_toArray, List.set_cons_zero, List.set_cons_succ]
            refine takeH6 (i := 23) (d := 72) (v := ?_) rfl rfl (by kernel_rfl) (by kernel_rfl) (by kernel_rfl) (fun _ _ _ h => h) (Or.inl ⟨by rfl, ?_⟩) (by assumption) ?_
            rotate_left
            · (intro W hSW; (try dsimp only at hSW); go_simp; try (with_reducible rfl))
            simp only [Act.put, List.setIfInBounds_toArray, List.set_cons_zero, List.set_cons_succ]
            refine wpAnyH_done (by kernel_rfl) ?_ _
            refine NoPanic.normal ?_
            have B6 := hide (chain (unhide hbel3) (unhide hHeld.1))
            clear hHeld hS
            go_wp2_with fail
            go_roundw
            case rel => exact ⟨m + 1, by omega, by go_num, hn2, B6⟩
            case measure => simp [intOf]; omega
          · go_wp2_with fail
            go_region_held3 (fun W => Hid (Below wr.heap.size wr W) ∧ W.cell? ⟨b, o + m * 4, none⟩ = some (.string X0) ∧ W.cell? ⟨b, o + m * 4 + 1, none⟩ = some (.string X1) ∧ W.cell? ⟨b, o + k * 4, none⟩ = some (.string Y0) ∧ W.cell? ⟨b, o + k * 4 + 1, none⟩ = some (.string Y1))
              (first | (with_reducible exact hS) | (with_reducible assumption) | (with_reducible refine c4_drew6 ?_; with_reducible assumption))
              (fail)
            rename_i hH
            have B6 := hide (chain (unhide hbel3) (unhide hH.1))
            clear hH hS
            cases q'
            · have hn2 : Hid ((l.take (m + 1)).any (fun z => sameZK z y) = false) := by show _ = _; rw [unhide hnx, unhide hnone]; rfl
              go_wp2_with fail
              go_roundw
              case rel => exact ⟨m + 1, by omega, by go_num, hn2, B6⟩
              case measure => simp [intOf]; omega
            · have hfin : Hid (R = 6) := unhide hst2 (unhide hyes rfl)
              go_wp2_with fail
              go_ret
              exact ⟨ret_int (unhide hfin).symm, chain (unhide B2) (unhide B6)⟩
        · obtain rfl : m = k := by omega
          have hnx : Hid (R = ofgF (l.take (m + 1)) (l.drop (m + 1))) := unhide hst3 (unhide hnone)
          have B6 := hide (chain (unhide B2) (unhide hbel3))
          go_wp2_with fail
          go_roundw
          case rel => exact ⟨m + 1, by omega, by go_num, hnx, B6⟩
          case measure => simp [intOf]; omega
    · obtain rfl : k = n := by omega
      have hfin : Hid (R = 0) := by
        show _ = _
        rw [unhide hlab, List.drop_eq_nil_of_le (by rw [← unhide HN]; exact Nat.le_refl _)]; rfl
      go_wp2_with fail
      go_ret
      exact ⟨ret_int (unhide hfin).symm, unhide hbel⟩
end Go.Proofs.YthjcmcnhidgcjaaGreatDoor
