/- Layer 7: the document's IsCool and Check; Next, the program's and the document's. -/
import Derived.Test.YtcpgodkgdceocaaCoE
namespace Go.Proofs.Ytcpgodkgdceocaa
open Go.RowKit Suf Val

theorem c7_drew7 {V W : World} {p0 p1 p2 p3 p4 p5 p6 : Addr} {v0 v1 v2 v3 v4 v5 v6 : Value} (h : Hid (Below V.heap.size V W) ∧ W.cell? p0 = some v0 ∧ W.cell? p1 = some v1 ∧ W.cell? p2 = some v2 ∧ W.cell? p3 = some v3 ∧ W.cell? p4 = some v4 ∧ W.cell? p5 = some v5 ∧ W.cell? p6 = some v6) : Hid (Below V.heap.size V W.drew) ∧ W.drew.cell? p0 = some v0 ∧ W.drew.cell? p1 = some v1 ∧ W.drew.cell? p2 = some v2 ∧ W.drew.cell? p3 = some v3 ∧ W.drew.cell? p4 = some v4 ∧ W.drew.cell? p5 = some v5 ∧ W.drew.cell? p6 = some v6 := ⟨(unhide h.1).drew, h.2⟩
set_option maxRecDepth 100000 in
set_option maxHeartbeats 8000000 in
theorem risCool_any (v : Value) (l : List VCool) (y : VOff) (now : Int) (w : World) (hv : Lst coolK w v l) :
    Calls Try.prog 22 #[v, offA y, .int .i64 now] w fun e w' => e = .returned (.bool (isCoolR l y now)) ∧ Below w.heap.size w w' := by
  rw [isCool_any]
  have HV := hide hv
  have hlen := hv.len
  obtain ⟨a, c, rfl⟩ := hv.val
  clear hv
  obtain ⟨n, hn⟩ : ∃ n, n = l.length := ⟨_, rfl⟩
  rw [← hn] at HV hlen ⊢
  have HN := hide hn
  clear hn
  obtain ⟨R, hR⟩ : ∃ R, R = l.any (isC y now) := ⟨_, rfl⟩
  rw [← hR]
  have HR := hide hR
  clear hR
  obtain ⟨Y0, hY0⟩ : ∃ X, X = bytesT y.1 := ⟨_, rfl⟩
  obtain ⟨Y1, hY1⟩ : ∃ X, X = bytesT y.2.1 := ⟨_, rfl⟩
  obtain ⟨Y2, hY2⟩ : ∃ X, X = bytesT y.2.2 := ⟨_, rfl⟩
  have HOB := hide (fun x : VOff => off_beq x y)
  unfold offA
  rw [← hY0, ← hY1, ← hY2] at HOB ⊢
  obtain ⟨W0, hW0⟩ : ∃ W, W = w.alloc (.cells #[.string Y0, .string Y1, .string Y2] 23) := ⟨_, rfl⟩
  have B0 : Hid (Below w.heap.size w W0) := by rw [hW0]; exact boxb _
  have O0 : Hid (W0.cell? ⟨w.heap.size, 0, none⟩ = some (.string Y0) ∧ W0.cell? ⟨w.heap.size, 1, none⟩ = some (.string Y1) ∧ W0.cell? ⟨w.heap.size, 2, none⟩ = some (.string Y2)) := by rw [hW0]; exact ⟨by simp [go_sem], by simp [go_sem], by simp [go_sem]⟩
  have GW := hide hW0
  clear hW0 hY0 hY1 hY2
  go_enter Try.func22, Try.ntmps22
  go_wp2_with fail
  rw [← unhide GW]
  clear GW
  go_loopw [7] (fun i W => ∃ k : Nat, k ≤ n ∧ i = .int .i64 k ∧ Hid ((l.take k).any (isC y now) = false) ∧ Hid (Below w.heap.size w W) ∧ Hid (Below W0.heap.size W0 W)) (fun i _ => n - (intOf i).toNat)
  case atStart => exact ⟨0, Nat.zero_le _, rfl, rfl, B0, Below.refl _ _⟩
  case round =>
    obtain ⟨k, hk, rfl, hany, hbel, hbel0⟩ := hrel
    by_cases hlt : k < n
    · have hlk : k < l.length := by rw [← unhide HN]; exact hlt
      obtain ⟨b, o, rfl, hat⟩ := ((unhide HV).below (unhide hbel)).at hlk
      have hnx := hide (any_next6 (p := isC y now) l k hlk)
      have hmem := hide (List.getElem_mem hlk)
      obtain ⟨x, hx⟩ : ∃ x, x = l[k] := ⟨_, rfl⟩
      rw [← hx] at hat hnx hmem
      have hys : Hid (isC y now x = true → R = true) := fun h => by rw [unhide HR]; exact List.any_eq_true.2 ⟨x, unhide hmem, h⟩
      have hob := unhide HOB x.1
      obtain ⟨q, hq⟩ : ∃ q, q = (x.1 == y) := ⟨_, rfl⟩
      rw [← hq] at hob
      have hiq : isC y now x = (q && decide (now < x.2)) := by rw [hq]; rfl
      rw [hiq] at hnx hys
      obtain ⟨hs4, s3⟩ := cool_at.1 hat
      obtain ⟨⟨s0, _⟩, ⟨s1, _⟩, s2, _⟩ := off_at.1 hs4
      rw [show coolK.size = 4 from rfl] at s0 s1 s2 s3
      obtain ⟨X0, hX0⟩ : ∃ X, X = bytesT x.1.1 := ⟨_, rfl⟩
      obtain ⟨X1, hX1⟩ : ∃ X, X = bytesT x.1.2.1 := ⟨_, rfl⟩
      obtain ⟨X2, hX2⟩ : ∃ X, X = bytesT x.1.2.2 := ⟨_, rfl⟩
      obtain ⟨X3, hX3⟩ : ∃ X, X = x.2 := ⟨_, rfl⟩
      rw [← hX0, ← hX1, ← hX2] at hob
      rw [← hX0] at s0
      rw [← hX1] at s1
      rw [← hX2] at s2
      rw [← hX3] at s3 hnx hys
      have qT : ∀ W, (binOp .eql 23 (.agg #[.string X0, .string X1, .string X2]) (.agg #[.string Y0, .string Y1, .string Y2])).run Try.prog W = .ok (.bool q) W := fun W => by rw [eqlOff, hob]
      have qG := offGuard
      clear hob hX0 hX1 hX2 hX3 hq hx hiq hmem hat hs4 hlk
      have y0 := cell_kept (unhide hbel0) (unhide O0).1
      have y1 := cell_kept (unhide hbel0) (unhide O0).2.1
      have y2 := cell_kept (unhide hbel0) (unhide O0).2.2
      have i0 : (0 : Int) ≤ (k : Int) := by omega
      have i1 : (k : Int) < (n : Int) := by omega
      have hS := And.intro (show Hid (Below wr.heap.size wr wr) from Below.refl _ _) (And.intro s0 (And.intro s1 (And.intro s2 (And.intro s3 (And.intro y0 (And.intro y1 y2))))))
      clear s0 s1 s2 s3 y0 y1 y2
      cases q
      · have hn2 : Hid ((l.take (k + 1)).any (isC y now) = false) := by show _ = _; rw [unhide hnx, unhide hany]; rfl
        go_wp2_with fail
        refine wp_region_noPanic ?_
        refine wp_region_held_drew (S := fun W => Hid (Below wr.heap.size wr W) ∧ W.cell? ⟨b, o + k * 4, none⟩ = some (.string X0) ∧ W.cell? ⟨b, o + k * 4 + 1, none⟩ = some (.string X1) ∧ W.cell? ⟨b, o + k * 4 + 2, none⟩ = some (.string X2) ∧ W.cell? ⟨b, o + k * 4 + 3, none⟩ = some (.int .i64 X3) ∧ W.cell? ⟨w.heap.size, 0, none⟩ = some (.string Y0) ∧ W.cell? ⟨w.heap.size, 1, none⟩ = some (.string Y1) ∧ W.cell? ⟨w.heap.size, 2, none⟩ = some (.string Y2)) (by kernel_rfl) (c7_drew7 hS) (fun hHeld => ?_)
        refine takeH6 (i := 0) (d := 14) (v := ?_) rfl rfl (by kernel_rfl) (by kernel_rfl) (by kernel_rfl) (fun _ _ _ h => h) (Or.inl ⟨by rfl, ?_⟩) (by assumption) ?_
        rotate_left
        · (intro W hSW; (try dsimp only at hSW); go_simp; try (with_reducible rfl))
        simp only [Act.put, List.setIfInBounds_toArray, List.set_cons_zero, List.set_cons_succ]
        refine takeH6 (i := 1) (d := 15) (v := ?_) rfl rfl (by kernel_rfl) (by kernel_rfl) (by kernel_rfl) (fun _ _ _ h => h) (Or.inl ⟨by rfl, ?_⟩) (by assumption) ?_
        rotate_left
        · (intro W hSW; (try dsimp only at hSW); go_simp; try (with_reducible rfl))
        simp only [Act.put, List.setIfInBounds_toArray, List.set_cons_zero, List.set_cons_succ]
        refine takeH6 (i := 2) (d := 16) (v := ?_) rfl rfl (by kernel_rfl) (by kernel_rfl) (by kernel_rfl) (fun _ _ _ h => h) (Or.inl ⟨by rfl, ?_⟩) (by assumption) ?_
        rotate_left
        · (intro W hSW; (try dsimp only at hSW); go_simp; try (with_reducible rfl))
        simp only [Act.put, List.setIfInBounds_toArray, List.set_cons_zero, List.set_cons_succ]
        refine takeH6 (i := 3) (d := 17) (v := ?_) rfl rfl (by kernel_rfl) (by kernel_rfl) (by kernel_rfl) (fun _ _ _ h => h) (Or.inl ⟨by rfl, ?_⟩) (by assumption) ?_
        rotate_left
        · (intro W hSW; (try dsimp only at hSW); go_simp; try (with_reducible rfl))
        simp only [Act.put, List.setIfInBounds_toArray, List.set_cons_zero, List.set_cons_succ]
        refine takeH6 (i := 4) (d := 18) (v := ?_) rfl rfl (by kernel_rfl) (by kernel_rfl) (by kernel_rfl) (fun _ _ _ h => h) (Or.inl ⟨by rfl, ?_⟩) (by assumption) ?_
        rotate_left
        · (intro W hSW; (try dsimp only at hSW); go_simp; try (with_reducible rfl))
        simp only [Act.put, List.setIfInBounds_toArray, List.set_cons_zero, List.set_cons_succ]
        refine takeH6 (i := 5) (d := 19) (v := ?_) rfl rfl (by kernel_rfl) (by kernel_rfl) (by kernel_rfl) (fun _ _ _ h => h) (Or.inl ⟨by rfl, ?_⟩) (by assumption) ?_
        rotate_left
        · (intro W hSW; (try dsimp only at hSW); go_simp; try (with_reducible rfl))
        simp only [Act.put, List.setIfInBounds_toArray, List.set_cons_zero, List.set_cons_succ]
        refine takeH6 (i := 6) (d := 20) (v := ?_) rfl rfl (by kernel_rfl) (by kernel_rfl) (by kernel_rfl) (fun _ _ _ h => h) (Or.inl ⟨by rfl, ?_⟩) (by assumption) ?_
        rotate_left
        · (intro W hSW; (try dsimp only at hSW); go_simp; try (with_reducible rfl))
        simp only [Act.put, List.setIfInBounds_toArray, List.set_cons_zero, List.set_cons_succ]
        refine takeH6 (i := 7) (d := 21) (v := ?_) rfl rfl (by kernel_rfl) (by kernel_rfl) (by kernel_rfl) (fun _ _ _ h => h) (Or.inl ⟨by rfl, ?_⟩) (by assumption) ?_
        rotate_left
        · (intro W hSW; (try dsimp only at hSW); go_simp; try (with_reducible rfl))
        simp only [Act.put, List.setIfInBounds_toArray, List.set_cons_zero, List.set_cons_succ]
        refine takeH6 (i := 8) (d := 22) (v := undef) rfl rfl (by kernel_rfl) (by kernel_rfl) (by kernel_rfl) (fun _ _ _ h => h) (Or.inr ⟨by rfl, rfl⟩) (by assumption) ?_
        simp only [Act.put, List.setIfInBounds_toArray, List.set_cons_zero, List.set_cons_succ]
        refine takeH6 (i := 9) (d := 23) (v := undef) rfl rfl (by kernel_rfl) (by kernel_rfl) (by kernel_rfl) (fun _ _ _ h => h) (Or.inr ⟨by rfl, rfl⟩) (by assumption) ?_
        simp only [Act.put, List.setIfInBounds_toArray, List.set_cons_zero, List.set_cons_succ]
        refine takeH6 (i := 10) (d := 24) (v := undef) rfl rfl (by kernel_rfl) (by kernel_rfl) (by kernel_rfl) (fun _ _ _ h => h) (Or.inr ⟨by rfl, rfl⟩) (by assumption) ?_
        simp only [Act.put, List.setIfInBounds_toArray, List.set_cons_zero, List.set_cons_succ]
        refine takeH6 (i := 11) (d := 25) (v := undef) rfl rfl (by kernel_rfl) (by kernel_rfl) (by kernel_rfl) (fun _ _ _ h => h) (Or.inr ⟨by rfl, rfl⟩) (by assumption) ?_
        simp only [Act.put, List.setIfInBounds_toArray, List.set_cons_zero, List.set_cons_succ]
        refine takeH6 (i := 12) (d := 26) (v := undef) rfl rfl (by kernel_rfl) (by kernel_rfl) (by kernel_rfl) (fun _ _ _ h => h) (Or.inr ⟨by rfl, rfl⟩) (by assumption) ?_
        simp only [Act.put, List.setIfInBounds_toArray, List.set_cons_zero, List.set_cons_succ]
        refine takeH6 (i := 13) (d := 27) (v := undef) rfl rfl (by kernel_rfl) (by kernel_rfl) (by kernel_rfl) (fun _ _ _ h => h) (Or.inr ⟨by rfl, rfl⟩) (by assumption) ?_
        simp only [Act.put, List.setIfInBounds_toArray, List.set_cons_zero, List.set_cons_succ]
        refine takeH6 (i := 14) (d := 28) (v := undef) rfl rfl (by kernel_rfl) (by kernel_rfl) (by kernel_rfl) (fun _ _ _ h => h) (Or.inr ⟨by rfl, rfl⟩) (by assumption) ?_
        simp only [Act.put, List.setIfInBounds_toArray, List.set_cons_zero, List.set_cons_succ]
        refine takeH6 (i := 15) (d := 29) (v := ?_) rfl rfl (by kernel_rfl) (by kernel_rfl) (by kernel_rfl) (fun _ _ _ h => h) (Or.inl ⟨by rfl, ?_⟩) (by assumption) ?_
        rotate_left
        · (intro W hSW; (try dsimp only at hSW); go_simp; try (with_reducible rfl))
        simp only [Act.put, List.setIfInBounds_toArray, List.set_cons_zero, List.set_cons_succ]
        refine wpAnyH_done (by kernel_rfl) ?_ _
        refine NoPanic.normal ?_
        have B6 := hide (chain (unhide hbel) (unhide hHeld.1))
        have B7 := hide (chain (unhide hbel0) (unhide hHeld.1))
        clear hHeld hS qT qG
        go_wp2_with fail
        go_roundw
        case rel => exact ⟨k + 1, by omega, by go_num, hn2, B6, B7⟩
        case measure => simp [intOf]; omega
      · by_cases hd : now < X3
        · have hfin : Hid (R = true) := unhide hys (by rw [decide_eq_true hd]; rfl)
          go_wp2_with fail
          go_region_held3 (fun W => Hid (Below wr.heap.size wr W) ∧ W.cell? ⟨b, o + k * 4, none⟩ = some (.string X0) ∧ W.cell? ⟨b, o + k * 4 + 1, none⟩ = some (.string X1) ∧ W.cell? ⟨b, o + k * 4 + 2, none⟩ = some (.string X2) ∧ W.cell? ⟨b, o + k * 4 + 3, none⟩ = some (.int .i64 X3) ∧ W.cell? ⟨w.heap.size, 0, none⟩ = some (.string Y0) ∧ W.cell? ⟨w.heap.size, 1, none⟩ = some (.string Y1) ∧ W.cell? ⟨w.heap.size, 2, none⟩ = some (.string Y2))
            (first | (with_reducible exact hS) | (with_reducible assumption) | (with_reducible refine c7_drew7 ?_; with_reducible assumption))
            (fail)
          rename_i hH
          have B6 := hide (chain (unhide hbel) (unhide hH.1))
          clear hH hS qT qG
          go_wp2_with fail
          go_ret
          exact ⟨ret_bool (unhide hfin).symm, unhide B6⟩
        · have hn2 : Hid ((l.take (k + 1)).any (isC y now) = false) := by show _ = _; rw [unhide hnx, unhide hany, decide_eq_false hd]; rfl
          go_wp2_with fail
          go_region_held3 (fun W => Hid (Below wr.heap.size wr W) ∧ W.cell? ⟨b, o + k * 4, none⟩ = some (.string X0) ∧ W.cell? ⟨b, o + k * 4 + 1, none⟩ = some (.string X1) ∧ W.cell? ⟨b, o + k * 4 + 2, none⟩ = some (.string X2) ∧ W.cell? ⟨b, o + k * 4 + 3, none⟩ = some (.int .i64 X3) ∧ W.cell? ⟨w.heap.size, 0, none⟩ = some (.string Y0) ∧ W.cell? ⟨w.heap.size, 1, none⟩ = some (.string Y1) ∧ W.cell? ⟨w.heap.size, 2, none⟩ = some (.string Y2))
            (first | (with_reducible exact hS) | (with_reducible assumption) | (with_reducible refine c7_drew7 ?_; with_reducible assumption))
            (fail)
          rename_i hH
          have B6 := hide (chain (unhide hbel) (unhide hH.1))
          have B7 := hide (chain (unhide hbel0) (unhide hH.1))
          clear hH hS qT qG
          go_wp2_with fail
          go_roundw
          case rel => exact ⟨k + 1, by omega, by go_num, hn2, B6, B7⟩
          case measure => simp [intOf]; omega
    · obtain rfl : k = n := by omega
      have hfin : Hid (R = false) := by
        show _ = _
        have := unhide hany
        rw [List.take_of_length_le (by rw [← unhide HN]; exact Nat.le_refl _)] at this
        rw [unhide HR, this]
      go_wp2_with fail
      go_ret
      exact ⟨ret_bool (unhide hfin).symm, unhide hbel⟩
set_option maxRecDepth 100000 in
set_option maxHeartbeats 16000000 in
theorem rcheck7_any (v : Value) (l : List VCool) (w : World) (hv : Lst coolK w v l) :
    Calls Try.prog 11 #[v] w fun e w' => e = .returned (.int .i64 (coolR l)) ∧ Below w.heap.size w w' := by
  have HV := hide hv
  have hlen := hv.len
  obtain ⟨a, c, rfl⟩ := hv.val
  clear hv
  obtain ⟨n, hn⟩ : ∃ n, n = l.length := ⟨_, rfl⟩
  obtain ⟨R, hR⟩ : ∃ R, R = coolR l := ⟨_, rfl⟩
  rw [← hR]
  unfold coolR at hR
  rw [← hn] at HV hlen hR ⊢
  have HN := hide hn
  clear hn
  by_cases h4 : 72 < n
  · have hfin : Hid (R = 3) := by show _ = _; rw [hR, if_pos h4]
    have hb : decide ((72 : Int) < (n : Int)) = true := by simp; omega
    clear hR
    go_enter Try.func11, Try.ntmps11
    go_wp2_with fail
    go_ret
    exact ⟨ret_int (unhide hfin).symm, Below.refl _ _⟩
  rw [if_neg h4] at hR
  have HR : Hid (R = coolF (prevO l 0) (l.drop 0)) := hR
  clear hR
  have hb4 : decide ((72 : Int) < (n : Int)) = false := by simp; omega
  go_enter Try.func11, Try.ntmps11
  go_wp2_with fail
  go_loopw [3] (fun i W => ∃ k : Nat, k ≤ n ∧ i = .int .i64 k ∧ Hid (R = coolF (prevO l k) (l.drop k)) ∧ Hid (Below w.heap.size w W)) (fun i _ => n - (intOf i).toNat)
  case atStart => exact ⟨0, Nat.zero_le _, rfl, unhide HR, Below.refl _ _⟩
  case round =>
    obtain ⟨k, hk, rfl, hlab, hbel⟩ := hrel
    by_cases hlt : k < n
    · have hlk : k < l.length := by rw [← unhide HN]; exact hlt
      obtain ⟨b, o, rfl, hat⟩ := ((unhide HV).below (unhide hbel)).at hlk
      have hst := hide (cool_step hlk)
      have hlst := hide ((unhide HV).below (unhide hbel))
      obtain ⟨y, hy⟩ : ∃ y, y = l[k] := ⟨_, rfl⟩
      rw [← hy] at hat hst
      rw [← unhide hlab] at hst
      obtain ⟨h0123, h3⟩ := cool_at.1 hat
      obtain ⟨⟨h0, hs0⟩, ⟨h1, hs1⟩, h2, hs2⟩ := off_at.1 h0123
      rw [show coolK.size = 4 from rfl] at h0 h1 h2 h3
      have HO : Hid (okO y.1) := ⟨hs0, hs1, hs2⟩
      clear hs0 hs1 hs2 hy hat hlab h0123
      obtain ⟨z, hz⟩ : ∃ z, z = oneR y := ⟨_, rfl⟩
      have c0 : Hid (∀ W, Calls Try.prog 25 #[.agg #[.string (bytesT y.1.1), .string (bytesT y.1.2.1), .string (bytesT y.1.2.2), .int .i64 y.2]] W fun e w' => e = .returned (.int .i64 z) ∧ Below W.heap.size W w') := by rw [hz]; exact fun W => rone_any y W (unhide HO)
      rw [← hz] at hst
      clear hz
      have i2 : (0 : Int) ≤ (k : Int) := by omega
      have i3 : (k : Int) < (n : Int) := by omega
      go_wp2_with fail
      refine (unhide c0 _).mono ?_
      rintro e w1 ⟨rfl, hw1⟩
      have B1 := hide hw1
      have f0 := cell_kept hw1 h0
      have f1 := cell_kept hw1 h1
      have f2 := cell_kept hw1 h2
      clear hw1 h0 h1 h2 h3
      have B3 := hide (chain (unhide hbel) (unhide B1))
      by_cases hz0 : z = 0
      case neg =>
        have hb := nz hz0
        have hfin : Hid (R = z) := by show _ = _; rw [unhide hst]; simp [hz0]
        clear hz0
        go_wp2_with fail
        go_ret
        exact ⟨ret_int (unhide hfin).symm, unhide B3⟩
      subst hz0
      have hst2 : Hid (R = if behind (prevO l k) y.1 = false then 6 else coolF (prevO l (k + 1)) (l.drop (k + 1))) := by show _ = _; rw [unhide hst]; rfl
      clear hst
      cases k with
      | zero =>
        have hnx : Hid (R = coolF (prevO l 1) (l.drop 1)) := by show _ = _; rw [unhide hst2]; rfl
        clear f0 f1 f2
        go_wp2_with fail
        go_roundw
        case rel => exact ⟨1, by omega, by go_num, hnx, B3⟩
        case measure => simp [intOf]; omega
      | succ m =>
        have hlm : m < l.length := by omega
        obtain ⟨b', o', eb, hat⟩ := ((unhide hlst).below (unhide B1)).at hlm
        obtain ⟨rfl, rfl⟩ : b = b' ∧ o = o' := by injection eb with eb; injection eb with e1 e2 _; exact ⟨e1, e2⟩
        obtain ⟨x, hx⟩ : ∃ x, x = l[m] := ⟨_, rfl⟩
        have hpv : prevO l (m + 1) = some x.1 := by rw [hx]; exact prev_at hlm
        rw [hpv] at hst2
        rw [← hx] at hat
        obtain ⟨g0123, _⟩ := cool_at.1 hat
        obtain ⟨⟨g0, _⟩, ⟨g1, _⟩, g2, _⟩ := off_at.1 g0123
        rw [show coolK.size = 4 from rfl] at g0 g1 g2
        clear hat eb g0123 hpv hx
        obtain ⟨q, hq⟩ : ∃ q, q = lessO x.1 y.1 := ⟨_, rfl⟩
        have hst3 : Hid (R = if q = false then 6 else coolF (prevO l (m + 1 + 1)) (l.drop (m + 1 + 1))) := by show _ = _; rw [unhide hst2, hq]; rfl
        have cO := hide (fun W => rless6_any x.1 y.1 W)
        unfold offA at cO
        rw [← hq] at cO
        clear hq
        have i0 : (0 : Int) ≤ (m : Int) := by omega
        have i1 : (m : Int) < (n : Int) := by omega
        obtain ⟨z1, hz1⟩ : ∃ z : Int, z = ((m + 1 : Nat) : Int) := ⟨_, rfl⟩
        rw [← hz1] at i2 i3 ⊢
        have HZ := hide hz1
        have e1 : z1 - 1 = (m : Int) := by omega
        have e2 : IntKind.i64.wrap (z1 - 1) = (m : Int) := by rw [e1]; simp [IntKind.wrap, IntKind.bits, IntKind.signed]; omega
        have e3 : wrap64 (z1 - 1) = (m : Int) := by unfold wrap64; omega
        have e7 : IntKind.i64.wrap (m : Int) = (m : Int) := by rw [← e1]; exact e2.trans e1.symm
        have e4 : decide ((0 : Int) < z1) = true := by simp; omega
        have e8 : z1.toNat = m + 1 := by omega
        have e5 : wrap64 (z1 + 1) = ((m + 1 + 1 : Nat) : Int) := by unfold wrap64; omega
        clear hz1
        have hS : (fun W => Hid (Below w1.heap.size w1 W) ∧ W.cell? ⟨b, o + m * 4, none⟩ = some (.string (bytesT x.1.1)) ∧ W.cell? ⟨b, o + m * 4 + 1, none⟩ = some (.string (bytesT x.1.2.1)) ∧ W.cell? ⟨b, o + m * 4 + 2, none⟩ = some (.string (bytesT x.1.2.2)) ∧ W.cell? ⟨b, o + (m + 1) * 4, none⟩ = some (.string (bytesT y.1.1)) ∧ W.cell? ⟨b, o + (m + 1) * 4 + 1, none⟩ = some (.string (bytesT y.1.2.1)) ∧ W.cell? ⟨b, o + (m + 1) * 4 + 2, none⟩ = some (.string (bytesT y.1.2.2))) w1 := ⟨Below.refl _ _, g0, g1, g2, f0, f1, f2⟩
        simp only at hS
        clear g0 g1 g2 f0 f1 f2
        go_wp2_with fail
        go_region_held3 (fun W => Hid (Below w1.heap.size w1 W) ∧ W.cell? ⟨b, o + m * 4, none⟩ = some (.string (bytesT x.1.1)) ∧ W.cell? ⟨b, o + m * 4 + 1, none⟩ = some (.string (bytesT x.1.2.1)) ∧ W.cell? ⟨b, o + m * 4 + 2, none⟩ = some (.string (bytesT x.1.2.2)) ∧ W.cell? ⟨b, o + (m + 1) * 4, none⟩ = some (.string (bytesT y.1.1)) ∧ W.cell? ⟨b, o + (m + 1) * 4 + 1, none⟩ = some (.string (bytesT y.1.2.1)) ∧ W.cell? ⟨b, o + (m + 1) * 4 + 2, none⟩ = some (.string (bytesT y.1.2.2)))
          (first | (with_reducible exact hS) | (with_reducible assumption) | (with_reducible refine c6_drew7 ?_; with_reducible assumption) | (refine c6_call7 (by assumption) ?_; with_reducible assumption))
          (first | (go_at_call 26; refine (unhide cO _).mono ?_; rintro e w9 ⟨rfl, hw9⟩))
        rename_i hH
        have B6 := hide (chain (unhide B3) (unhide hH.1))
        clear hH hS
        cases q
        · have hfin : Hid (R = 6) := by show _ = _; rw [unhide hst3]; rfl
          go_wp2_with fail
          go_ret
          exact ⟨ret_int (unhide hfin).symm, unhide B6⟩
        · have hnx : Hid (R = coolF (prevO l (m + 1 + 1)) (l.drop (m + 1 + 1))) := by show _ = _; rw [unhide hst3]; rfl
          go_wp2_with fail
          go_roundw
          case rel => exact ⟨m + 1 + 1, by omega, by first | rw [e5] | (rw [unhide HZ]; go_num), hnx, B6⟩
          case measure => simp [intOf]; omega
    · obtain rfl : k = n := by omega
      have hfin : Hid (R = 0) := by
        show _ = _
        rw [unhide hlab, List.drop_eq_nil_of_le (by rw [← unhide HN]; exact Nat.le_refl _)]; cases prevO l k <;> rfl
      go_wp2_with fail
      go_ret
      exact ⟨ret_int (unhide hfin).symm, unhide hbel⟩
end Go.Proofs.Ytcpgodkgdceocaa
