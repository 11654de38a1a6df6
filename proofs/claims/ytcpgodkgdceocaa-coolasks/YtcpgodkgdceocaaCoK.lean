/- Layer 7: the search in coolings that stand in order. -/
import Derived.Test.YtcpgodkgdceocaaCoJ
import Derived.Deep.RegionHeld3
namespace Go.Proofs.Ytcpgodkgdceocaa
open Go.RowKit Suf Val

theorem enters_put : ∀ args w, (callFunc 28 args).run Try.prog w = .ok (.enter 28 args) w := enters_of Try.func28 (by kernel_rfl) rfl
set_option maxHeartbeats 8000000 in
theorem clos_put (x : VCool) (y : VOff) (W : World) :
    Calls Try.prog 28 #[coolA x, offA y] W fun e w' => e = .returned (.int .i64 (ordO x.1 y)) ∧ Below W.heap.size W w' := by
  have cc := hide (fun V => porder_any x.1 y V)
  obtain ⟨z, hz⟩ : ∃ z, z = ordO x.1 y := ⟨_, rfl⟩
  rw [← hz] at cc ⊢
  clear hz
  unfold offA at cc ⊢
  unfold coolA
  obtain ⟨X0, hX0⟩ : ∃ X, X = bytesT x.1.1 := ⟨_, rfl⟩
  obtain ⟨X1, hX1⟩ : ∃ X, X = bytesT x.1.2.1 := ⟨_, rfl⟩
  obtain ⟨X2, hX2⟩ : ∃ X, X = bytesT x.1.2.2 := ⟨_, rfl⟩
  obtain ⟨Y0, hY0⟩ : ∃ X, X = bytesT y.1 := ⟨_, rfl⟩
  obtain ⟨Y1, hY1⟩ : ∃ X, X = bytesT y.2.1 := ⟨_, rfl⟩
  obtain ⟨Y2, hY2⟩ : ∃ X, X = bytesT y.2.2 := ⟨_, rfl⟩
  rw [← hX0, ← hX1, ← hX2, ← hY0, ← hY1, ← hY2] at cc ⊢
  clear hX0 hX1 hX2 hY0 hY1 hY2
  obtain ⟨W1, hW1⟩ : ∃ V, V = (W.alloc (.cells #[.string X0, .string X1, .string X2, .int .i64 x.2] 25)).alloc (.cells #[.string Y0, .string Y1, .string Y2] 23) := ⟨_, rfl⟩
  have B1 : Hid (Below W.heap.size W W1) := by rw [hW1]; exact chain (boxb _) (boxb _)
  have GW := hide hW1
  clear hW1
  go_enter Try.func28, Try.ntmps28
  go_wp2_with fail
  rw [← unhide GW]
  refine (unhide cc _).mono ?_
  rintro e w2 ⟨rfl, hw2⟩
  have B2 := hide (chain (unhide B1) (Gr.below hw2))
  clear hw2 cc GW B1
  go_wp2_with fail
  go_ret
  exact ⟨rfl, unhide B2⟩
theorem c7_call7 {V W W' : World} {p0 p1 p2 p3 p4 p5 p6 : Addr} {v0 v1 v2 v3 v4 v5 v6 : Value} (hb : Below W.heap.size W W') (h : Hid (Below V.heap.size V W) ∧ W.cell? p0 = some v0 ∧ W.cell? p1 = some v1 ∧ W.cell? p2 = some v2 ∧ W.cell? p3 = some v3 ∧ W.cell? p4 = some v4 ∧ W.cell? p5 = some v5 ∧ W.cell? p6 = some v6) : Hid (Below V.heap.size V W') ∧ W'.cell? p0 = some v0 ∧ W'.cell? p1 = some v1 ∧ W'.cell? p2 = some v2 ∧ W'.cell? p3 = some v3 ∧ W'.cell? p4 = some v4 ∧ W'.cell? p5 = some v5 ∧ W'.cell? p6 = some v6 :=
  ⟨chain (unhide h.1) hb, cell_kept hb h.2.1, cell_kept hb h.2.2.1, cell_kept hb h.2.2.2.1, cell_kept hb h.2.2.2.2.1, cell_kept hb h.2.2.2.2.2.1, cell_kept hb h.2.2.2.2.2.2.1, cell_kept hb h.2.2.2.2.2.2.2⟩
/-- Where an offer stands, or would. -/
def AtO (l : List VCool) (o : VOff) (i : Nat) : Prop := i ≤ l.length ∧ (∀ k (h : k < l.length), k < i → lessO l[k].1 o = true) ∧ ∀ k (h : k < l.length), i ≤ k → lessO l[k].1 o = false
def isAt (l : List VCool) (o : VOff) (i : Nat) : Bool := (l[i]?).any fun c => c.1 == o
theorem srt_lt {l : List VCool} (h : Srt byOff l) {j k : Nat} (hj : j < l.length) (hk : k < l.length) (hjk : j < k) : lessO l[j].1 l[k].1 = true := List.pairwise_iff_getElem.1 h j k hj hk hjk
theorem lt_neg {x y : VOff} {z : Int} (hz : z = ordO x y) : lessO x y = decide (z < 0) := by rw [hz, ord_lt]
set_option maxRecDepth 100000 in
set_option maxHeartbeats 8000000 in
theorem bsearch_any (v : Value) (l : List VCool) (y : VOff) (w : World) (hv : Lst coolK w v l) (h72 : l.length ≤ 72) (hs : Srt byOff l) :
    Calls Try.prog 27 #[v, offA y, .func (.func 28) #[] #[]] w fun e w' => (∃ i, e = .returned (.tuple #[.int .i64 (i : Nat), .bool (isAt l y i)]) ∧ AtO l y i) ∧ Below w.heap.size w w' := by
  have HV := hide hv
  have HS := hide hs
  obtain ⟨a, c, rfl⟩ := hv.val
  clear hv hs
  obtain ⟨n, hn⟩ : ∃ n, n = l.length := ⟨_, rfl⟩
  rw [← hn] at HV h72 ⊢
  have HN := hide hn
  clear hn
  have cc := hide (fun x W => clos_put x y W)
  unfold offA at cc ⊢
  obtain ⟨Y0, hY0⟩ : ∃ X, X = bytesT y.1 := ⟨_, rfl⟩
  obtain ⟨Y1, hY1⟩ : ∃ X, X = bytesT y.2.1 := ⟨_, rfl⟩
  obtain ⟨Y2, hY2⟩ : ∃ X, X = bytesT y.2.2 := ⟨_, rfl⟩
  rw [← hY0, ← hY1, ← hY2] at cc ⊢
  clear hY0 hY1 hY2
  obtain ⟨W0, hW0⟩ : ∃ V, V = w.alloc (.cells #[.string Y0, .string Y1, .string Y2] 23) := ⟨_, rfl⟩
  have B0 : Hid (Below w.heap.size w W0) := by rw [hW0]; exact boxb _
  have O0 : Hid (W0.cell? ⟨w.heap.size, 0, none⟩ = some (.string Y0) ∧ W0.cell? ⟨w.heap.size, 1, none⟩ = some (.string Y1) ∧ W0.cell? ⟨w.heap.size, 2, none⟩ = some (.string Y2)) := by rw [hW0]; exact ⟨by simp [go_sem], by simp [go_sem], by simp [go_sem]⟩
  have GW := hide hW0
  clear hW0
  have EG := enters_put
  go_enter Try.func27, Try.ntmps27
  go_wp2_with fail
  rw [← unhide GW]
  clear GW
  go_loopw [9, 10] (fun i j W => ∃ p q : Nat, p ≤ q ∧ q ≤ n ∧ i = .int .i64 p ∧ j = .int .i64 q ∧ Hid ((∀ k (h : k < l.length), k < p → lessO l[k].1 y = true) ∧ ∀ k (h : k < l.length), q ≤ k → lessO l[k].1 y = false) ∧ Hid (Below w.heap.size w W) ∧ Hid (Below W0.heap.size W0 W)) (fun i j _ => (intOf j).toNat - (intOf i).toNat)
  case atStart => exact ⟨0, n, Nat.zero_le _, Nat.le_refl _, rfl, rfl, ⟨fun k _ h => absurd h (Nat.not_lt_zero _), fun k h h2 => absurd h (by rw [← unhide HN]; omega)⟩, B0, Below.refl _ _⟩
  case round =>
    obtain ⟨p, q, hpq, hqn, rfl, rfl, hinv, hbel, hbel0⟩ := hrel
    by_cases hlt : p < q
    · obtain ⟨h, hh⟩ : ∃ h : Nat, h = (p + q) / 2 := ⟨_, rfl⟩
      have hph : p ≤ h := by omega
      have hhq : h < q := by omega
      have hlk : h < l.length := by rw [← unhide HN]; omega
      obtain ⟨b, o, rfl, hat⟩ := ((unhide HV).below (unhide hbel)).at hlk
      obtain ⟨x, hx⟩ : ∃ x, x = l[h] := ⟨_, rfl⟩
      rw [← hx] at hat
      obtain ⟨hs4, s3⟩ := cool_at.1 hat
      obtain ⟨⟨s0, _⟩, ⟨s1, _⟩, s2, _⟩ := off_at.1 hs4
      rw [show coolK.size = 4 from rfl] at s0 s1 s2 s3
      obtain ⟨X0, hX0⟩ : ∃ X, X = bytesT x.1.1 := ⟨_, rfl⟩
      obtain ⟨X1, hX1⟩ : ∃ X, X = bytesT x.1.2.1 := ⟨_, rfl⟩
      obtain ⟨X2, hX2⟩ : ∃ X, X = bytesT x.1.2.2 := ⟨_, rfl⟩
      obtain ⟨X3, hX3⟩ : ∃ X, X = x.2 := ⟨_, rfl⟩
      have cx := hide (unhide cc x)
      obtain ⟨z, hz⟩ : ∃ z, z = ordO x.1 y := ⟨_, rfl⟩
      have hlo := hide (lt_neg hz)
      rw [← hz] at cx
      unfold coolA at cx
      rw [← hX0, ← hX1, ← hX2, ← hX3] at cx
      rw [← hX0] at s0
      rw [← hX1] at s1
      rw [← hX2] at s2
      rw [← hX3] at s3
      rw [hx] at hlo
      have y0 := cell_kept (unhide hbel0) (unhide O0).1
      have y1 := cell_kept (unhide hbel0) (unhide O0).2.1
      have y2 := cell_kept (unhide hbel0) (unhide O0).2.2
      have hS : (fun W => Hid (Below wr.heap.size wr W) ∧ W.cell? ⟨b, o + h * 4, none⟩ = some (.string X0) ∧ W.cell? ⟨b, o + h * 4 + 1, none⟩ = some (.string X1) ∧ W.cell? ⟨b, o + h * 4 + 2, none⟩ = some (.string X2) ∧ W.cell? ⟨b, o + h * 4 + 3, none⟩ = some (.int .i64 X3) ∧ W.cell? ⟨w.heap.size, 0, none⟩ = some (.string Y0) ∧ W.cell? ⟨w.heap.size, 1, none⟩ = some (.string Y1) ∧ W.cell? ⟨w.heap.size, 2, none⟩ = some (.string Y2)) wr := ⟨Below.refl _ _, s0, s1, s2, s3, y0, y1, y2⟩
      simp only at hS
      have e1 : ((p : Int) + (q : Int)) / 2 = (h : Int) := by omega
      clear hX0 hX1 hX2 hX3 hz hx hat hs4 s0 s1 s2 s3 y0 y1 y2 hh
      go_wp2_with fail
      clear e1
      have i0 : (0 : Int) ≤ (h : Int) := by omega
      have i1 : (h : Int) < (n : Int) := by omega
      go_region_held3 (fun W => Hid (Below wr.heap.size wr W) ∧ W.cell? ⟨b, o + h * 4, none⟩ = some (.string X0) ∧ W.cell? ⟨b, o + h * 4 + 1, none⟩ = some (.string X1) ∧ W.cell? ⟨b, o + h * 4 + 2, none⟩ = some (.string X2) ∧ W.cell? ⟨b, o + h * 4 + 3, none⟩ = some (.int .i64 X3) ∧ W.cell? ⟨w.heap.size, 0, none⟩ = some (.string Y0) ∧ W.cell? ⟨w.heap.size, 1, none⟩ = some (.string Y1) ∧ W.cell? ⟨w.heap.size, 2, none⟩ = some (.string Y2))
        (first | (with_reducible exact hS) | (with_reducible assumption) | (with_reducible refine c7_drew7 ?_; with_reducible assumption) | (refine c7_call7 (by assumption) ?_; with_reducible assumption))
        (first | (go_at_fn 28; refine (unhide cx _).mono ?_; rintro e w9 ⟨rfl, hw9⟩))
      rename_i hH
      have B6 := hide (chain (unhide hbel) (unhide hH.1))
      have B7 := hide (chain (unhide hbel0) (unhide hH.1))
      clear hH hS
      by_cases hz0 : z < 0
      · have hup : Hid ((∀ k (hk : k < l.length), k < h + 1 → lessO l[k].1 y = true) ∧ ∀ k (hk : k < l.length), q ≤ k → lessO l[k].1 y = false) := ⟨fun k hk h2 => by
            rcases Nat.lt_or_ge k h with h3 | h3
            · exact lessO_trans (srt_lt (unhide HS) hk hlk h3) (by rw [unhide hlo]; exact decide_eq_true hz0)
            · obtain rfl : k = h := by omega
              rw [unhide hlo]; exact decide_eq_true hz0, (unhide hinv).2⟩
        have dz : decide (z < 0) = true := decide_eq_true hz0
        rw [dz]
        clear hlo dz hz0
        go_wp2_with fail
        go_roundw
        case rel => exact ⟨h + 1, q, by omega, hqn, by go_num, rfl, hup, B6, B7⟩
        case measure => simp [intOf]; omega
      · have hdn : Hid ((∀ k (hk : k < l.length), k < p → lessO l[k].1 y = true) ∧ ∀ k (hk : k < l.length), h ≤ k → lessO l[k].1 y = false) := ⟨(unhide hinv).1, fun k hk h2 => by
            rcases Nat.lt_or_ge h k with h3 | h3
            · cases hc : lessO l[k].1 y with
              | false => rfl
              | true =>
                have := lessO_trans (srt_lt (unhide HS) hlk hk h3) hc
                rw [unhide hlo, decide_eq_false hz0] at this
                cases this
            · obtain rfl : k = h := by omega
              rw [unhide hlo]; exact decide_eq_false hz0⟩
        have dz : decide (z < 0) = false := decide_eq_false hz0
        rw [dz]
        clear hlo dz hz0
        go_wp2_with fail
        go_roundw
        case rel => exact ⟨p, h, hph, by omega, rfl, rfl, hdn, B6, B7⟩
        case measure => simp [intOf]; omega
    · obtain rfl : p = q := by omega
      have hAt : Hid (AtO l y p) := ⟨by rw [← unhide HN]; exact hqn, (unhide hinv).1, (unhide hinv).2⟩
      have y0 := cell_kept (unhide hbel0) (unhide O0).1
      have y1 := cell_kept (unhide hbel0) (unhide O0).2.1
      have y2 := cell_kept (unhide hbel0) (unhide O0).2.2
      by_cases hpn : p < n
      · have hlk : p < l.length := by rw [← unhide HN]; exact hpn
        obtain ⟨b, o, rfl, hat⟩ := ((unhide HV).below (unhide hbel)).at hlk
        obtain ⟨x, hx⟩ : ∃ x, x = l[p] := ⟨_, rfl⟩
        rw [← hx] at hat
        have hia : isAt l y p = (x.1 == y) := by unfold isAt; rw [List.getElem?_eq_getElem hlk, hx]; rfl
        obtain ⟨hs4, s3⟩ := cool_at.1 hat
        obtain ⟨⟨s0, _⟩, ⟨s1, _⟩, s2, _⟩ := off_at.1 hs4
        rw [show coolK.size = 4 from rfl] at s0 s1 s2 s3
        obtain ⟨X0, hX0⟩ : ∃ X, X = bytesT x.1.1 := ⟨_, rfl⟩
        obtain ⟨X1, hX1⟩ : ∃ X, X = bytesT x.1.2.1 := ⟨_, rfl⟩
        obtain ⟨X2, hX2⟩ : ∃ X, X = bytesT x.1.2.2 := ⟨_, rfl⟩
        obtain ⟨X3, hX3⟩ : ∃ X, X = x.2 := ⟨_, rfl⟩
        have cx := hide (unhide cc x)
        obtain ⟨z, hz⟩ : ∃ z, z = ordO x.1 y := ⟨_, rfl⟩
        have hzq : Hid ((z == 0) = isAt l y p) := by
          show _ = _
          rw [hia, hz, Bool.eq_iff_iff, beq_iff_eq, beq_iff_eq]
          exact ord_zero _ _
        rw [← hz] at cx
        unfold coolA at cx
        rw [← hX0, ← hX1, ← hX2, ← hX3] at cx
        rw [← hX0] at s0
        rw [← hX1] at s1
        rw [← hX2] at s2
        rw [← hX3] at s3
        have hS : (fun W => Hid (Below wr.heap.size wr W) ∧ W.cell? ⟨b, o + p * 4, none⟩ = some (.string X0) ∧ W.cell? ⟨b, o + p * 4 + 1, none⟩ = some (.string X1) ∧ W.cell? ⟨b, o + p * 4 + 2, none⟩ = some (.string X2) ∧ W.cell? ⟨b, o + p * 4 + 3, none⟩ = some (.int .i64 X3) ∧ W.cell? ⟨w.heap.size, 0, none⟩ = some (.string Y0) ∧ W.cell? ⟨w.heap.size, 1, none⟩ = some (.string Y1) ∧ W.cell? ⟨w.heap.size, 2, none⟩ = some (.string Y2)) wr := ⟨Below.refl _ _, s0, s1, s2, s3, y0, y1, y2⟩
        simp only at hS
        obtain ⟨Q, hQ⟩ : ∃ Q, Q = isAt l y p := ⟨_, rfl⟩
        rw [← hQ] at hzq
        have HQ := hide hQ
        have i0 : (0 : Int) ≤ (p : Int) := by omega
        have i1 : (p : Int) < (n : Int) := by omega
        have zq := unhide hzq
        clear hX0 hX1 hX2 hX3 hz hx hat hs4 s0 s1 s2 s3 y0 y1 y2 hia hlk hQ hzq
        go_wp2_with fail
        go_region_held3 (fun W => Hid (Below wr.heap.size wr W) ∧ W.cell? ⟨b, o + p * 4, none⟩ = some (.string X0) ∧ W.cell? ⟨b, o + p * 4 + 1, none⟩ = some (.string X1) ∧ W.cell? ⟨b, o + p * 4 + 2, none⟩ = some (.string X2) ∧ W.cell? ⟨b, o + p * 4 + 3, none⟩ = some (.int .i64 X3) ∧ W.cell? ⟨w.heap.size, 0, none⟩ = some (.string Y0) ∧ W.cell? ⟨w.heap.size, 1, none⟩ = some (.string Y1) ∧ W.cell? ⟨w.heap.size, 2, none⟩ = some (.string Y2))
          (first | (with_reducible exact hS) | (with_reducible assumption) | (with_reducible refine c7_drew7 ?_; with_reducible assumption) | (refine c7_call7 (by assumption) ?_; with_reducible assumption))
          (first | (go_at_fn 28; refine (unhide cx _).mono ?_; rintro e w9 ⟨rfl, hw9⟩))
        rename_i hH
        have B6 := hide (chain (unhide hbel) (unhide hH.1))
        clear hH hS zq
        go_wp2_with fail
        go_ret2
        exact ⟨⟨p, by rw [← unhide HQ]; rfl, unhide hAt⟩, unhide B6⟩
      · obtain rfl : p = n := by omega
        have hia : Hid (isAt l y p = false) := by show _ = _; unfold isAt; rw [List.getElem?_eq_none (by rw [← unhide HN]; exact Nat.le_refl _)]; rfl
        have hS : (fun W => Hid (Below wr.heap.size wr W) ∧ W.cell? ⟨w.heap.size, 0, none⟩ = some (.string Y0) ∧ W.cell? ⟨w.heap.size, 1, none⟩ = some (.string Y1) ∧ W.cell? ⟨w.heap.size, 2, none⟩ = some (.string Y2)) wr := ⟨Below.refl _ _, y0, y1, y2⟩
        simp only at hS
        go_wp2_with fail
        refine wp_region_noPanic ?_
        refine wp_region_held_drew (S := fun W => Hid (Below wr.heap.size wr W) ∧ W.cell? ⟨w.heap.size, 0, none⟩ = some (.string Y0) ∧ W.cell? ⟨w.heap.size, 1, none⟩ = some (.string Y1) ∧ W.cell? ⟨w.heap.size, 2, none⟩ = some (.string Y2)) (by kernel_rfl) (c3_drew7 hS) (fun hHeld => ?_)
        refine takeH6 (i := 0) (d := 35) (v := ?_) rfl rfl (by kernel_rfl) (by kernel_rfl) (by kernel_rfl) (fun _ _ _ h => h) (Or.inl ⟨by rfl, ?_⟩) (by assumption) ?_
        rotate_left
        · (intro W hSW; (try dsimp only at hSW); go_simp; try (with_reducible rfl))
        simp only [Act.put, List.setIfInBounds_toArray, List.set_cons_zero, List.set_cons_succ]
        refine takeH6 (i := 1) (d := 36) (v := ?_) rfl rfl (by kernel_rfl) (by kernel_rfl) (by kernel_rfl) (fun _ _ _ h => h) (Or.inl ⟨by rfl, ?_⟩) (by assumption) ?_
        rotate_left
        · (intro W hSW; (try dsimp only at hSW); go_simp; try (with_reducible rfl))
        simp only [Act.put, List.setIfInBounds_toArray, List.set_cons_zero, List.set_cons_succ]
        refine takeH6 (i := 2) (d := 37) (v := ?_) rfl rfl (by kernel_rfl) (by kernel_rfl) (by kernel_rfl) (fun _ _ _ h => h) (Or.inl ⟨by rfl, ?_⟩) (by assumption) ?_
        rotate_left
        · (intro W hSW; (try dsimp only at hSW); go_simp; try (with_reducible rfl))
        simp only [Act.put, List.setIfInBounds_toArray, List.set_cons_zero, List.set_cons_succ]
        refine takeH6 (i := 3) (d := 38) (v := ?_) rfl rfl (by kernel_rfl) (by kernel_rfl) (by kernel_rfl) (fun _ _ _ h => h) (Or.inl ⟨by rfl, ?_⟩) (by assumption) ?_
        rotate_left
        · (intro W hSW; (try dsimp only at hSW); go_simp; try (with_reducible rfl))
        simp only [Act.put, List.setIfInBounds_toArray, List.set_cons_zero, List.set_cons_succ]
        refine takeH6 (i := 4) (d := 39) (v := ?_) rfl rfl (by kernel_rfl) (by kernel_rfl) (by kernel_rfl) (fun _ _ _ h => h) (Or.inl ⟨by rfl, ?_⟩) (by assumption) ?_
        rotate_left
        · (intro W hSW; (try dsimp only at hSW); go_simp; try (with_reducible rfl))
        simp only [Act.put, List.setIfInBounds_toArray, List.set_cons_zero, List.set_cons_succ]
        refine takeH6 (i := 5) (d := 40) (v := undef) rfl rfl (by kernel_rfl) (by kernel_rfl) (by kernel_rfl) (fun _ _ _ h => h) (Or.inr ⟨by rfl, rfl⟩) (by assumption) ?_
        simp only [Act.put, List.setIfInBounds_toArray, List.set_cons_zero, List.set_cons_succ]
        refine takeH6 (i := 6) (d := 41) (v := undef) rfl rfl (by kernel_rfl) (by kernel_rfl) (by kernel_rfl) (fun _ _ _ h => h) (Or.inr ⟨by rfl, rfl⟩) (by assumption) ?_
        simp only [Act.put, List.setIfInBounds_toArray, List.set_cons_zero, List.set_cons_succ]
        refine takeH6 (i := 7) (d := 42) (v := undef) rfl rfl (by kernel_rfl) (by kernel_rfl) (by kernel_rfl) (fun _ _ _ h => h) (Or.inr ⟨by rfl, rfl⟩) (by assumption) ?_
        simp only [Act.put, List.setIfInBounds_toArray, List.set_cons_zero, List.set_cons_succ]
        refine takeH6 (i := 8) (d := 43) (v := undef) rfl rfl (by kernel_rfl) (by kernel_rfl) (by kernel_rfl) (fun _ _ _ h => h) (Or.inr ⟨by rfl, rfl⟩) (by assumption) ?_
        simp only [Act.put, List.setIfInBounds_toArray, List.set_cons_zero, List.set_cons_succ]
        refine takeH6 (i := 9) (d := 44) (v := undef) rfl rfl (by kernel_rfl) (by kernel_rfl) (by kernel_rfl) (fun _ _ _ h => h) (Or.inr ⟨by rfl, rfl⟩) (by assumption) ?_
        simp only [Act.put, List.setIfInBounds_toArray, List.set_cons_zero, List.set_cons_succ]
        refine takeH6 (i := 10) (d := 45) (v := undef) rfl rfl (by kernel_rfl) (by kernel_rfl) (by kernel_rfl) (fun _ _ _ h => h) (Or.inr ⟨by rfl, rfl⟩) (by assumption) ?_
        simp only [Act.put, List.setIfInBounds_toArray, List.set_cons_zero, List.set_cons_succ]
        refine takeH6 (i := 11) (d := 46) (v := undef) rfl rfl (by kernel_rfl) (by kernel_rfl) (by kernel_rfl) (fun _ _ _ h => h) (Or.inr ⟨by rfl, rfl⟩) (by assumption) ?_
        simp only [Act.put, List.setIfInBounds_toArray, List.set_cons_zero, List.set_cons_succ]
        refine takeH6 (i := 12) (d := 47) (v := undef) rfl rfl (by kernel_rfl) (by kernel_rfl) (by kernel_rfl) (fun _ _ _ h => h) (Or.inr ⟨by rfl, rfl⟩) (by assumption) ?_
        simp only [Act.put, List.setIfInBounds_toArray, List.set_cons_zero, List.set_cons_succ]
        refine takeH6 (i := 13) (d := 48) (v := ?_) rfl rfl (by kernel_rfl) (by kernel_rfl) (by kernel_rfl) (fun _ _ _ h => h) (Or.inl ⟨by rfl, ?_⟩) (by assumption) ?_
        rotate_left
        · (intro W hSW; (try dsimp only at hSW); go_simp; try (with_reducible rfl))
        simp only [Act.put, List.setIfInBounds_toArray, List.set_cons_zero, List.set_cons_succ]
        refine takeH6 (i := 14) (d := 6) (v := ?_) rfl rfl (by kernel_rfl) (by kernel_rfl) (by kernel_rfl) (fun _ _ _ h => h) (Or.inl ⟨by rfl, ?_⟩) (by assumption) ?_
        rotate_left
        · (intro W hSW; (try dsimp only at hSW); go_simp; try (with_reducible rfl))
        simp only [Act.put, List.setIfInBounds_toArray, List.set_cons_zero, List.set_cons_succ]
        refine takeH6 (i := 15) (d := 7) (v := ?_) rfl rfl (by kernel_rfl) (by kernel_rfl) (by kernel_rfl) (fun _ _ _ h => h) (Or.inl ⟨by rfl, ?_⟩) (by assumption) ?_
        rotate_left
        · (intro W hSW; (try dsimp only at hSW); go_simp; try (with_reducible rfl))
        simp only [Act.put, List.setIfInBounds_toArray, List.set_cons_zero, List.set_cons_succ]
        refine wpAnyH_done (by kernel_rfl) ?_ _
        refine NoPanic.normal ?_
        have B6 := hide (chain (unhide hbel) (unhide hHeld.1))
        clear hHeld hS y0 y1 y2
        go_wp2_with fail
        go_ret2
        exact ⟨⟨p, by rw [unhide hia]; rfl, unhide hAt⟩, unhide B6⟩
end Go.Proofs.Ytcpgodkgdceocaa
