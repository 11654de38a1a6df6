/- CoolNext: the walk. -/
import Derived.Test.YtcpgodkgdceocaaCoO
import Derived.Test.YtcpgodkgdceocaaCoV
namespace Go.Proofs.Ytcpgodkgdceocaa.coolNext
open Go.RowKit Suf Val

theorem c3_call7 {V W W' : World} {p0 p1 p2 : Addr} {v0 v1 v2 : Value} (hb : Below W.heap.size W W') (h : Hid (Below V.heap.size V W) ∧ W.cell? p0 = some v0 ∧ W.cell? p1 = some v1 ∧ W.cell? p2 = some v2) : Hid (Below V.heap.size V W') ∧ W'.cell? p0 = some v0 ∧ W'.cell? p1 = some v1 ∧ W'.cell? p2 = some v2 :=
  ⟨chain (unhide h.1) hb, cell_kept hb h.2.1, cell_kept hb h.2.2.1, cell_kept hb h.2.2.2⟩
theorem clean_le (l : List VCool) (now : Int) : (cleanR l now).length ≤ l.length := by unfold cleanR; exact List.length_filter_le _ _
set_option maxRecDepth 100000 in
set_option maxHeartbeats 32000000 in
theorem walk (u : Value) (l : List VCool) (c : VCool) (o : VOff) (m k : Int) (w : World) (hv : Lst coolK w u l) (_hc : okO c.1) (_ho : okO o) :
    Calls Try.prog 7 #[layA u c o m k] w fun e w' => e = .returned (.bool true) ∧ Below w.heap.size w w' := by
  have HV := hide hv
  obtain ⟨a, cap, rfl⟩ := hv.val
  obtain ⟨n, hn⟩ : ∃ n, n = l.length := ⟨_, rfl⟩
  rw [← hn] at HV ⊢
  have HN := hide hn
  clear hv hn
  have ck := hide (fun (W : World) (h : Below w.heap.size w W) => pcheck7_any _ l W ((unhide HV).below h))
  have ci := hide (fun (W : World) (v : Value) (l' : List VCool) (h : Lst coolK W v l') => pisCool_any v l' o k W h)
  unfold offA at ci
  unfold layA
  obtain ⟨Y0, hY0⟩ : ∃ X, X = bytesT c.1.1 := ⟨_, rfl⟩
  obtain ⟨Y1, hY1⟩ : ∃ X, X = bytesT c.1.2.1 := ⟨_, rfl⟩
  obtain ⟨Y2, hY2⟩ : ∃ X, X = bytesT c.1.2.2 := ⟨_, rfl⟩
  obtain ⟨X0, hX0⟩ : ∃ X, X = bytesT o.1 := ⟨_, rfl⟩
  obtain ⟨X1, hX1⟩ : ∃ X, X = bytesT o.2.1 := ⟨_, rfl⟩
  obtain ⟨X2, hX2⟩ : ∃ X, X = bytesT o.2.2 := ⟨_, rfl⟩
  rw [← hX0, ← hX1, ← hX2] at ci
  rw [← hY0, ← hY1, ← hY2, ← hX0, ← hX1, ← hX2]
  clear hY0 hY1 hY2 hX0 hX1 hX2
  obtain ⟨W2, hW2⟩ : ∃ W, W = (w.alloc (.cells #[.slice a n cap, .string Y0, .string Y1, .string Y2, .int .i64 c.2, .string X0, .string X1, .string X2, .int .i64 m, .int .i64 k] 43)).alloc (.cells #[.string X0, .string X1, .string X2] 23) := ⟨_, rfl⟩
  have B2 : Hid (Below w.heap.size w W2) := by rw [hW2]; exact chain (boxb _) (boxb _)
  have F2 : Hid ((fun W : World => W.cell? ⟨w.heap.size + 1, 0, none⟩ = some (.string X0) ∧ W.cell? ⟨w.heap.size + 1, 1, none⟩ = some (.string X1) ∧ W.cell? ⟨w.heap.size + 1, 2, none⟩ = some (.string X2)) W2) := by rw [hW2]; exact ⟨by simp [go_sem], by simp [go_sem], by simp [go_sem]⟩
  have fm : Hid (W2.cell? ⟨w.heap.size, 8, none⟩ = some (.int .i64 m)) := by rw [hW2]; exact cell_box6 _ (by simp [go_sem])
  have fk : Hid (W2.cell? ⟨w.heap.size, 9, none⟩ = some (.int .i64 k)) := by rw [hW2]; exact cell_box6 _ (by simp [go_sem])
  have GW := hide hW2
  clear hW2
  obtain ⟨z, hz⟩ : ∃ z, z = coolR l := ⟨_, rfl⟩
  rw [← hz] at ck
  have HZ := hide hz
  clear hz
  go_enter Try.func7, Try.ntmps7
  have f8 := unhide fm
  have f9 := unhide fk
  obtain ⟨x0, x1, x2⟩ := unhide F2
  rw [unhide GW] at f8 f9 x0 x1 x2
  go_wp2_with fail
  rw [← unhide GW]
  clear f8 f9 fm fk x0 x1 x2
  refine (unhide ck _ (unhide B2)).mono ?_
  rintro e w3 ⟨rfl, hw3⟩
  have B3 := hide (chain (unhide B2) hw3)
  have F3 : Hid ((fun W : World => W.cell? ⟨w.heap.size + 1, 0, none⟩ = some (.string X0) ∧ W.cell? ⟨w.heap.size + 1, 1, none⟩ = some (.string X1) ∧ W.cell? ⟨w.heap.size + 1, 2, none⟩ = some (.string X2)) w3) := by
    obtain ⟨x0, x1, x2⟩ := unhide F2
    exact ⟨cell_kept hw3 x0, cell_kept hw3 x1, cell_kept hw3 x2⟩
  clear hw3 ck B2 F2 GW
  by_cases hz : z = 0
  case neg =>
    have hb := nz hz
    clear hz
    go_wp2_with fail
    refine (live7_any _).mono ?_
    rintro e w4 ⟨rfl, hw4⟩
    have B4 := hide (chain (unhide B3) hw4)
    clear hw4
    go_wp2_with fail
    go_ret
    exact ⟨rfl, unhide B4⟩
  subst hz
  have h72 : n ≤ 72 := by
    have := (cool_ok.1 (unhide HZ).symm).1
    rw [← unhide HN] at this; exact this
  by_cases hkm : k < m
  case pos =>
    have hd : decide (k < m) = true := decide_eq_true hkm
    clear hkm
    go_wp2_with fail
    refine (live7_any _).mono ?_
    rintro e w4 ⟨rfl, hw4⟩
    have B4 := hide (chain (unhide B3) hw4)
    clear hw4
    go_wp2_with fail
    go_ret
    exact ⟨rfl, unhide B4⟩
  have HKM : Hid (m ≤ k) := by show _ ≤ _; omega
  have cl := hide (fun (W : World) (v : Value) (l' : List VCool) (t : Int) (h : Lst coolK W v l') (h2 : l'.length ≤ 72) => pclean_any v l' t W h (by omega))
  have cc := hide (unhide cl w3 _ l m ((unhide HV).below (unhide B3)) (by rw [← unhide HN]; exact h72))
  obtain ⟨C, hC⟩ : ∃ C, C = cleanR l m := ⟨_, rfl⟩
  rw [← hC] at cc
  have HC := hide hC
  clear hC
  have hd : decide (k < m) = false := decide_eq_false hkm
  clear hkm
  go_wp2_with fail
  refine (unhide cc).mono ?_
  rintro e w4 ⟨⟨vc, rfl, hown⟩, hw4⟩
  have B4 := hide (chain (unhide B3) hw4)
  have LC4 := hide hown.lst
  obtain ⟨xa, xc, rfl⟩ := hown.val
  obtain ⟨nc, hnc⟩ : ∃ n, n = C.length := ⟨_, rfl⟩
  rw [← hnc] at LC4 ⊢
  have HNC := hide hnc
  have F4 : Hid ((fun W : World => W.cell? ⟨w.heap.size + 1, 0, none⟩ = some (.string X0) ∧ W.cell? ⟨w.heap.size + 1, 1, none⟩ = some (.string X1) ∧ W.cell? ⟨w.heap.size + 1, 2, none⟩ = some (.string X2)) w4) := by
    obtain ⟨x0, x1, x2⟩ := unhide F3
    exact ⟨cell_kept hw4 x0, cell_kept hw4 x1, cell_kept hw4 x2⟩
  clear hw4 hown cc hnc F3 B3
  have cn := hide (pnext_any _ l m w4 ((unhide HV).below (unhide B4)))
  obtain ⟨N, hN⟩ : ∃ N, N = nextR l m := ⟨_, rfl⟩
  rw [← hN] at cn
  have HNX := hide hN
  clear hN hd
  go_wp2_with fail
  refine (unhide cn).mono ?_
  rintro e w5 ⟨rfl, hw5⟩
  have B5 := hide (chain (unhide B4) hw5)
  have LC5 := hide ((unhide LC4).below hw5)
  have LL5 := hide ((unhide HV).below (unhide B5))
  have hS : (fun W : World => Hid (Below w5.heap.size w5 W) ∧ W.cell? ⟨w.heap.size + 1, 0, none⟩ = some (.string X0) ∧ W.cell? ⟨w.heap.size + 1, 1, none⟩ = some (.string X1) ∧ W.cell? ⟨w.heap.size + 1, 2, none⟩ = some (.string X2)) w5 := by
    obtain ⟨x0, x1, x2⟩ := unhide F4
    exact ⟨Below.refl _ _, cell_kept hw5 x0, cell_kept hw5 x1, cell_kept hw5 x2⟩
  simp only at hS
  clear hw5 cn F4 B4 LC4
  obtain ⟨N1, hN1⟩ : ∃ x, x = N.1 := ⟨_, rfl⟩
  obtain ⟨N2, hN2⟩ : ∃ x, x = N.2 := ⟨_, rfl⟩
  rw [← hN1, ← hN2]
  have hsome : N2 = decide (0 < nc) := by rw [hN2, unhide HNX, next_some, ← unhide HC, ← unhide HNC]
  have hnone : Hid (N2 = false → N1 = 0) := fun h => by rw [hN1, unhide HNX]; exact next_none (by rw [← unhide HNX, ← hN2]; exact h)
  have hat : Hid (N2 = true → m < N1 ∧ (cleanR l (N1 - 1)).length = nc ∧ (cleanR l N1).length < nc ∧ 0 ≤ N1 ∧ N1 ≤ 1099511627776) := fun h => by
    obtain ⟨h1, h2, h3, cx, hcx, hce⟩ := next_at (l := l) (now := m) (by rw [← unhide HNX, ← hN2]; exact h)
    rw [← unhide HNX, ← hN1] at h1 h2 h3 hce
    rw [← unhide HC, ← unhide HNC] at h2 h3
    have hone := (cool_ok.1 (unhide HZ).symm).2.1 cx hcx
    have hb : 0 ≤ cx.2 ∧ cx.2 ≤ 1099511627776 := by
      unfold oneR at hone
      split at hone
      · cases hone
      · split at hone
        · cases hone
        · omega
    exact ⟨h1, h2, h3, by omega, by omega⟩
  have hcl : Hid ((cleanR C m).length = nc) := by show _ = _; rw [unhide HC, clean_clean, ← unhide HC, ← unhide HNC]
  have hcool : Hid (isCoolR C o k = isCoolR l o k) := by show _ = _; rw [unhide HC]; exact clean_cool l o (unhide HKM)
  have hcle : Hid (C.length ≤ 72) := by show _ ≤ _; rw [unhide HC]; exact Nat.le_trans (clean_le l m) (by rw [← unhide HN]; exact h72)
  have cia := hide (fun (V : World) (h : Hid (Below w5.heap.size w5 V) ∧ V.cell? ⟨w.heap.size + 1, 0, none⟩ = some (.string X0) ∧ V.cell? ⟨w.heap.size + 1, 1, none⟩ = some (.string X1) ∧ V.cell? ⟨w.heap.size + 1, 2, none⟩ = some (.string X2)) => unhide ci V _ C ((unhide LC5).below (unhide h.1)))
  have cil := hide (fun (V : World) (h : Hid (Below w5.heap.size w5 V) ∧ V.cell? ⟨w.heap.size + 1, 0, none⟩ = some (.string X0) ∧ V.cell? ⟨w.heap.size + 1, 1, none⟩ = some (.string X1) ∧ V.cell? ⟨w.heap.size + 1, 2, none⟩ = some (.string X2)) => unhide ci V _ l ((unhide LL5).below (unhide h.1)))
  have ccl : Hid (∀ V, (Hid (Below w5.heap.size w5 V) ∧ V.cell? ⟨w.heap.size + 1, 0, none⟩ = some (.string X0) ∧ V.cell? ⟨w.heap.size + 1, 1, none⟩ = some (.string X1) ∧ V.cell? ⟨w.heap.size + 1, 2, none⟩ = some (.string X2)) → Calls Try.prog 17 #[.slice xa nc xc, .int .i64 m] V fun e w' => (∃ sa sc, e = .returned (.slice sa nc sc)) ∧ Below V.heap.size V w') := fun V h => by
    refine (unhide cl V _ C m ((unhide LC5).below (unhide h.1)) (unhide hcle)).mono ?_
    rintro e w' ⟨⟨v, rfl, hown⟩, hw⟩
    obtain ⟨sa, sc, rfl⟩ := hown.val
    rw [unhide hcl]
    exact ⟨⟨sa, sc, rfl⟩, hw⟩
  have ccl2 : Hid (∀ V t r, Hid (Below w5.heap.size w5 V) → (cleanR l t).length = r → Calls Try.prog 17 #[.slice a n cap, .int .i64 t] V fun e w' => (∃ sa sc, e = .returned (.slice sa r sc)) ∧ Below V.heap.size V w') := fun V t r h hr => by
    refine (unhide cl V _ l t ((unhide LL5).below (unhide h)) (by rw [← unhide HN]; exact h72)).mono ?_
    rintro e w' ⟨⟨v, rfl, hown⟩, hw⟩
    obtain ⟨sa, sc, rfl⟩ := hown.val
    rw [hr]
    exact ⟨⟨sa, sc, rfl⟩, hw⟩
  rw [unhide hcool] at cia
  obtain ⟨r, hr⟩ : ∃ r, r = isCoolR l o k := ⟨_, rfl⟩
  rw [← hr] at cia cil
  have hne : ((nc : Int) != (nc : Int)) = false := by simp
  clear hr hN1 hN2 hcool hcle ci cl HV LC5 LL5 HNX HC hcl HZ
  rcases Nat.eq_zero_or_pos nc with h0 | h0
  · subst h0
    have hN2f : N2 = false := by rw [hsome]; rfl
    obtain rfl : N1 = 0 := unhide hnone hN2f
    subst hN2f
    clear hsome hnone hat HNC hne
    go_wp2_with fail
    cases r <;> go_region_held3 (fun W => Hid (Below w5.heap.size w5 W) ∧ W.cell? ⟨w.heap.size + 1, 0, none⟩ = some (.string X0) ∧ W.cell? ⟨w.heap.size + 1, 1, none⟩ = some (.string X1) ∧ W.cell? ⟨w.heap.size + 1, 2, none⟩ = some (.string X2))
      (first | (with_reducible exact hS) | (with_reducible assumption) | (with_reducible refine c3_drew7 ?_; with_reducible assumption) | (refine c3_call7 (by assumption) ?_; with_reducible assumption))
      (first
        | (go_at_call 21; refine (unhide cia _ (by with_reducible assumption)).mono ?_; rintro e w9 ⟨rfl, hw9⟩)
        | (go_at_call 21; refine (unhide cil _ (by with_reducible assumption)).mono ?_; rintro e w9 ⟨rfl, hw9⟩)
        | (go_at_call 17; refine (unhide ccl _ (by with_reducible assumption)).mono ?_; rintro e w9 ⟨⟨sa9, sc9, rfl⟩, hw9⟩))

    all_goals
      rename_i hHeld
      have B9 := hide (chain (unhide B5) (unhide hHeld.1))
      clear hHeld hS cia cil ccl hw9 ccl2
      go_wp2_with fail
      refine (live7_any _).mono ?_
      rintro e w10 ⟨rfl, hw10⟩
      have B10 := hide (chain (unhide B9) hw10)
      clear hw10
      go_wp2_with fail
      go_ret
      exact ⟨by simp, unhide B10⟩
  · have hN2t : N2 = true := by rw [hsome]; simpa using h0
    subst hN2t
    obtain ⟨hm, hc1, hc2, hlo, hhi⟩ := unhide hat rfl
    have HC1 := hide hc1
    have HC2 := hide hc2
    have hw1 : IntKind.i64.wrap (N1 - 1) = N1 - 1 := by simp [IntKind.wrap, IntKind.bits, IntKind.signed]; omega
    have hmN : decide (m < N1) = true := decide_eq_true hm
    obtain ⟨T1, hT1⟩ : ∃ x, x = N1 - 1 := ⟨_, rfl⟩
    rw [← hT1] at HC1 hw1
    have hw2 : wrap64 (N1 - 1) = T1 := by rw [hT1]; unfold wrap64; omega
    rw [hT1, ← hT1] at hw1
    obtain ⟨r2, hr2⟩ : ∃ x, x = (cleanR l N1).length := ⟨_, rfl⟩
    rw [← hr2] at hc2 HC2
    have HR2 := hide hr2
    have hlt : decide ((r2 : Int) < (nc : Int)) = true := by simp; omega
    have hlt2 : (r2 : Int) < (nc : Int) := by omega
    have hpos : decide ((0 : Int) < (nc : Int)) = true := by simp; omega
    have hpos2 : (0 : Int) < (nc : Int) := by omega
    have heq : ((nc : Int) == (nc : Int)) = true := by simp
    have hpn : decide (0 < nc) = true := decide_eq_true h0
    clear hsome hnone hat HNC hlo hhi hT1 hr2 hc1 hc2 hm
    go_wp2_with fail
    cases r <;> go_region_held3 (fun W => Hid (Below w5.heap.size w5 W) ∧ W.cell? ⟨w.heap.size + 1, 0, none⟩ = some (.string X0) ∧ W.cell? ⟨w.heap.size + 1, 1, none⟩ = some (.string X1) ∧ W.cell? ⟨w.heap.size + 1, 2, none⟩ = some (.string X2))
      (first | (with_reducible exact hS) | (with_reducible assumption) | (with_reducible refine c3_drew7 ?_; with_reducible assumption) | (refine c3_call7 (by assumption) ?_; with_reducible assumption))
      (first
        | (go_at_call 21; refine (unhide cia _ (by with_reducible assumption)).mono ?_; rintro e w9 ⟨rfl, hw9⟩)
        | (go_at_call 21; refine (unhide cil _ (by with_reducible assumption)).mono ?_; rintro e w9 ⟨rfl, hw9⟩)
        | (go_at_call 17; refine (unhide ccl _ (by with_reducible assumption)).mono ?_; rintro e w9 ⟨⟨sa9, sc9, rfl⟩, hw9⟩))

    all_goals
      rename_i hHeld
      have hb9 := hide (unhide hHeld.1)
      have B9 := hide (chain (unhide B5) (unhide hHeld.1))
      clear hHeld hS cia cil ccl hw9
      go_wp2_with fail
      refine (live7_any _).mono ?_
      rintro e w10 ⟨rfl, hw10⟩
      have B10 := hide (chain (unhide B9) hw10)
      have b10 := hide (chain (unhide hb9) hw10)
      clear hw10 B9 hb9
      go_wp2_with fail
      refine (unhide ccl2 _ _ _ (unhide b10) (unhide HC1)).mono ?_
      rintro e w11 ⟨⟨s1, s2, rfl⟩, hw11⟩
      have B11 := hide (chain (unhide B10) hw11)
      have b11 := hide (chain (unhide b10) hw11)
      clear hw11 B10 b10
      go_wp2_with fail
      refine (unhide ccl2 _ _ _ (unhide b11) (unhide HR2).symm).mono ?_
      rintro e w12 ⟨⟨s3, s4, rfl⟩, hw12⟩
      have B12 := hide (chain (unhide B11) hw12)
      clear hw12 B11 b11
      go_wp2_with fail
      go_ret
      exact ⟨by simp, unhide B12⟩
end Go.Proofs.Ytcpgodkgdceocaa.coolNext
