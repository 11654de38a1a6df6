/- CoolPut: the walk. -/
import Derived.Test.YtcpgodkgdceocaaCoO
import Derived.Test.YtcpgodkgdceocaaCoV
namespace Go.Proofs.Ytcpgodkgdceocaa.coolPut
open Go.RowKit Suf Val

theorem c4_drew7 {V W : World} {p0 p1 p2 p3 : Addr} {v0 v1 v2 v3 : Value} (h : Hid (Below V.heap.size V W) ∧ W.cell? p0 = some v0 ∧ W.cell? p1 = some v1 ∧ W.cell? p2 = some v2 ∧ W.cell? p3 = some v3) : Hid (Below V.heap.size V W.drew) ∧ W.drew.cell? p0 = some v0 ∧ W.drew.cell? p1 = some v1 ∧ W.drew.cell? p2 = some v2 ∧ W.drew.cell? p3 = some v3 := ⟨(unhide h.1).drew, h.2⟩
theorem c4_call7 {V W W' : World} {p0 p1 p2 p3 : Addr} {v0 v1 v2 v3 : Value} (hb : Below W.heap.size W W') (h : Hid (Below V.heap.size V W) ∧ W.cell? p0 = some v0 ∧ W.cell? p1 = some v1 ∧ W.cell? p2 = some v2 ∧ W.cell? p3 = some v3) : Hid (Below V.heap.size V W') ∧ W'.cell? p0 = some v0 ∧ W'.cell? p1 = some v1 ∧ W'.cell? p2 = some v2 ∧ W'.cell? p3 = some v3 :=
  ⟨chain (unhide h.1) hb, cell_kept hb h.2.1, cell_kept hb h.2.2.1, cell_kept hb h.2.2.2.1, cell_kept hb h.2.2.2.2⟩
set_option maxRecDepth 100000 in
set_option maxHeartbeats 32000000 in
theorem walk (u : Value) (l : List VCool) (c : VCool) (o : VOff) (m k : Int) (w : World) (hv : Lst coolK w u l) (hc : okO c.1) (_ho : okO o) :
    Calls Try.prog 6 #[layA u c o m k] w fun e w' => e = .returned (.bool true) ∧ Below w.heap.size w w' := by
  have HV := hide hv
  have HC := hide hc
  obtain ⟨a, cap, rfl⟩ := hv.val
  obtain ⟨n, hn⟩ : ∃ n, n = l.length := ⟨_, rfl⟩
  rw [← hn] at HV ⊢
  have HN := hide hn
  clear hv hc hn
  have cp := hide (fun (W : World) (h : Below w.heap.size w W) => pput_any _ l c W ((unhide HV).below h) (unhide HC))
  have cp2 := hide (fun (W : World) (v : Value) (l' : List VCool) (h : Lst coolK W v l') => pput_any v l' c W h (unhide HC))
  have ci := hide (fun (W : World) (v : Value) (l' : List VCool) (h : Lst coolK W v l') => pisCool_any v l' o m W h)
  have ci2 := hide (fun (W : World) (v : Value) (l' : List VCool) (h : Lst coolK W v l') => pisCool_any v l' c.1 m W h)
  have hob := off_beq o c.1
  obtain ⟨q, hq⟩ : ∃ q, q = (o == c.1) := ⟨_, rfl⟩
  rw [← hq] at hob
  have HQ := hide hq
  unfold coolA at cp cp2
  unfold offA at ci ci2
  unfold layA
  obtain ⟨Y0, hY0⟩ : ∃ X, X = bytesT c.1.1 := ⟨_, rfl⟩
  obtain ⟨Y1, hY1⟩ : ∃ X, X = bytesT c.1.2.1 := ⟨_, rfl⟩
  obtain ⟨Y2, hY2⟩ : ∃ X, X = bytesT c.1.2.2 := ⟨_, rfl⟩
  obtain ⟨X0, hX0⟩ : ∃ X, X = bytesT o.1 := ⟨_, rfl⟩
  obtain ⟨X1, hX1⟩ : ∃ X, X = bytesT o.2.1 := ⟨_, rfl⟩
  obtain ⟨X2, hX2⟩ : ∃ X, X = bytesT o.2.2 := ⟨_, rfl⟩
  rw [← hY0, ← hY1, ← hY2] at cp cp2 ci2
  rw [← hX0, ← hX1, ← hX2] at ci
  rw [← hY0, ← hY1, ← hY2, ← hX0, ← hX1, ← hX2] at hob ⊢
  have qT : ∀ W, (binOp .eql 23 (.agg #[.string X0, .string X1, .string X2]) (.agg #[.string Y0, .string Y1, .string Y2])).run Try.prog W = .ok (.bool q) W := fun W => by rw [eqlOff, hob]
  have qG := offGuard
  clear hY0 hY1 hY2 hX0 hX1 hX2 hob hq
  obtain ⟨W2, hW2⟩ : ∃ W, W = ((w.alloc (.cells #[.slice a n cap, .string Y0, .string Y1, .string Y2, .int .i64 c.2, .string X0, .string X1, .string X2, .int .i64 m, .int .i64 k] 43)).alloc (.cells #[.string Y0, .string Y1, .string Y2, .int .i64 c.2] 25)).alloc (.cells #[.string X0, .string X1, .string X2] 23) := ⟨_, rfl⟩
  have B2 : Hid (Below w.heap.size w W2) := by rw [hW2]; exact chain (chain (boxb _) (boxb _)) (boxb _)
  have F2 : Hid ((fun W : World => W.cell? ⟨w.heap.size + 1, 0, none⟩ = some (.string Y0) ∧ W.cell? ⟨w.heap.size + 1, 1, none⟩ = some (.string Y1) ∧ W.cell? ⟨w.heap.size + 1, 2, none⟩ = some (.string Y2) ∧ W.cell? ⟨w.heap.size + 1, 3, none⟩ = some (.int .i64 c.2) ∧ W.cell? ⟨w.heap.size + 2, 0, none⟩ = some (.string X0) ∧ W.cell? ⟨w.heap.size + 2, 1, none⟩ = some (.string X1) ∧ W.cell? ⟨w.heap.size + 2, 2, none⟩ = some (.string X2)) W2) := by
    rw [hW2]
    exact ⟨cell_box6 _ (by simp [go_sem]), cell_box6 _ (by simp [go_sem]), cell_box6 _ (by simp [go_sem]), cell_box6 _ (by simp [go_sem]), by simp [go_sem], by simp [go_sem], by simp [go_sem]⟩
  have f3w : Hid (W2.cell? ⟨w.heap.size, 8, none⟩ = some (.int .i64 m)) := by rw [hW2]; exact cell_box6 _ (cell_box6 _ (by simp [go_sem]))
  have GW := hide hW2
  clear hW2
  obtain ⟨PR, hPR⟩ : ∃ P, P = putR l c := ⟨_, rfl⟩
  rw [← hPR] at cp
  have HPR := hide hPR
  clear hPR
  go_enter Try.func6, Try.ntmps6
  obtain ⟨y0, y1, y2, y3, x0, x1, x2⟩ := unhide F2
  have f3 := unhide f3w
  rw [unhide GW] at y0 y1 y2 y3 x0 x1 x2 f3
  go_wp2_with fail
  rw [← unhide GW]
  clear y0 y1 y2 y3 x0 x1 x2 f3 f3w
  refine (unhide cp _ (unhide B2)).mono ?_
  rintro e w3 ⟨⟨va, rfl, hown⟩, hw3⟩
  have B3 := hide (chain (unhide B2) hw3)
  have F3 : Hid ((fun W : World => W.cell? ⟨w.heap.size + 1, 0, none⟩ = some (.string Y0) ∧ W.cell? ⟨w.heap.size + 1, 1, none⟩ = some (.string Y1) ∧ W.cell? ⟨w.heap.size + 1, 2, none⟩ = some (.string Y2) ∧ W.cell? ⟨w.heap.size + 1, 3, none⟩ = some (.int .i64 c.2) ∧ W.cell? ⟨w.heap.size + 2, 0, none⟩ = some (.string X0) ∧ W.cell? ⟨w.heap.size + 2, 1, none⟩ = some (.string X1) ∧ W.cell? ⟨w.heap.size + 2, 2, none⟩ = some (.string X2)) w3) := by
    obtain ⟨y0, y1, y2, y3, x0, x1, x2⟩ := unhide F2
    exact ⟨cell_kept hw3 y0, cell_kept hw3 y1, cell_kept hw3 y2, cell_kept hw3 y3, cell_kept hw3 x0, cell_kept hw3 x1, cell_kept hw3 x2⟩
  have LA := hide hown.lst
  clear hw3 hown cp B2 F2 GW
  by_cases hz : PR.2 = 0
  case neg =>
    have hb := nz hz
    have hnil : PR.1 = [] := by rw [unhide HPR]; exact put_err (by rw [← unhide HPR]; exact hz)
    rw [hnil] at LA
    obtain ⟨xa, xc, rfl⟩ := (unhide LA).val
    clear hz hnil qT qG
    go_wp2_with fail
    refine (live7_any _).mono ?_
    rintro e w4 ⟨rfl, hw4⟩
    have B4 := hide (chain (unhide B3) hw4)
    clear hw4
    go_wp2_with fail
    go_ret
    exact ⟨by simp, unhide B4⟩
  obtain ⟨A, hA⟩ : ∃ A, A = PR.1 := ⟨_, rfl⟩
  have hpe : putR l c = (A, 0) := by rw [← unhide HPR, hA, ← hz]
  obtain ⟨t1, t2, t3, t4, t5⟩ := put_twice hpe
  have h72 : n ≤ 72 := by
    have h0 : coolR l = 0 := by
      unfold putR at hpe
      by_cases h : coolR l = 0
      · exact h
      · rw [if_pos h] at hpe; exact absurd (congrArg Prod.snd hpe) h
    have := (cool_ok.1 h0).1
    rw [← unhide HN] at this; exact this
  rw [← hA] at LA
  obtain ⟨z, hz2⟩ : ∃ z, z = PR.2 := ⟨_, rfl⟩
  rw [← hz2] at hz ⊢
  subst hz
  obtain ⟨xa, xc, rfl⟩ := (unhide LA).val
  obtain ⟨na, hna⟩ : ∃ n, n = A.length := ⟨_, rfl⟩
  rw [← hna] at LA ⊢
  rw [← hna, ← unhide HN] at t3
  have cp3 := hide (unhide cp2 w3 _ A (unhide LA))
  rw [t2] at cp3
  have T4 := hide (t4 m)
  have T5 := hide (fun h => t5 o m h)
  have T1 := hide t1
  have HNA := hide hna
  clear t1 t2 t4 t5 hpe hz2 hA hna HPR
  obtain ⟨y0, y1, y2, y3, x0, x1, x2⟩ := unhide F3
  go_wp2_with fail
  refine (unhide cp3).mono ?_
  rintro e w5 ⟨⟨vb, rfl, hown⟩, hw5⟩
  have B5 := hide (chain (unhide B3) hw5)
  have LA5 := hide ((unhide LA).below hw5)
  have LB5 := hide hown.lst
  have LL5 := hide ((unhide HV).below (unhide B5))
  obtain ⟨xb, xd, rfl⟩ := hown.val
  have hS : (fun W => Hid (Below w5.heap.size w5 W) ∧ W.cell? ⟨w.heap.size + 1, 0, none⟩ = some (.string Y0) ∧ W.cell? ⟨w.heap.size + 1, 1, none⟩ = some (.string Y1) ∧ W.cell? ⟨w.heap.size + 1, 2, none⟩ = some (.string Y2) ∧ W.cell? ⟨w.heap.size + 1, 3, none⟩ = some (.int .i64 c.2) ∧ W.cell? ⟨w.heap.size + 2, 0, none⟩ = some (.string X0) ∧ W.cell? ⟨w.heap.size + 2, 1, none⟩ = some (.string X1) ∧ W.cell? ⟨w.heap.size + 2, 2, none⟩ = some (.string X2)) w5 := ⟨Below.refl _ _, cell_kept hw5 y0, cell_kept hw5 y1, cell_kept hw5 y2, cell_kept hw5 y3, cell_kept hw5 x0, cell_kept hw5 x1, cell_kept hw5 x2⟩
  simp only at hS
  clear hw5 hown cp2 cp3 y0 y1 y2 y3 x0 x1 x2 B3 F3 LA
  cases q with
  | true =>
    go_wp2_with fail
    refine wp_region_noPanic ?_
    refine wp_region_held_drew (S := fun W => Hid (Below w5.heap.size w5 W) ∧ W.cell? ⟨w.heap.size + 1, 0, none⟩ = some (.string Y0) ∧ W.cell? ⟨w.heap.size + 1, 1, none⟩ = some (.string Y1) ∧ W.cell? ⟨w.heap.size + 1, 2, none⟩ = some (.string Y2) ∧ W.cell? ⟨w.heap.size + 1, 3, none⟩ = some (.int .i64 c.2) ∧ W.cell? ⟨w.heap.size + 2, 0, none⟩ = some (.string X0) ∧ W.cell? ⟨w.heap.size + 2, 1, none⟩ = some (.string X1) ∧ W.cell? ⟨w.heap.size + 2, 2, none⟩ = some (.string X2)) (by kernel_rfl) (c7_drew7 hS) (fun hHeld => ?_)
    refine takeH6 (i := 0) (d := 40) (v := ?_) rfl rfl (by kernel_rfl) (by kernel_rfl) (by kernel_rfl) (fun _ _ _ h => h) (Or.inl ⟨by rfl, ?_⟩) (by assumption) ?_
    rotate_left
    · (intro W hSW; (try dsimp only at hSW); go_simp; try (with_reducible rfl))
    simp only [Act.put, List.setIfInBounds_toArray, List.set_cons_zero, List.set_cons_succ]
    refine takeH6 (i := 1) (d := 41) (v := ?_) rfl rfl (by kernel_rfl) (by kernel_rfl) (by kernel_rfl) (fun _ _ _ h => h) (Or.inl ⟨by rfl, ?_⟩) (by assumption) ?_
    rotate_left
    · (intro W hSW; (try dsimp only at hSW); go_simp; try (with_reducible rfl))
    simp only [Act.put, List.setIfInBounds_toArray, List.set_cons_zero, List.set_cons_succ]
    refine takeH6 (i := 2) (d := 42) (v := ?_) rfl rfl (by kernel_rfl) (by kernel_rfl) (by kernel_rfl) (fun _ _ _ h => h) (Or.inl ⟨by rfl, ?_⟩) (by assumption) ?_
    rotate_left
    · (intro W hSW; (try dsimp only at hSW); go_simp; try (with_reducible rfl))
    simp only [Act.put, List.setIfInBounds_toArray, List.set_cons_zero, List.set_cons_succ]
    refine takeH6 (i := 3) (d := 43) (v := ?_) rfl rfl (by kernel_rfl) (by kernel_rfl) (by kernel_rfl) (fun _ _ _ h => h) (Or.inl ⟨by rfl, ?_⟩) (by assumption) ?_
    rotate_left
    · (intro W hSW; (try dsimp only at hSW); go_simp; try (with_reducible rfl))
    simp only [Act.put, List.setIfInBounds_toArray, List.set_cons_zero, List.set_cons_succ]
    refine takeH6 (i := 4) (d := 44) (v := ?_) rfl rfl (by kernel_rfl) (by kernel_rfl) (by kernel_rfl) (fun _ _ _ h => h) (Or.inl ⟨by rfl, ?_⟩) (by assumption) ?_
    rotate_left
    · (intro W hSW; (try dsimp only at hSW); go_simp; try (with_reducible rfl))
    simp only [Act.put, List.setIfInBounds_toArray, List.set_cons_zero, List.set_cons_succ]
    refine takeH6 (i := 5) (d := 45) (v := undef) rfl rfl (by kernel_rfl) (by kernel_rfl) (by kernel_rfl) (fun _ _ _ h => h) (Or.inr ⟨by rfl, rfl⟩) (by assumption) ?_
    simp only [Act.put, List.setIfInBounds_toArray, List.set_cons_zero, List.set_cons_succ]
    refine takeH6 (i := 6) (d := 46) (v := undef) rfl rfl (by kernel_rfl) (by kernel_rfl) (by kernel_rfl) (fun _ _ _ h => h) (Or.inr ⟨by rfl, rfl⟩) (by assumption) ?_
    simp only [Act.put, List.setIfInBounds_toArray, List.set_cons_zero, List.set_cons_succ]
    refine takeH6 (i := 7) (d := 47) (v := undef) rfl rfl (by kernel_rfl) (by kernel_rfl) (by kernel_rfl) (fun _ _ _ h => h) (Or.inr ⟨by rfl, rfl⟩) (by assumption) ?_
    simp only [Act.put, List.setIfInBounds_toArray, List.set_cons_zero, List.set_cons_succ]
    refine takeH6 (i := 8) (d := 48) (v := undef) rfl rfl (by kernel_rfl) (by kernel_rfl) (by kernel_rfl) (fun _ _ _ h => h) (Or.inr ⟨by rfl, rfl⟩) (by assumption) ?_
    simp only [Act.put, List.setIfInBounds_toArray, List.set_cons_zero, List.set_cons_succ]
    refine takeH6 (i := 9) (d := 49) (v := undef) rfl rfl (by kernel_rfl) (by kernel_rfl) (by kernel_rfl) (fun _ _ _ h => h) (Or.inr ⟨by rfl, rfl⟩) (by assumption) ?_
    simp only [Act.put, List.setIfInBounds_toArray, List.set_cons_zero, List.set_cons_succ]
    refine takeH6 (i := 10) (d := 50) (v := undef) rfl rfl (by kernel_rfl) (by kernel_rfl) (by kernel_rfl) (fun _ _ _ h => h) (Or.inr ⟨by rfl, rfl⟩) (by assumption) ?_
    simp only [Act.put, List.setIfInBounds_toArray, List.set_cons_zero, List.set_cons_succ]
    refine takeH6 (i := 11) (d := 51) (v := undef) rfl rfl (by kernel_rfl) (by kernel_rfl) (by kernel_rfl) (fun _ _ _ h => h) (Or.inr ⟨by rfl, rfl⟩) (by assumption) ?_
    simp only [Act.put, List.setIfInBounds_toArray, List.set_cons_zero, List.set_cons_succ]
    refine takeH6 (i := 12) (d := 52) (v := undef) rfl rfl (by kernel_rfl) (by kernel_rfl) (by kernel_rfl) (fun _ _ _ h => h) (Or.inr ⟨by rfl, rfl⟩) (by assumption) ?_
    simp only [Act.put, List.setIfInBounds_toArray, List.set_cons_zero, List.set_cons_succ]
    refine takeH6 (i := 13) (d := 53) (v := undef) rfl rfl (by kernel_rfl) (by kernel_rfl) (by kernel_rfl) (fun _ _ _ h => h) (Or.inr ⟨by rfl, rfl⟩) (by assumption) ?_
    simp only [Act.put, List.setIfInBounds_toArray, List.set_cons_zero, List.set_cons_succ]
    refine takeH6 (i := 14) (d := 54) (v := ?_) rfl rfl (by kernel_rfl) (by kernel_rfl) (by kernel_rfl) (fun _ _ _ h => h) (Or.inl ⟨by rfl, ?_⟩) (by assumption) ?_
    rotate_left
    · (intro W hSW; (try dsimp only at hSW); go_simp; try (with_reducible rfl))
    simp only [Act.put, List.setIfInBounds_toArray, List.set_cons_zero, List.set_cons_succ]
    refine takeH6 (i := 15) (d := 11) (v := ?_) rfl rfl (by kernel_rfl) (by kernel_rfl) (by kernel_rfl) (fun _ _ _ h => h) (Or.inl ⟨by rfl, ?_⟩) (by assumption) ?_
    rotate_left
    · (intro W hSW; (try dsimp only at hSW); go_simp; try (with_reducible rfl))
    simp only [Act.put, List.setIfInBounds_toArray, List.set_cons_zero, List.set_cons_succ]
    refine wpAnyH_done (by kernel_rfl) ?_ _
    refine NoPanic.normal ?_
    obtain ⟨hb6, y0, y1, y2, y3, _, _, _⟩ := hHeld
    have B6 := hide (chain (unhide B5) (unhide hb6))
    have LA6 := hide ((unhide LA5).below (unhide hb6))
    have LB6 := hide ((unhide LB5).below (unhide hb6))
    clear hS LA5 LB5 LL5 qT hb6
    obtain ⟨w6, hw6⟩ : ∃ W, W = w5.drew := ⟨_, rfl⟩
    rw [← hw6] at y0 y1 y2 y3 B6 LA6 LB6 ⊢
    clear hw6
    have cs := hide (fun (V : World) (h : Hid (Below w6.heap.size w6 V) ∧ V.cell? ⟨w.heap.size + 1, 0, none⟩ = some (.string Y0) ∧ V.cell? ⟨w.heap.size + 1, 1, none⟩ = some (.string Y1) ∧ V.cell? ⟨w.heap.size + 1, 2, none⟩ = some (.string Y2) ∧ V.cell? ⟨w.heap.size + 1, 3, none⟩ = some (.int .i64 c.2)) => same7_any _ _ A A V ((unhide LA6).below (unhide h.1)) ((unhide LB6).below (unhide h.1)))
    rw [show (A == A) = true by simp] at cs
    have ck := hide (fun (V : World) (h : Hid (Below w6.heap.size w6 V) ∧ V.cell? ⟨w.heap.size + 1, 0, none⟩ = some (.string Y0) ∧ V.cell? ⟨w.heap.size + 1, 1, none⟩ = some (.string Y1) ∧ V.cell? ⟨w.heap.size + 1, 2, none⟩ = some (.string Y2) ∧ V.cell? ⟨w.heap.size + 1, 3, none⟩ = some (.int .i64 c.2)) => pcheck7_any _ A V ((unhide LA6).below (unhide h.1)))
    rw [unhide T1] at ck
    have ci3 := hide (fun (V : World) (h : Hid (Below w6.heap.size w6 V) ∧ V.cell? ⟨w.heap.size + 1, 0, none⟩ = some (.string Y0) ∧ V.cell? ⟨w.heap.size + 1, 1, none⟩ = some (.string Y1) ∧ V.cell? ⟨w.heap.size + 1, 2, none⟩ = some (.string Y2) ∧ V.cell? ⟨w.heap.size + 1, 3, none⟩ = some (.int .i64 c.2)) => unhide ci2 V _ A ((unhide LA6).below (unhide h.1)))
    rw [unhide T4] at ci3
    have hle : decide ((na : Int) ≤ (n : Int) + 1) = true := by simp; omega
    have e1 : IntKind.i64.wrap ((n : Int) + 1) = (n : Int) + 1 := by simp [IntKind.wrap, IntKind.bits, IntKind.signed]; omega
    have hle2 : (na : Int) ≤ (n : Int) + 1 := by omega
    have hS2 : (fun W : World => Hid (Below w6.heap.size w6 W) ∧ W.cell? ⟨w.heap.size + 1, 0, none⟩ = some (.string Y0) ∧ W.cell? ⟨w.heap.size + 1, 1, none⟩ = some (.string Y1) ∧ W.cell? ⟨w.heap.size + 1, 2, none⟩ = some (.string Y2) ∧ W.cell? ⟨w.heap.size + 1, 3, none⟩ = some (.int .i64 c.2)) w6 := ⟨Below.refl _ _, y0, y1, y2, y3⟩
    simp only at hS2
    clear y0 y1 y2 y3 LA6 LB6 ci ci2
    obtain ⟨q2, hq2⟩ : ∃ q, q = decide (m < c.2) := ⟨_, rfl⟩
    rw [← hq2] at ci3
    go_wp2_with fail
    go_region_held3 (fun W => Hid (Below w6.heap.size w6 W) ∧ W.cell? ⟨w.heap.size + 1, 0, none⟩ = some (.string Y0) ∧ W.cell? ⟨w.heap.size + 1, 1, none⟩ = some (.string Y1) ∧ W.cell? ⟨w.heap.size + 1, 2, none⟩ = some (.string Y2) ∧ W.cell? ⟨w.heap.size + 1, 3, none⟩ = some (.int .i64 c.2))
      (first | (with_reducible exact hS2) | (with_reducible assumption) | (with_reducible refine c4_drew7 ?_; with_reducible assumption) | (refine c4_call7 (by assumption) ?_; with_reducible assumption))
      (first
        | (go_at_call 10; refine (live7_any _).mono ?_; rintro e w9 ⟨rfl, hw9⟩)
        | (go_at_call 14; refine (unhide cs _ (by with_reducible assumption)).mono ?_; rintro e w9 ⟨rfl, hw9⟩)
        | (go_at_call 21; refine (unhide ci3 _ (by with_reducible assumption)).mono ?_; rintro e w9 ⟨rfl, hw9⟩)
        | (go_at_call 9; refine (unhide ck _ (by with_reducible assumption)).mono ?_; rintro e w9 ⟨rfl, hw9⟩))
    rename_i hH
    have B9 := hide (chain (unhide B6) (unhide hH.1))
    clear hH hS2
    go_wp2_with fail
    go_ret
    refine ⟨ret_bool ?_, unhide B9⟩
    first | rfl | (rw [hq2]; simp)
  | false =>
    obtain ⟨r, hr⟩ : ∃ r, r = isCoolR l o m := ⟨_, rfl⟩
    have hne : ¬ o = c.1 := fun e => by have := unhide HQ; rw [e] at this; simp at this
    have cia := hide (fun (V : World) (h : Hid (Below w5.heap.size w5 V) ∧ V.cell? ⟨w.heap.size + 1, 0, none⟩ = some (.string Y0) ∧ V.cell? ⟨w.heap.size + 1, 1, none⟩ = some (.string Y1) ∧ V.cell? ⟨w.heap.size + 1, 2, none⟩ = some (.string Y2) ∧ V.cell? ⟨w.heap.size + 1, 3, none⟩ = some (.int .i64 c.2) ∧ V.cell? ⟨w.heap.size + 2, 0, none⟩ = some (.string X0) ∧ V.cell? ⟨w.heap.size + 2, 1, none⟩ = some (.string X1) ∧ V.cell? ⟨w.heap.size + 2, 2, none⟩ = some (.string X2)) => unhide ci V _ A ((unhide LA5).below (unhide h.1)))
    have cil := hide (fun (V : World) (h : Hid (Below w5.heap.size w5 V) ∧ V.cell? ⟨w.heap.size + 1, 0, none⟩ = some (.string Y0) ∧ V.cell? ⟨w.heap.size + 1, 1, none⟩ = some (.string Y1) ∧ V.cell? ⟨w.heap.size + 1, 2, none⟩ = some (.string Y2) ∧ V.cell? ⟨w.heap.size + 1, 3, none⟩ = some (.int .i64 c.2) ∧ V.cell? ⟨w.heap.size + 2, 0, none⟩ = some (.string X0) ∧ V.cell? ⟨w.heap.size + 2, 1, none⟩ = some (.string X1) ∧ V.cell? ⟨w.heap.size + 2, 2, none⟩ = some (.string X2)) => unhide ci V _ l ((unhide LL5).below (unhide h.1)))
    rw [unhide T5 hne, ← hr] at cia
    rw [← hr] at cil
    clear hr hne
    go_wp2_with fail
    cases r <;> go_region_held3 (fun W => Hid (Below w5.heap.size w5 W) ∧ W.cell? ⟨w.heap.size + 1, 0, none⟩ = some (.string Y0) ∧ W.cell? ⟨w.heap.size + 1, 1, none⟩ = some (.string Y1) ∧ W.cell? ⟨w.heap.size + 1, 2, none⟩ = some (.string Y2) ∧ W.cell? ⟨w.heap.size + 1, 3, none⟩ = some (.int .i64 c.2) ∧ W.cell? ⟨w.heap.size + 2, 0, none⟩ = some (.string X0) ∧ W.cell? ⟨w.heap.size + 2, 1, none⟩ = some (.string X1) ∧ W.cell? ⟨w.heap.size + 2, 2, none⟩ = some (.string X2))
      (first | (with_reducible exact hS) | (with_reducible assumption) | (with_reducible refine c7_drew7 ?_; with_reducible assumption) | (refine c7_call7 (by assumption) ?_; with_reducible assumption))
      (first
        | (go_at_call 21; refine (unhide cia _ (by with_reducible assumption)).mono ?_; rintro e w9 ⟨rfl, hw9⟩)
        | (go_at_call 21; refine (unhide cil _ (by with_reducible assumption)).mono ?_; rintro e w9 ⟨rfl, hw9⟩))
    all_goals
      rename_i hHeld
      obtain ⟨hb6, y0, y1, y2, y3, _, _, _⟩ := hHeld
      have B6 := hide (chain (unhide B5) (unhide hb6))
      have LA6 := hide ((unhide LA5).below (unhide hb6))
      have LB6 := hide ((unhide LB5).below (unhide hb6))
      clear hS LA5 LB5 LL5 qT hb6
      obtain ⟨w6, hw6⟩ : ∃ W, W = w9 := ⟨_, rfl⟩
      rw [← hw6] at y0 y1 y2 y3 B6 LA6 LB6 ⊢
      clear hw6
      have cs := hide (fun (V : World) (h : Hid (Below w6.heap.size w6 V) ∧ V.cell? ⟨w.heap.size + 1, 0, none⟩ = some (.string Y0) ∧ V.cell? ⟨w.heap.size + 1, 1, none⟩ = some (.string Y1) ∧ V.cell? ⟨w.heap.size + 1, 2, none⟩ = some (.string Y2) ∧ V.cell? ⟨w.heap.size + 1, 3, none⟩ = some (.int .i64 c.2)) => same7_any _ _ A A V ((unhide LA6).below (unhide h.1)) ((unhide LB6).below (unhide h.1)))
      rw [show (A == A) = true by simp] at cs
      have ck := hide (fun (V : World) (h : Hid (Below w6.heap.size w6 V) ∧ V.cell? ⟨w.heap.size + 1, 0, none⟩ = some (.string Y0) ∧ V.cell? ⟨w.heap.size + 1, 1, none⟩ = some (.string Y1) ∧ V.cell? ⟨w.heap.size + 1, 2, none⟩ = some (.string Y2) ∧ V.cell? ⟨w.heap.size + 1, 3, none⟩ = some (.int .i64 c.2)) => pcheck7_any _ A V ((unhide LA6).below (unhide h.1)))
      rw [unhide T1] at ck
      have ci3 := hide (fun (V : World) (h : Hid (Below w6.heap.size w6 V) ∧ V.cell? ⟨w.heap.size + 1, 0, none⟩ = some (.string Y0) ∧ V.cell? ⟨w.heap.size + 1, 1, none⟩ = some (.string Y1) ∧ V.cell? ⟨w.heap.size + 1, 2, none⟩ = some (.string Y2) ∧ V.cell? ⟨w.heap.size + 1, 3, none⟩ = some (.int .i64 c.2)) => unhide ci2 V _ A ((unhide LA6).below (unhide h.1)))
      rw [unhide T4] at ci3
      have hle : decide ((na : Int) ≤ (n : Int) + 1) = true := by simp; omega
      have e1 : IntKind.i64.wrap ((n : Int) + 1) = (n : Int) + 1 := by simp [IntKind.wrap, IntKind.bits, IntKind.signed]; omega
      have hle2 : (na : Int) ≤ (n : Int) + 1 := by omega
      have hS2 : (fun W : World => Hid (Below w6.heap.size w6 W) ∧ W.cell? ⟨w.heap.size + 1, 0, none⟩ = some (.string Y0) ∧ W.cell? ⟨w.heap.size + 1, 1, none⟩ = some (.string Y1) ∧ W.cell? ⟨w.heap.size + 1, 2, none⟩ = some (.string Y2) ∧ W.cell? ⟨w.heap.size + 1, 3, none⟩ = some (.int .i64 c.2)) w6 := ⟨Below.refl _ _, y0, y1, y2, y3⟩
      simp only at hS2
      clear y0 y1 y2 y3 LA6 LB6 ci ci2
      obtain ⟨q2, hq2⟩ : ∃ q, q = decide (m < c.2) := ⟨_, rfl⟩
      rw [← hq2] at ci3
      go_wp2_with fail
      go_region_held3 (fun W => Hid (Below w6.heap.size w6 W) ∧ W.cell? ⟨w.heap.size + 1, 0, none⟩ = some (.string Y0) ∧ W.cell? ⟨w.heap.size + 1, 1, none⟩ = some (.string Y1) ∧ W.cell? ⟨w.heap.size + 1, 2, none⟩ = some (.string Y2) ∧ W.cell? ⟨w.heap.size + 1, 3, none⟩ = some (.int .i64 c.2))
        (first | (with_reducible exact hS2) | (with_reducible assumption) | (with_reducible refine c4_drew7 ?_; with_reducible assumption) | (refine c4_call7 (by assumption) ?_; with_reducible assumption))
        (first
          | (go_at_call 10; refine (live7_any _).mono ?_; rintro e w9 ⟨rfl, hw9⟩)
          | (go_at_call 14; refine (unhide cs _ (by with_reducible assumption)).mono ?_; rintro e w9 ⟨rfl, hw9⟩)
          | (go_at_call 21; refine (unhide ci3 _ (by with_reducible assumption)).mono ?_; rintro e w9 ⟨rfl, hw9⟩)
          | (go_at_call 9; refine (unhide ck _ (by with_reducible assumption)).mono ?_; rintro e w9 ⟨rfl, hw9⟩))
      rename_i hH
      have B9 := hide (chain (unhide B6) (unhide hH.1))
      clear hH hS2
      go_wp2_with fail
      go_ret
      refine ⟨ret_bool ?_, unhide B9⟩
      first | rfl | (rw [hq2]; simp)
end Go.Proofs.Ytcpgodkgdceocaa.coolPut
