/- CatalogMore: the walk. -/
import Derived.Test.YtepcnfnmphgccaaGreatDoorCmAG
import Derived.Test.YtepcnfnmphgccaaGreatDoorGenEG
import Derived.Test.YtepcnfnmphgccaaGreatDoorCuTG
namespace Go.Proofs.YtepcnfnmphgccaaGreatDoor.catalogMore
open Go.RowKit Suf Val

theorem k7_drew {V W : World} {p0 p1 p2 p3 p4 p5 p6 : Addr} {v0 v1 v2 v3 v4 v5 v6 : Value} (h : Hid (Below V.heap.size V W) ∧ W.cell? p0 = some v0 ∧ W.cell? p1 = some v1 ∧ W.cell? p2 = some v2 ∧ W.cell? p3 = some v3 ∧ W.cell? p4 = some v4 ∧ W.cell? p5 = some v5 ∧ W.cell? p6 = some v6) : Hid (Below V.heap.size V W.drew) ∧ W.drew.cell? p0 = some v0 ∧ W.drew.cell? p1 = some v1 ∧ W.drew.cell? p2 = some v2 ∧ W.drew.cell? p3 = some v3 ∧ W.drew.cell? p4 = some v4 ∧ W.drew.cell? p5 = some v5 ∧ W.drew.cell? p6 = some v6 := ⟨(unhide h.1).drew, h.2⟩
theorem k7_call {V W W' : World} {p0 p1 p2 p3 p4 p5 p6 : Addr} {v0 v1 v2 v3 v4 v5 v6 : Value} (hb : Below W.heap.size W W') (h : Hid (Below V.heap.size V W) ∧ W.cell? p0 = some v0 ∧ W.cell? p1 = some v1 ∧ W.cell? p2 = some v2 ∧ W.cell? p3 = some v3 ∧ W.cell? p4 = some v4 ∧ W.cell? p5 = some v5 ∧ W.cell? p6 = some v6) : Hid (Below V.heap.size V W') ∧ W'.cell? p0 = some v0 ∧ W'.cell? p1 = some v1 ∧ W'.cell? p2 = some v2 ∧ W'.cell? p3 = some v3 ∧ W'.cell? p4 = some v4 ∧ W'.cell? p5 = some v5 ∧ W'.cell? p6 = some v6 :=
  ⟨chain (unhide h.1) hb, cell_kept hb h.2.1, cell_kept hb h.2.2.1, cell_kept hb h.2.2.2.1, cell_kept hb h.2.2.2.2.1, cell_kept hb h.2.2.2.2.2.1, cell_kept hb h.2.2.2.2.2.2.1, cell_kept hb h.2.2.2.2.2.2.2⟩
set_option maxRecDepth 100000 in
set_option maxHeartbeats 32000000 in
theorem walk (v : Value) (l : List VType) (t : VType) (u1 u2 : Value) (o : VOff) (w : World) (hL : Laid w) (hv : Lst typK w v l) (hb : l.length * 96 ≤ reachBytes) (hs : short t.name) (h1 : Lst labK w u1 t.labs) (h2 : Lst ofgK w u2 t.offs) (ho : okO o) :
    Calls Tryz.prog 7 #[v, typA t u1 u2, offA o] w fun e w' => e = .returned (.bool true) ∧ Below w.heap.size w w' := by
  have HL := hide hL
  have HB : Hid ((l.length + 1) * 96 ≤ 140737488355328) := by unfold reachBytes at hb; show _ ≤ _; omega
  have HV := hide hv
  have HO := hide ho
  have HS := hide hs
  obtain ⟨a, c, rfl⟩ := hv.val
  obtain ⟨a1, d1, rfl⟩ := h1.val
  obtain ⟨a2, d2, rfl⟩ := h2.val
  obtain ⟨n, hn⟩ : ∃ n, n = l.length := ⟨_, rfl⟩
  rw [← hn] at HV HB ⊢
  have HN := hide hn
  have H1 := hide h1
  have H2 := hide h2
  obtain ⟨m1, hm1⟩ : ∃ n, n = t.labs.length := ⟨_, rfl⟩
  obtain ⟨m2, hm2⟩ : ∃ n, n = t.offs.length := ⟨_, rfl⟩
  rw [← hm1] at H1 ⊢
  rw [← hm2] at H2 ⊢
  obtain ⟨N0, hN0⟩ : ∃ X, X = bytesT t.name := ⟨_, rfl⟩
  have HN0 := hide hN0
  unfold typA offA
  rw [← hN0]
  obtain ⟨W2, hW2⟩ : ∃ W, W = (w.alloc (.cells #[.string N0, .int .i64 t.cap.1, .int .i64 t.cap.2, .int .i64 t.ovr.1, .int .i64 t.ovr.2, .slice a1 m1 d1, .slice a2 m2 d2] 57)).alloc (.cells #[.string (bytesT o.1), .string (bytesT o.2.1), .string (bytesT o.2.2)] 24) := ⟨_, rfl⟩
  have B2 : Hid (Below w.heap.size w W2) := by rw [hW2]; exact chain (boxb _) (boxb _)
  have F2 : Hid ((fun V : World => V.cell? ⟨w.heap.size, 0, none⟩ = some (.string N0) ∧ V.cell? ⟨w.heap.size, 1, none⟩ = some (.int .i64 t.cap.1) ∧ V.cell? ⟨w.heap.size, 2, none⟩ = some (.int .i64 t.cap.2) ∧ V.cell? ⟨w.heap.size, 3, none⟩ = some (.int .i64 t.ovr.1) ∧ V.cell? ⟨w.heap.size, 4, none⟩ = some (.int .i64 t.ovr.2) ∧ V.cell? ⟨w.heap.size, 5, none⟩ = some (.slice a1 m1 d1) ∧ V.cell? ⟨w.heap.size, 6, none⟩ = some (.slice a2 m2 d2)) W2) := by
    rw [hW2]
    exact ⟨cell_box6 _ (by simp [go_sem]), cell_box6 _ (by simp [go_sem]), cell_box6 _ (by simp [go_sem]), cell_box6 _ (by simp [go_sem]), cell_box6 _ (by simp [go_sem]), cell_box6 _ (by simp [go_sem]), cell_box6 _ (by simp [go_sem])⟩
  have O2 : Hid (W2.cell? ⟨w.heap.size + 1, 0, none⟩ = some (.string (bytesT o.1)) ∧ W2.cell? ⟨w.heap.size + 1, 1, none⟩ = some (.string (bytesT o.2.1)) ∧ W2.cell? ⟨w.heap.size + 1, 2, none⟩ = some (.string (bytesT o.2.2))) := by
    rw [hW2]; exact ⟨by simp [go_sem], by simp [go_sem], by simp [go_sem]⟩
  have s2 : W2.heap.size = w.heap.size + 1 + 1 := by rw [hW2]; simp
  have GW := hide hW2
  clear hL hv hb hs h1 h2 ho hn hm1 hm2 hN0 hW2
  go_enter Tryz.func7, Tryz.ntmps7
  go_wp2_with fail
  rw [← unhide GW]
  have hS : (fun V : World => Hid (Below W2.heap.size W2 V) ∧ V.cell? ⟨w.heap.size, 0, none⟩ = some (.string N0) ∧ V.cell? ⟨w.heap.size, 1, none⟩ = some (.int .i64 t.cap.1) ∧ V.cell? ⟨w.heap.size, 2, none⟩ = some (.int .i64 t.cap.2) ∧ V.cell? ⟨w.heap.size, 3, none⟩ = some (.int .i64 t.ovr.1) ∧ V.cell? ⟨w.heap.size, 4, none⟩ = some (.int .i64 t.ovr.2) ∧ V.cell? ⟨w.heap.size, 5, none⟩ = some (.slice a1 m1 d1) ∧ V.cell? ⟨w.heap.size, 6, none⟩ = some (.slice a2 m2 d2)) W2 := ⟨Below.refl _ _, unhide F2⟩
  simp only at hS
  have A0 : ∀ V, Below W2.heap.size W2 V → Hid (Below W2.heap.size W2 V) := fun _ h => h
  have LT2 := hide ((unhide HV).below (unhide B2))
  have L12 := hide ((unhide H1).below (unhide B2))
  have L22 := hide ((unhide H2).below (unhide B2))
  have kall : Hid (∀ V, Below W2.heap.size W2 V → Hid (Below W2.heap.size W2 V) ∧ V.cell? ⟨w.heap.size, 0, none⟩ = some (.string N0) ∧ V.cell? ⟨w.heap.size, 1, none⟩ = some (.int .i64 t.cap.1) ∧ V.cell? ⟨w.heap.size, 2, none⟩ = some (.int .i64 t.cap.2) ∧ V.cell? ⟨w.heap.size, 3, none⟩ = some (.int .i64 t.ovr.1) ∧ V.cell? ⟨w.heap.size, 4, none⟩ = some (.int .i64 t.ovr.2) ∧ V.cell? ⟨w.heap.size, 5, none⟩ = some (.slice a1 m1 d1) ∧ V.cell? ⟨w.heap.size, 6, none⟩ = some (.slice a2 m2 d2)) := fun V h => ⟨h, cell_kept h (unhide F2).1, cell_kept h (unhide F2).2.1, cell_kept h (unhide F2).2.2.1, cell_kept h (unhide F2).2.2.2.1, cell_kept h (unhide F2).2.2.2.2.1, cell_kept h (unhide F2).2.2.2.2.2.1, cell_kept h (unhide F2).2.2.2.2.2.2⟩
  have hb0 : Hid (0 + l.length ≤ maxLen ∧ (0 + l.length) * 96 ≤ 140737488355328) := by have := unhide HB; have := unhide HN; show _ ∧ _; unfold maxLen; omega
  have E0 : Hid (((W2.alloc (.cells #[] 57)).drew).ownsRow W2.heap.size 57 7 (.slice (some ⟨w.heap.size + 1 + 1, 0, none⟩) 0 0) 0 []) := by
    rw [← s2]; exact grow_below (grow_empty (Nat.le_refl _)) (below_drew6 _)
  have hb1' : Hid (0 + l.length + [t].length ≤ maxLen ∧ (0 + l.length + [t].length) * 96 ≤ 140737488355328) := by have := unhide HB; have := unhide HN; show _ ∧ _; unfold maxLen; simp; omega
  obtain ⟨⟨zT, hinfoT, hzsT⟩, _, _⟩ := tells_typ
  obtain ⟨ti, hti⟩ := ginfo hinfoT
  have HTI := hide hti
  have HZS : Hid (zT.cells.size = 7) := hzsT
  have hone : Hid (∀ u ∈ ([.string N0, .int .i64 t.cap.1, .int .i64 t.cap.2, .int .i64 t.ovr.1, .int .i64 t.ovr.2, .slice a1 m1 d1, .slice a2 m2 d2] : List Value), u.oneCell' = true) := fun u hu => by
    simp only [List.mem_cons, List.not_mem_nil, or_false] at hu
    rcases hu with rfl | rfl | rfl | rfl | rfl | rfl | rfl <;> rfl
  clear hti hinfoT hzsT
  have one : Hid (∀ V : World, Below W2.heap.size W2 V → Lst typK (V.alloc (.cells #[.string N0, .int .i64 t.cap.1, .int .i64 t.cap.2, .int .i64 t.ovr.1, .int .i64 t.ovr.2, .slice a1 m1 d1, .slice a2 m2 d2] 57)) (.slice (some ⟨V.heap.size, 0, none⟩) 1 1) [t]) := fun V h => by
    rw [unhide HN0]
    exact rows_block (t := 57) (rows_one (typ_row (w := V) (x := t) (unhide HS) ((unhide L12).below h) ((unhide L22).below h))) (by simp) rfl rfl
  have E1 : Hid (((W2.alloc (.cells #[] 57)).alloc (.cells #[.string N0, .int .i64 t.cap.1, .int .i64 t.cap.2, .int .i64 t.ovr.1, .int .i64 t.ovr.2, .slice a1 m1 d1, .slice a2 m2 d2] 57)).drew.ownsRow W2.heap.size 57 7 (.slice (some ⟨w.heap.size + 1 + 1, 0, none⟩) 0 0) 0 []) := by
    rw [← s2]; exact grow_below (grow_below (grow_empty (Nat.le_refl _)) (boxb _)) (below_drew6 _)
  have E2 : Hid (((W2.alloc (.cells #[.string N0, .int .i64 t.cap.1, .int .i64 t.cap.2, .int .i64 t.ovr.1, .int .i64 t.ovr.2, .slice a1 m1 d1, .slice a2 m2 d2] 57)).alloc (.cells #[] 57)).drew.ownsRow W2.heap.size 57 7 (.slice (some ⟨w.heap.size + 1 + 1 + 1, 0, none⟩) 0 0) 0 []) := by
    have h := grow_empty (w := W2.alloc (.cells #[.string N0, .int .i64 t.cap.1, .int .i64 t.cap.2, .int .i64 t.ovr.1, .int .i64 t.ovr.2, .slice a1 m1 d1, .slice a2 m2 d2] 57)) (base := W2.heap.size) (T := 57) (sz := 7) (by simp)
    rw [show (W2.alloc (.cells #[.string N0, .int .i64 t.cap.1, .int .i64 t.cap.2, .int .i64 t.ovr.1, .int .i64 t.ovr.2, .slice a1 m1 d1, .slice a2 m2 d2] 57)).heap.size = w.heap.size + 1 + 1 + 1 by simp [s2]] at h
    exact grow_below h (below_drew6 _)
  have ka6 : Hid (∀ (V : World) (o' : Obj), Below W2.heap.size W2 V → Below W2.heap.size W2 (V.alloc o')) := fun V o' h => chain h (boxb o')
  have kd6 : Hid (∀ (V : World), Below W2.heap.size W2 V → Below W2.heap.size W2 V.drew) := fun V h => chain h (below_drew6 V)
  have cT1 : Hid (∀ j q, ([.string N0, .int .i64 t.cap.1, .int .i64 t.cap.2, .int .i64 t.ovr.1, .int .i64 t.ovr.2, .slice a1 m1 d1, .slice a2 m2 d2] : List Value)[j]? = some q → ((W2.alloc (.cells #[] 57)).alloc (.cells #[.string N0, .int .i64 t.cap.1, .int .i64 t.cap.2, .int .i64 t.ovr.1, .int .i64 t.ovr.2, .slice a1 m1 d1, .slice a2 m2 d2] 57)).drew.cell? ((⟨w.heap.size + 1 + 1 + 1, 0, none⟩ : Addr).add j) = some q) := by
    have h := World.news_of_block (w := (W2.alloc (.cells #[] 57)).alloc (.cells #[.string N0, .int .i64 t.cap.1, .int .i64 t.cap.2, .int .i64 t.ovr.1, .int .i64 t.ovr.2, .slice a1 m1 d1, .slice a2 m2 d2] 57)) (World.alloc_heap_new (W2.alloc (.cells #[] 57)) (.cells #[.string N0, .int .i64 t.cap.1, .int .i64 t.cap.2, .int .i64 t.ovr.1, .int .i64 t.ovr.2, .slice a1 m1 d1, .slice a2 m2 d2] 57))
    rw [show (W2.alloc (.cells #[] 57)).heap.size = w.heap.size + 1 + 1 + 1 by simp [s2]] at h
    exact h
  have cT2 : Hid (∀ j q, ([.string N0, .int .i64 t.cap.1, .int .i64 t.cap.2, .int .i64 t.ovr.1, .int .i64 t.ovr.2, .slice a1 m1 d1, .slice a2 m2 d2] : List Value)[j]? = some q → ((W2.alloc (.cells #[.string N0, .int .i64 t.cap.1, .int .i64 t.cap.2, .int .i64 t.ovr.1, .int .i64 t.ovr.2, .slice a1 m1 d1, .slice a2 m2 d2] 57)).alloc (.cells #[] 57)).drew.cell? ((⟨w.heap.size + 1 + 1, 0, none⟩ : Addr).add j) = some q) := by
    have h := World.news_of_block (w := W2.alloc (.cells #[.string N0, .int .i64 t.cap.1, .int .i64 t.cap.2, .int .i64 t.ovr.1, .int .i64 t.ovr.2, .slice a1 m1 d1, .slice a2 m2 d2] 57)) (World.alloc_heap_new W2 (.cells #[.string N0, .int .i64 t.cap.1, .int .i64 t.cap.2, .int .i64 t.ovr.1, .int .i64 t.ovr.2, .slice a1 m1 d1, .slice a2 m2 d2] 57))
    rw [s2] at h
    exact fun j q hq => cell_kept (boxb _) (h j q hq)
  have nb1 : Hid (∀ j : Nat, some (((⟨w.heap.size + 1 + 1 + 1, 0, none⟩ : Addr).add j).block) ≠ (Value.slice (some ⟨w.heap.size + 1 + 1, 0, none⟩) 0 0).ownBlock) := fun j => by
    rw [gadd]; show some (w.heap.size + 1 + 1 + 1) ≠ some (w.heap.size + 1 + 1); simp
  have nb2 : Hid (∀ j : Nat, some (((⟨w.heap.size + 1 + 1, 0, none⟩ : Addr).add j).block) ≠ (Value.slice (some ⟨w.heap.size + 1 + 1 + 1, 0, none⟩) 0 0).ownBlock) := fun j => by
    rw [gadd]; show some (w.heap.size + 1 + 1) ≠ some (w.heap.size + 1 + 1 + 1); simp
  go_region_held3 (fun V => Hid (Below W2.heap.size W2 V) ∧ V.cell? ⟨w.heap.size, 0, none⟩ = some (.string N0) ∧ V.cell? ⟨w.heap.size, 1, none⟩ = some (.int .i64 t.cap.1) ∧ V.cell? ⟨w.heap.size, 2, none⟩ = some (.int .i64 t.cap.2) ∧ V.cell? ⟨w.heap.size, 3, none⟩ = some (.int .i64 t.ovr.1) ∧ V.cell? ⟨w.heap.size, 4, none⟩ = some (.int .i64 t.ovr.2) ∧ V.cell? ⟨w.heap.size, 5, none⟩ = some (.slice a1 m1 d1) ∧ V.cell? ⟨w.heap.size, 6, none⟩ = some (.slice a2 m2 d2))
    (first | (with_reducible exact hS) | (with_reducible assumption) | (with_reducible exact unhide kall _ (unhide BP)) | (with_reducible exact unhide kall _ (unhide BA)) | (refine unhide kall _ ?_; (repeat (first | (with_reducible exact unhide BA) | (with_reducible exact Below.refl _ _) | (with_reducible refine unhide kd6 _ ?_) | (with_reducible refine unhide ka6 _ _ ?_))); done))
    (first
      | (refine step_append_keep tells_typ (by rfl) _ _ (by rfl) W2 (by repeat (first | (with_reducible exact Below.refl _ _) | (with_reducible refine unhide kd6 _ ?_) | (with_reducible refine unhide ka6 _ _ ?_))) (.slice (some ⟨w.heap.size + 1 + 1, 0, none⟩) 0 0) 0 [] (by rfl) (unhide E0) _ l (by rfl) W2 (by repeat (first | (with_reducible exact Below.refl _ _) | (with_reducible refine unhide kd6 _ ?_) | (with_reducible refine unhide ka6 _ _ ?_))) (unhide LT2) (unhide hb0).1 (unhide hb0).2 ?_; intro v1 wA newsA hrA hownA hbA hkA; have BA := hide hbA; have RA := hide hownA; have NA := hide hrA; clear hownA hbA hrA hkA)
      | (refine step_append_keep tells_typ (by rfl) _ _ (by rfl) W2 (by repeat (first | (with_reducible exact Below.refl _ _) | (with_reducible refine unhide kd6 _ ?_) | (with_reducible refine unhide ka6 _ _ ?_))) (.slice (some ⟨w.heap.size + 1 + 1, 0, none⟩) 0 0) 0 [] (by rfl) (unhide E1) _ l (by rfl) W2 (by repeat (first | (with_reducible exact Below.refl _ _) | (with_reducible refine unhide kd6 _ ?_) | (with_reducible refine unhide ka6 _ _ ?_))) (unhide LT2) (unhide hb0).1 (unhide hb0).2 ?_; intro v1 wA newsA hrA hownA hbA hkA; have BA := hide hbA; have RA := hide hownA; have NA := hide hrA; have TC := hide (fun j q hq => hkA _ q (unhide nb1 j) (unhide cT1 j q hq)); clear hownA hbA hrA hkA)
      | (refine step_append_keep tells_typ (by rfl) _ _ (by rfl) W2 (by repeat (first | (with_reducible exact Below.refl _ _) | (with_reducible refine unhide kd6 _ ?_) | (with_reducible refine unhide ka6 _ _ ?_))) (.slice (some ⟨w.heap.size + 1 + 1 + 1, 0, none⟩) 0 0) 0 [] (by rfl) (unhide E2) _ l (by rfl) W2 (by repeat (first | (with_reducible exact Below.refl _ _) | (with_reducible refine unhide kd6 _ ?_) | (with_reducible refine unhide ka6 _ _ ?_))) (unhide LT2) (unhide hb0).1 (unhide hb0).2 ?_; intro v1 wA newsA hrA hownA hbA hkA; have BA := hide hbA; have RA := hide hownA; have NA := hide hrA; have TC := hide (fun j q hq => hkA _ q (unhide nb2 j) (unhide cT2 j q hq)); clear hownA hbA hrA hkA)
      | (refine step_append_lies _ (by rfl) _ _ _ (by rfl) W2.heap.size 57 ti _ 7 96 Tryz.underlying22 (unhide HTI).1 (unhide HTI).2.1 (unhide HTI).2.2.1 (unhide HTI).2.2.2 (unhide HZS) (by decide) v1 (0 + l.length) ([] ++ newsA) (by rfl) (grow_below (unhide RA) (boxb _)) ⟨wA.heap.size, 0, none⟩ 1 1 [.string N0, .int .i64 t.cap.1, .int .i64 t.cap.2, .int .i64 t.ovr.1, .int .i64 t.ovr.2, .slice a1 m1 d1, .slice a2 m2 d2] (by rfl) (by rfl) (by exact World.news_of_block (World.alloc_heap_new _ _)) (unhide hone) (by decide) (unhide hb1').1 (unhide hb1').2 (by have := (unhide BA).size; simp; omega) _ rfl ?_; intro gB cB wB hownB hgB _ _; have BP := hide (grow_on (chain (unhide BA) (boxb _)) (grow_below (unhide RA) (boxb _)) hgB); have RB := hide hownB; clear hownB hgB)
      | (refine step_append_lies _ (by rfl) _ _ _ (by rfl) W2.heap.size 57 ti _ 7 96 Tryz.underlying22 (unhide HTI).1 (unhide HTI).2.1 (unhide HTI).2.2.1 (unhide HTI).2.2.2 (unhide HZS) (by decide) v1 (0 + l.length) ([] ++ newsA) (by rfl) (unhide RA) ⟨w.heap.size + 1 + 1 + 1, 0, none⟩ 1 1 [.string N0, .int .i64 t.cap.1, .int .i64 t.cap.2, .int .i64 t.ovr.1, .int .i64 t.ovr.2, .slice a1 m1 d1, .slice a2 m2 d2] (by rfl) (by rfl) (unhide TC) (unhide hone) (by decide) (unhide hb1').1 (unhide hb1').2 (by have := (unhide BA).size; simp; omega) _ rfl ?_; intro gB cB wB hownB hgB _ _; have BP := hide (grow_on (unhide BA) (unhide RA) hgB); have RB := hide hownB; clear hownB hgB)
      | (refine step_append_lies _ (by rfl) _ _ _ (by rfl) W2.heap.size 57 ti _ 7 96 Tryz.underlying22 (unhide HTI).1 (unhide HTI).2.1 (unhide HTI).2.2.1 (unhide HTI).2.2.2 (unhide HZS) (by decide) v1 (0 + l.length) ([] ++ newsA) (by rfl) (unhide RA) ⟨w.heap.size + 1 + 1, 0, none⟩ 1 1 [.string N0, .int .i64 t.cap.1, .int .i64 t.cap.2, .int .i64 t.ovr.1, .int .i64 t.ovr.2, .slice a1 m1 d1, .slice a2 m2 d2] (by rfl) (by rfl) (unhide TC) (unhide hone) (by decide) (unhide hb1').1 (unhide hb1').2 (by have := (unhide BA).size; simp; omega) _ rfl ?_; intro gB cB wB hownB hgB _ _; have BP := hide (grow_on (unhide BA) (unhide RA) hgB); have RB := hide hownB; clear hownB hgB))
  all_goals
    rename_i hH
    clear hH
    have LALL : Hid (Lst typK wB (.slice (some ⟨gB, 0, none⟩) (l.length + 1) cB) (l ++ [t])) := by
      show Lst typK wB _ _
      rw [show l.length + 1 = 0 + l.length + 1 by omega]
      refine rows_lst (unhide RB) (RowsOf.append (RowsOf.append (rows_nil _ _) ((unhide NA).below (unhide BP))) (rows_one ?_)) (by simp) (by have := (unhide hb1').2; simp at this ⊢; omega)
      have h := typ_row (w := W2) (x := t) (unhide HS) (unhide L12) (unhide L22)
      rw [← unhide HN0] at h
      exact typK.below h (unhide BP)
    have BB := hide (chain (unhide B2) (unhide BP))
    have NM : Hid (wB.cell? ⟨w.heap.size, 0, none⟩ = some (.string N0)) := (unhide kall _ (unhide BP)).2.1
    have OB : Hid (wB.cell? ⟨w.heap.size + 1, 0, none⟩ = some (.string (bytesT o.1)) ∧ wB.cell? ⟨w.heap.size + 1, 1, none⟩ = some (.string (bytesT o.2.1)) ∧ wB.cell? ⟨w.heap.size + 1, 2, none⟩ = some (.string (bytesT o.2.2))) := ⟨cell_kept (unhide BP) (unhide O2).1, cell_kept (unhide BP) (unhide O2).2.1, cell_kept (unhide BP) (unhide O2).2.2⟩
    obtain ⟨all, hall⟩ : ∃ x, x = l ++ [t] := ⟨_, rfl⟩
    rw [← hall] at LALL
    have HALL := hide hall
    have LL := hide ((unhide HV).below (unhide BB))
    have LW := hide ((unhide HL).below (unhide BB))
    clear hall hS kall hb0 hb1' E0 E1 E2 cT1 cT2 nb1 nb2 ka6 kd6 RA NA RB BA BP L12 L22 LT2 O2 F2 B2 hone HTI HZS GW HB H1 H2 s2 one
    have kk : Hid (∀ V, Below wB.heap.size wB V → Laid V ∧ Lst typK V (.slice a n c) l ∧ Lst typK V (.slice (some ⟨gB, 0, none⟩) (l.length + 1) cB) all) := fun V h => ⟨(unhide LW).below h, (unhide LL).below h, (unhide LALL).below h⟩
    have cck := hide (pcheck6_any _ all wB (unhide LW) (unhide LALL))
    obtain ⟨z, hz⟩ : ∃ z, z = catR all := ⟨_, rfl⟩
    rw [← hz] at cck
    have HZ := hide hz
    have hq := txt_beq6 o.1 t.name
    obtain ⟨q, hqq⟩ : ∃ q, q = (o.1 == t.name) := ⟨_, rfl⟩
    rw [← hqq, ← unhide HN0] at hq
    have HQ := hide hqq
    have HQT := hide hq
    clear hz hqq LALL LL LW hq
    go_wp2_with fail
    refine (unhide cck).mono ?_
    rintro e w3 ⟨rfl, hw3⟩
    have B3 := hide hw3
    have f0 := cell_kept hw3 (unhide NM)
    have x0 := cell_kept hw3 (unhide OB).1
    have x1 := cell_kept hw3 (unhide OB).2.1
    have x2 := cell_kept hw3 (unhide OB).2.2
    clear hw3 cck NM OB
    by_cases hz0 : z = 0
    case neg =>
      have hb := nz hz0
      clear hz0
      go_wp2_with fail
      refine (live6_any _ (unhide kk _ (unhide B3)).1).mono ?_
      rintro e w4 ⟨rfl, hw4⟩
      have B4 := hide (chain (chain (unhide BB) (unhide B3)) hw4)
      clear hw4
      go_wp2_with fail
      go_ret
      exact ⟨rfl, unhide B4⟩
    subst hz0
    have hqt := unhide HQT
    cases q with
    | true =>
      go_wp2_with fail
      refine (live6_any _ (unhide kk _ (unhide B3)).1).mono ?_
      rintro e w4 ⟨rfl, hw4⟩
      have B4 := hide (chain (chain (unhide BB) (unhide B3)) hw4)
      clear hw4
      go_wp2_with fail
      go_ret
      exact ⟨rfl, unhide B4⟩
    | false =>
      have hcat : catR (l ++ [t]) = 0 := by rw [← unhide HALL]; exact (unhide HZ).symm
      have hot : ¬ o.1 = t.name := fun e => by have := unhide HQ; rw [e] at this; simp at this
      obtain ⟨ma1, ma2, ma3⟩ := more_asks hcat hot tP tC1
      have ml := more_len hcat
      rw [← unhide HALL] at ma1 ma2 ma3 ml
      have MC := hide (more_cat hcat)
      have M1 := hide ma1
      have M2 := hide ma2
      have M3 := hide ma3
      have ML := hide ml
      clear hcat hot ma1 ma2 ma3 ml HZ HQ HALL
      have ch1 := hide (fun (V : World) (h : Below wB.heap.size wB V) => phas_any _ l o V (unhide kk _ h).1 (unhide kk _ h).2.1 (unhide HO))
      have ch2 := hide (fun (V : World) (h : Below wB.heap.size wB V) => phas_any _ all o V (unhide kk _ h).1 (unhide kk _ h).2.2 (unhide HO))
      have cp1 := hide (fun (V : World) (h : Below wB.heap.size wB V) => pprice_any _ l o V (unhide kk _ h).1 (unhide kk _ h).2.1 (unhide HO))
      have cp2 := hide (fun (V : World) (h : Below wB.heap.size wB V) => pprice_any _ all o V (unhide kk _ h).1 (unhide kk _ h).2.2 (unhide HO))
      rw [unhide M1] at ch2
      rw [unhide M2] at cp2
      unfold offA at ch1 ch2 cp1 cp2
      obtain ⟨h0, hh0⟩ : ∃ x, x = (hasR l o).1.1 := ⟨_, rfl⟩
      obtain ⟨h1, hh1⟩ : ∃ x, x = (hasR l o).1.2 := ⟨_, rfl⟩
      obtain ⟨h2, hh2⟩ : ∃ x, x = (hasR l o).2 := ⟨_, rfl⟩
      obtain ⟨p1, hp1⟩ : ∃ x, x = (priceR l o).1 := ⟨_, rfl⟩
      obtain ⟨p2, hp2⟩ : ∃ x, x = (priceR l o).2 := ⟨_, rfl⟩
      rw [← hh0, ← hh1, ← hh2] at ch1 ch2
      rw [← hp1, ← hp2] at cp1 cp2
      clear hh0 hh1 hh2 hp1 hp2 M1 M2
      go_wp2_with fail
      refine (unhide ch1 _ (unhide B3)).mono ?_
      rintro e w4 ⟨rfl, hw4⟩
      obtain ⟨V4, hV4⟩ : ∃ V, V = w4.alloc (.cells #[.int .i64 h0, .int .i64 h1] 28) := ⟨_, rfl⟩
      have b4 : Below w4.heap.size w4 V4 := by rw [hV4]; exact boxb _
      have y0 : V4.cell? ⟨w4.heap.size, 0, none⟩ = some (.int .i64 h0) := by rw [hV4]; simp [go_sem]
      have y1 : V4.cell? ⟨w4.heap.size, 1, none⟩ = some (.int .i64 h1) := by rw [hV4]; simp [go_sem]
      have G4 := hide hV4
      replace x0 := cell_kept (chain hw4 b4) x0
      replace x1 := cell_kept (chain hw4 b4) x1
      replace x2 := cell_kept (chain hw4 b4) x2
      have B4 := hide (chain (chain (unhide B3) hw4) b4)
      clear hw4 b4 hV4 f0 ch1 B3
      rw [unhide G4] at x0 x1 x2
      go_wp2_with fail
      rw [← unhide G4]
      refine (unhide ch2 _ (unhide B4)).mono ?_
      rintro e w5 ⟨rfl, hw5⟩
      obtain ⟨V5, hV5⟩ : ∃ V, V = w5.alloc (.cells #[.int .i64 h0, .int .i64 h1] 28) := ⟨_, rfl⟩
      have b5 : Below w5.heap.size w5 V5 := by rw [hV5]; exact boxb _
      have z0 : V5.cell? ⟨w5.heap.size, 0, none⟩ = some (.int .i64 h0) := by rw [hV5]; simp [go_sem]
      have z1 : V5.cell? ⟨w5.heap.size, 1, none⟩ = some (.int .i64 h1) := by rw [hV5]; simp [go_sem]
      have G5 := hide hV5
      rw [← unhide G4] at x0 x1 x2
      replace x0 := cell_kept (chain hw5 b5) x0
      replace x1 := cell_kept (chain hw5 b5) x1
      replace x2 := cell_kept (chain hw5 b5) x2
      replace y0 := cell_kept (chain hw5 b5) y0
      replace y1 := cell_kept (chain hw5 b5) y1
      have B5 := hide (chain (chain (unhide B4) hw5) b5)
      clear hw5 b5 hV5 ch2 B4 G4
      rw [unhide G5] at x0 x1 x2
      go_wp2_with fail
      rw [← unhide G5]
      rw [← unhide G5] at x0 x1 x2
      refine (unhide cp1 _ (unhide B5)).mono ?_
      rintro e w6 ⟨rfl, hw6⟩
      have B6 := hide (chain (unhide B5) hw6)
      replace x0 := cell_kept hw6 x0
      replace x1 := cell_kept hw6 x1
      replace x2 := cell_kept hw6 x2
      replace y0 := cell_kept hw6 y0
      replace y1 := cell_kept hw6 y1
      replace z0 := cell_kept hw6 z0
      replace z1 := cell_kept hw6 z1
      clear hw6 cp1 B5 G5
      go_wp2_with fail
      refine (unhide cp2 _ (unhide B6)).mono ?_
      rintro e w7 ⟨rfl, hw7⟩
      have B7 := hide (chain (unhide B6) hw7)
      have hS : (fun V : World => Hid (Below w7.heap.size w7 V) ∧ V.cell? ⟨w.heap.size + 1, 0, none⟩ = some (.string (bytesT o.1)) ∧ V.cell? ⟨w.heap.size + 1, 1, none⟩ = some (.string (bytesT o.2.1)) ∧ V.cell? ⟨w.heap.size + 1, 2, none⟩ = some (.string (bytesT o.2.2)) ∧ V.cell? ⟨w4.heap.size, 0, none⟩ = some (.int .i64 h0) ∧ V.cell? ⟨w4.heap.size, 1, none⟩ = some (.int .i64 h1) ∧ V.cell? ⟨w5.heap.size, 0, none⟩ = some (.int .i64 h0) ∧ V.cell? ⟨w5.heap.size, 1, none⟩ = some (.int .i64 h1)) w7 := ⟨Below.refl _ _, cell_kept hw7 x0, cell_kept hw7 x1, cell_kept hw7 x2, cell_kept hw7 y0, cell_kept hw7 y1, cell_kept hw7 z0, cell_kept hw7 z1⟩
      clear hw7 cp2 B6 x0 x1 x2 y0 y1 z0 z1
      simp only at hS
      have kS : Hid (∀ V, (Hid (Below w7.heap.size w7 V) ∧ V.cell? ⟨w.heap.size + 1, 0, none⟩ = some (.string (bytesT o.1)) ∧ V.cell? ⟨w.heap.size + 1, 1, none⟩ = some (.string (bytesT o.2.1)) ∧ V.cell? ⟨w.heap.size + 1, 2, none⟩ = some (.string (bytesT o.2.2)) ∧ V.cell? ⟨w4.heap.size, 0, none⟩ = some (.int .i64 h0) ∧ V.cell? ⟨w4.heap.size, 1, none⟩ = some (.int .i64 h1) ∧ V.cell? ⟨w5.heap.size, 0, none⟩ = some (.int .i64 h0) ∧ V.cell? ⟨w5.heap.size, 1, none⟩ = some (.int .i64 h1)) → Below wB.heap.size wB V) := fun V h => chain (unhide B7) (unhide h.1)
      obtain ⟨L, hLL⟩ : ∃ L, L = labsR l o tP tC1 := ⟨_, rfl⟩
      obtain ⟨nl, hnl⟩ : ∃ n, n = L.length := ⟨_, rfl⟩
      have HNL := hide hnl
      have hP : short tP ∧ short tC1 := ⟨sh6.2.2.2.2.2.2.1, sh6.2.2.2.2.2.2.2⟩
      have cl1 : Hid (∀ V, (Hid (Below w7.heap.size w7 V) ∧ V.cell? ⟨w.heap.size + 1, 0, none⟩ = some (.string (bytesT o.1)) ∧ V.cell? ⟨w.heap.size + 1, 1, none⟩ = some (.string (bytesT o.2.1)) ∧ V.cell? ⟨w.heap.size + 1, 2, none⟩ = some (.string (bytesT o.2.2)) ∧ V.cell? ⟨w4.heap.size, 0, none⟩ = some (.int .i64 h0) ∧ V.cell? ⟨w4.heap.size, 1, none⟩ = some (.int .i64 h1) ∧ V.cell? ⟨w5.heap.size, 0, none⟩ = some (.int .i64 h0) ∧ V.cell? ⟨w5.heap.size, 1, none⟩ = some (.int .i64 h1)) → Calls Tryz.prog 14 #[.slice a n c, .agg #[.string (bytesT o.1), .string (bytesT o.2.1), .string (bytesT o.2.2)], .string ⟨#[112]⟩, .string ⟨#[99, 49]⟩] V fun e w' => (∃ sa sc, e = .returned (.slice sa nl sc) ∧ Hid (Lst labK w' (.slice sa nl sc) L)) ∧ Below V.heap.size V w') := fun V h => by
        refine (pLabels_any _ l o tP tC1 V (unhide kk _ (unhide kS V h)).1 (unhide kk _ (unhide kS V h)).2.1 (unhide HO) hP.1 hP.2).mono ?_
        rintro e w' ⟨v, rfl, ho, hw⟩
        rw [← hLL] at ho
        have hl := ho.lst
        obtain ⟨sa, sc, rfl⟩ := hl.val
        rw [← hnl] at hl ⊢
        exact ⟨⟨sa, sc, rfl, hl⟩, hw⟩
      have cl2 : Hid (∀ V, (Hid (Below w7.heap.size w7 V) ∧ V.cell? ⟨w.heap.size + 1, 0, none⟩ = some (.string (bytesT o.1)) ∧ V.cell? ⟨w.heap.size + 1, 1, none⟩ = some (.string (bytesT o.2.1)) ∧ V.cell? ⟨w.heap.size + 1, 2, none⟩ = some (.string (bytesT o.2.2)) ∧ V.cell? ⟨w4.heap.size, 0, none⟩ = some (.int .i64 h0) ∧ V.cell? ⟨w4.heap.size, 1, none⟩ = some (.int .i64 h1) ∧ V.cell? ⟨w5.heap.size, 0, none⟩ = some (.int .i64 h0) ∧ V.cell? ⟨w5.heap.size, 1, none⟩ = some (.int .i64 h1)) → Calls Tryz.prog 14 #[.slice (some ⟨gB, 0, none⟩) (l.length + 1) cB, .agg #[.string (bytesT o.1), .string (bytesT o.2.1), .string (bytesT o.2.2)], .string ⟨#[112]⟩, .string ⟨#[99, 49]⟩] V fun e w' => (∃ sa sc, e = .returned (.slice sa nl sc) ∧ Hid (Lst labK w' (.slice sa nl sc) L)) ∧ Below V.heap.size V w') := fun V h => by
        refine (pLabels_any _ all o tP tC1 V (unhide kk _ (unhide kS V h)).1 (unhide kk _ (unhide kS V h)).2.2 (unhide HO) hP.1 hP.2).mono ?_
        rintro e w' ⟨v, rfl, ho, hw⟩
        rw [unhide M3, ← hLL] at ho
        have hl := ho.lst
        obtain ⟨sa, sc, rfl⟩ := hl.val
        rw [← hnl] at hl ⊢
        exact ⟨⟨sa, sc, rfl, hl⟩, hw⟩
      have cse : Hid (∀ V v1 v2, Lst labK V v1 L → Lst labK V v2 L → Calls Tryz.prog 15 #[v1, v2] V fun e w' => e = .returned (.bool true) ∧ Below V.heap.size V w') := fun V v1 v2 g1 g2 => by
        have h := sets6_any v1 v2 L L V g1 g2
        rw [show (L == L) = true by simp] at h; exact h
      obtain ⟨n1, hn1⟩ : ∃ n, n = (offersR all).length := ⟨_, rfl⟩
      obtain ⟨n2, hn2⟩ : ∃ n, n = (offersR l).length := ⟨_, rfl⟩
      have co1 : Hid (∀ V, (Hid (Below w7.heap.size w7 V) ∧ V.cell? ⟨w.heap.size + 1, 0, none⟩ = some (.string (bytesT o.1)) ∧ V.cell? ⟨w.heap.size + 1, 1, none⟩ = some (.string (bytesT o.2.1)) ∧ V.cell? ⟨w.heap.size + 1, 2, none⟩ = some (.string (bytesT o.2.2)) ∧ V.cell? ⟨w4.heap.size, 0, none⟩ = some (.int .i64 h0) ∧ V.cell? ⟨w4.heap.size, 1, none⟩ = some (.int .i64 h1) ∧ V.cell? ⟨w5.heap.size, 0, none⟩ = some (.int .i64 h0) ∧ V.cell? ⟨w5.heap.size, 1, none⟩ = some (.int .i64 h1)) → Calls Tryz.prog 20 #[.slice (some ⟨gB, 0, none⟩) (l.length + 1) cB] V fun e w' => (∃ sa sc, e = .returned (.slice sa n1 sc)) ∧ Below V.heap.size V w') := fun V h => by
        refine (pOffers_any _ all V (unhide kk _ (unhide kS V h)).1 (unhide kk _ (unhide kS V h)).2.2).mono ?_
        rintro e w' ⟨v, rfl, ho, hw⟩
        obtain ⟨sa, sc, rfl⟩ := ho.val
        rw [hn1]
        exact ⟨⟨sa, sc, rfl⟩, hw⟩
      have co2 : Hid (∀ V, (Hid (Below w7.heap.size w7 V) ∧ V.cell? ⟨w.heap.size + 1, 0, none⟩ = some (.string (bytesT o.1)) ∧ V.cell? ⟨w.heap.size + 1, 1, none⟩ = some (.string (bytesT o.2.1)) ∧ V.cell? ⟨w.heap.size + 1, 2, none⟩ = some (.string (bytesT o.2.2)) ∧ V.cell? ⟨w4.heap.size, 0, none⟩ = some (.int .i64 h0) ∧ V.cell? ⟨w4.heap.size, 1, none⟩ = some (.int .i64 h1) ∧ V.cell? ⟨w5.heap.size, 0, none⟩ = some (.int .i64 h0) ∧ V.cell? ⟨w5.heap.size, 1, none⟩ = some (.int .i64 h1)) → Calls Tryz.prog 20 #[.slice a n c] V fun e w' => (∃ sa sc, e = .returned (.slice sa n2 sc)) ∧ Below V.heap.size V w') := fun V h => by
        refine (pOffers_any _ l V (unhide kk _ (unhide kS V h)).1 (unhide kk _ (unhide kS V h)).2.1).mono ?_
        rintro e w' ⟨v, rfl, ho, hw⟩
        obtain ⟨sa, sc, rfl⟩ := ho.val
        rw [hn2]
        exact ⟨⟨sa, sc, rfl⟩, hw⟩
      have cli := hide (fun (V : World) (h : Hid (Below w7.heap.size w7 V) ∧ V.cell? ⟨w.heap.size + 1, 0, none⟩ = some (.string (bytesT o.1)) ∧ V.cell? ⟨w.heap.size + 1, 1, none⟩ = some (.string (bytesT o.2.1)) ∧ V.cell? ⟨w.heap.size + 1, 2, none⟩ = some (.string (bytesT o.2.2)) ∧ V.cell? ⟨w4.heap.size, 0, none⟩ = some (.int .i64 h0) ∧ V.cell? ⟨w4.heap.size, 1, none⟩ = some (.int .i64 h1) ∧ V.cell? ⟨w5.heap.size, 0, none⟩ = some (.int .i64 h0) ∧ V.cell? ⟨w5.heap.size, 1, none⟩ = some (.int .i64 h1)) => live6_any V (unhide kk _ (unhide kS V h)).1)
      have cch := hide (fun (V : World) (h : Hid (Below w7.heap.size w7 V) ∧ V.cell? ⟨w.heap.size + 1, 0, none⟩ = some (.string (bytesT o.1)) ∧ V.cell? ⟨w.heap.size + 1, 1, none⟩ = some (.string (bytesT o.2.1)) ∧ V.cell? ⟨w.heap.size + 1, 2, none⟩ = some (.string (bytesT o.2.2)) ∧ V.cell? ⟨w4.heap.size, 0, none⟩ = some (.int .i64 h0) ∧ V.cell? ⟨w4.heap.size, 1, none⟩ = some (.int .i64 h1) ∧ V.cell? ⟨w5.heap.size, 0, none⟩ = some (.int .i64 h0) ∧ V.cell? ⟨w5.heap.size, 1, none⟩ = some (.int .i64 h1)) => pcheck6_any _ l V (unhide kk _ (unhide kS V h)).1 (unhide kk _ (unhide kS V h)).2.1)
      rw [unhide MC] at cch
      have hle : n2 ≤ n1 := by rw [hn1, hn2]; exact unhide ML
      have hge : decide ((n2 : Int) ≤ (n1 : Int)) = true := by simp; omega
      have hge2 : (n2 : Int) ≤ (n1 : Int) := by omega
      have eA : ∀ W, (binOp .eql 28 (.agg #[.int .i64 h0, .int .i64 h1]) (.agg #[.int .i64 h0, .int .i64 h1])).run Tryz.prog W = .ok (.bool true) W := fun W => by
        simp [binOp, Op.equal, Op.maxDepth, Am.eq2]
      have eG : Tryz.prog.eqGuardType Tryz.prog.depth 28 = false := by kernel_rfl
      have eB1 : (h2 == h2) = true := by simp
      have eB2 : (p2 == p2) = true := by simp
      have eB3 : (p1 == p1) = true := by simp
      clear hLL hnl hP hn1 hn2 M3 MC ML kk
      have clx : Hid (∀ V vv, (Hid (Below w7.heap.size w7 V) ∧ V.cell? ⟨w.heap.size + 1, 0, none⟩ = some (.string (bytesT o.1)) ∧ V.cell? ⟨w.heap.size + 1, 1, none⟩ = some (.string (bytesT o.2.1)) ∧ V.cell? ⟨w.heap.size + 1, 2, none⟩ = some (.string (bytesT o.2.2)) ∧ V.cell? ⟨w4.heap.size, 0, none⟩ = some (.int .i64 h0) ∧ V.cell? ⟨w4.heap.size, 1, none⟩ = some (.int .i64 h1) ∧ V.cell? ⟨w5.heap.size, 0, none⟩ = some (.int .i64 h0) ∧ V.cell? ⟨w5.heap.size, 1, none⟩ = some (.int .i64 h1)) → vv = .slice a n c → Calls Tryz.prog 14 #[vv, .agg #[.string (bytesT o.1), .string (bytesT o.2.1), .string (bytesT o.2.2)], .string ⟨#[112]⟩, .string ⟨#[99, 49]⟩] V fun e w' => (∃ sa sc, e = .returned (.slice sa nl sc) ∧ Hid (Lst labK w' (.slice sa nl sc) L)) ∧ Below V.heap.size V w') := fun V vv h g => by
        subst g; exact unhide cl1 V h
      have cly : Hid (∀ V vv, (Hid (Below w7.heap.size w7 V) ∧ V.cell? ⟨w.heap.size + 1, 0, none⟩ = some (.string (bytesT o.1)) ∧ V.cell? ⟨w.heap.size + 1, 1, none⟩ = some (.string (bytesT o.2.1)) ∧ V.cell? ⟨w.heap.size + 1, 2, none⟩ = some (.string (bytesT o.2.2)) ∧ V.cell? ⟨w4.heap.size, 0, none⟩ = some (.int .i64 h0) ∧ V.cell? ⟨w4.heap.size, 1, none⟩ = some (.int .i64 h1) ∧ V.cell? ⟨w5.heap.size, 0, none⟩ = some (.int .i64 h0) ∧ V.cell? ⟨w5.heap.size, 1, none⟩ = some (.int .i64 h1)) → vv = .slice (some ⟨gB, 0, none⟩) (l.length + 1) cB → Calls Tryz.prog 14 #[vv, .agg #[.string (bytesT o.1), .string (bytesT o.2.1), .string (bytesT o.2.2)], .string ⟨#[112]⟩, .string ⟨#[99, 49]⟩] V fun e w' => (∃ sa sc, e = .returned (.slice sa nl sc) ∧ Hid (Lst labK w' (.slice sa nl sc) L)) ∧ Below V.heap.size V w') := fun V vv h g => by
        subst g; exact unhide cl2 V h
      have cox : Hid (∀ V vv, (Hid (Below w7.heap.size w7 V) ∧ V.cell? ⟨w.heap.size + 1, 0, none⟩ = some (.string (bytesT o.1)) ∧ V.cell? ⟨w.heap.size + 1, 1, none⟩ = some (.string (bytesT o.2.1)) ∧ V.cell? ⟨w.heap.size + 1, 2, none⟩ = some (.string (bytesT o.2.2)) ∧ V.cell? ⟨w4.heap.size, 0, none⟩ = some (.int .i64 h0) ∧ V.cell? ⟨w4.heap.size, 1, none⟩ = some (.int .i64 h1) ∧ V.cell? ⟨w5.heap.size, 0, none⟩ = some (.int .i64 h0) ∧ V.cell? ⟨w5.heap.size, 1, none⟩ = some (.int .i64 h1)) → vv = .slice (some ⟨gB, 0, none⟩) (l.length + 1) cB → Calls Tryz.prog 20 #[vv] V fun e w' => (∃ sa sc, e = .returned (.slice sa n1 sc)) ∧ Below V.heap.size V w') := fun V vv h g => by
        subst g; exact unhide co1 V h
      have coy : Hid (∀ V vv, (Hid (Below w7.heap.size w7 V) ∧ V.cell? ⟨w.heap.size + 1, 0, none⟩ = some (.string (bytesT o.1)) ∧ V.cell? ⟨w.heap.size + 1, 1, none⟩ = some (.string (bytesT o.2.1)) ∧ V.cell? ⟨w.heap.size + 1, 2, none⟩ = some (.string (bytesT o.2.2)) ∧ V.cell? ⟨w4.heap.size, 0, none⟩ = some (.int .i64 h0) ∧ V.cell? ⟨w4.heap.size, 1, none⟩ = some (.int .i64 h1) ∧ V.cell? ⟨w5.heap.size, 0, none⟩ = some (.int .i64 h0) ∧ V.cell? ⟨w5.heap.size, 1, none⟩ = some (.int .i64 h1)) → vv = .slice a n c → Calls Tryz.prog 20 #[vv] V fun e w' => (∃ sa sc, e = .returned (.slice sa n2 sc)) ∧ Below V.heap.size V w') := fun V vv h g => by
        subst g; exact unhide co2 V h
      clear cl1 cl2 co1 co2
      go_wp2_with fail
      go_region_held3 (fun V => Hid (Below w7.heap.size w7 V) ∧ V.cell? ⟨w.heap.size + 1, 0, none⟩ = some (.string (bytesT o.1)) ∧ V.cell? ⟨w.heap.size + 1, 1, none⟩ = some (.string (bytesT o.2.1)) ∧ V.cell? ⟨w.heap.size + 1, 2, none⟩ = some (.string (bytesT o.2.2)) ∧ V.cell? ⟨w4.heap.size, 0, none⟩ = some (.int .i64 h0) ∧ V.cell? ⟨w4.heap.size, 1, none⟩ = some (.int .i64 h1) ∧ V.cell? ⟨w5.heap.size, 0, none⟩ = some (.int .i64 h0) ∧ V.cell? ⟨w5.heap.size, 1, none⟩ = some (.int .i64 h1))
        (first | (with_reducible exact hS) | (with_reducible assumption) | (with_reducible refine k7_drew ?_; with_reducible assumption) | (refine k7_call (by assumption) ?_; with_reducible assumption))
        (first
          | (go_at_call 16; refine (unhide cli _ (by with_reducible assumption)).mono ?_; rintro e w9 ⟨rfl, hw9⟩)
          | (go_at_call 26; refine (unhide cch _ (by with_reducible assumption)).mono ?_; rintro e w9 ⟨rfl, hw9⟩)
          | (go_at_call 14; refine (unhide clx _ _ (by with_reducible assumption) (by rfl)).mono ?_; rintro e wL1 ⟨⟨sL1, dL1, rfl, hl1⟩, hwL1⟩)
          | (go_at_call 14; refine (unhide cly _ _ (by with_reducible assumption) (by rfl)).mono ?_; rintro e wL2 ⟨⟨sL2, dL2, rfl, hl2⟩, hwL2⟩)
          | (go_at_call 15; refine (unhide cse _ _ _ ((unhide hl1).below hwL2) (unhide hl2)).mono ?_; rintro e w9 ⟨rfl, hw9⟩)
          | (go_at_call 20; refine (unhide cox _ _ (by with_reducible assumption) (by rfl)).mono ?_; rintro e w9 ⟨⟨sO, dO, rfl⟩, hw9⟩)
          | (go_at_call 20; refine (unhide coy _ _ (by with_reducible assumption) (by rfl)).mono ?_; rintro e w9 ⟨⟨sO2, dO2, rfl⟩, hw9⟩))
      rename_i hHH
      have B9 := hide (chain (unhide BB) (unhide kS _ hHH))
      clear hHH hS
      go_wp2_with fail
      go_ret
      exact ⟨by simp, unhide B9⟩
end Go.Proofs.YtepcnfnmphgccaaGreatDoor.catalogMore
