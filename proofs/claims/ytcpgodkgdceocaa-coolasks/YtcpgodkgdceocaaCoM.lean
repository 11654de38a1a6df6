/- Layer 7: Put, the program's. -/
import Derived.Test.YtcpgodkgdceocaaCoL
namespace Go.Proofs.Ytcpgodkgdceocaa
open Go.RowKit Suf Val

theorem lt_ne7 {x y : VOff} (h : lessO x y = true) : ¬ x = y := fun e => by rw [e, lessO_irrefl] at h; cases h
theorem put_split {c : VCool} : ∀ {l : List VCool} {i : Nat}, Srt byOff l → AtO l c.1 i → putF c l false = l.take i ++ c :: l.drop (if isAt l c.1 i = true then i + 1 else i)
  | [], i, _, h => by
    obtain rfl : i = 0 := Nat.le_zero.1 h.1
    rfl
  | a :: l, 0, hs, h => by
    obtain ⟨ha, hl⟩ := List.pairwise_cons.1 hs
    have h0 : lessO a.1 c.1 = false := h.2.2 0 (by simp) (Nat.le_refl _)
    have hi : isAt (a :: l) c.1 0 = (a.1 == c.1) := rfl
    rw [hi]
    unfold putF
    by_cases e : a.1 = c.1
    · rw [if_pos e, if_pos (by simp [e]), put_rest (fun x hx e2 => lt_ne7 (ha x hx) (by rw [e, e2]))]
      rfl
    · have hca : lessO c.1 a.1 = true := by
        rcases lessO_total a.1 c.1 with h1 | h1 | h1
        · rw [h0] at h1; cases h1
        · exact absurd h1 e
        · exact h1
      rw [if_neg e, if_pos (by simp [hca]), if_neg (by simp [e]), put_rest (fun x hx e2 => lt_ne7 (lessO_trans hca (ha x hx)) e2.symm)]
      rfl
  | a :: l, i + 1, hs, h => by
    obtain ⟨ha, hl⟩ := List.pairwise_cons.1 hs
    have h0 : lessO a.1 c.1 = true := h.2.1 0 (by simp) (Nat.succ_pos _)
    have hca : lessO c.1 a.1 = false := by
      cases hc : lessO c.1 a.1 with
      | false => rfl
      | true => have := lessO_trans h0 hc; rw [lessO_irrefl] at this; cases this
    have hi : isAt (a :: l) c.1 (i + 1) = isAt l c.1 i := by unfold isAt; rw [List.getElem?_cons_succ]
    have ih := put_split (c := c) (l := l) (i := i) hl ⟨by have := h.1; simp at this; omega, fun k hk hki => by have := h.2.1 (k + 1) (by simpa using hk) (by omega); simpa using this, fun k hk hki => by have := h.2.2 (k + 1) (by simpa using hk) (by omega); simpa using this⟩
    rw [hi]
    unfold putF
    rw [if_neg (lt_ne7 h0), if_neg (by simp [hca]), ih]
    split <;> rfl
theorem isAt_lt {l : List VCool} {o : VOff} {i : Nat} (h : isAt l o i = true) : i < l.length := by
  unfold isAt at h
  rcases Nat.lt_or_ge i l.length with h1 | h1
  · exact h1
  · rw [List.getElem?_eq_none h1] at h; cases h
theorem put_at {l : List VCool} {c : VCool} {i : Nat} (h0 : coolR l = 0) (h1 : oneR c = 0) (hi : AtO l c.1 i) (ht : isAt l c.1 i = true) : putR l c = (l.take i ++ [c] ++ l.drop (i + 1), 0) := by
  obtain ⟨k1, _, k3⟩ := cool_ok.1 h0
  have hp := put_split k3 hi
  rw [if_pos ht] at hp
  have hlt := isAt_lt ht
  unfold putR
  rw [if_neg (by simp [h0]), if_neg (by simp [h1]), hp, if_neg (by simp; omega)]
  simp
theorem put_no {l : List VCool} {c : VCool} {i : Nat} (h0 : coolR l = 0) (h1 : oneR c = 0) (hi : AtO l c.1 i) (ht : isAt l c.1 i = false) : putR l c = if l.length = 72 then ([], 3) else (l.take i ++ [c] ++ l.drop i, 0) := by
  obtain ⟨k1, _, k3⟩ := cool_ok.1 h0
  have hp := put_split k3 hi
  rw [if_neg (by simp [ht])] at hp
  have hle := hi.1
  unfold putR
  rw [if_neg (by simp [h0]), if_neg (by simp [h1]), hp]
  by_cases h72 : l.length = 72
  · rw [if_pos h72, if_pos (by simp; omega)]
  · rw [if_neg h72, if_neg (by simp; omega)]
    simp
theorem put_bad {l : List VCool} {c : VCool} (h : ¬ coolR l = 0) : putR l c = ([], coolR l) := by unfold putR; rw [if_pos h]
theorem put_bad1 {l : List VCool} {c : VCool} (h : coolR l = 0) (h1 : ¬ oneR c = 0) : putR l c = ([], oneR c) := by unfold putR; rw [if_neg (by simp [h]), if_pos h1]
theorem cool_one (c : VCool) : coolR [c] = oneR c := by
  unfold coolR
  rw [if_neg (by simp)]
  unfold coolF
  by_cases h : oneR c = 0
  · rw [if_neg (by simp [h]), if_neg (by simp [behind])]; exact h.symm
  · rw [if_pos h]
theorem kd7 {V W : World} (h : Hid (Below V.heap.size V W)) : Hid (Below V.heap.size V W.drew) := (unhide h).drew
theorem ka7 {V W : World} (o : Obj) (h : Hid (Below V.heap.size V W)) : Hid (Below V.heap.size V (W.alloc o)) := chain (unhide h) (boxb o)
theorem kc7 {V W W' : World} (hb : Below W.heap.size W W') (h : Hid (Below V.heap.size V W)) : Hid (Below V.heap.size V W') := chain (unhide h) hb
set_option maxRecDepth 100000 in
set_option maxHeartbeats 16000000 in
theorem pput_any (v : Value) (l : List VCool) (x : VCool) (w : World) (hv : Lst coolK w v l) (hx : okO x.1) :
    Calls Try.prog 12 #[v, coolA x] w fun e w' => (∃ v', e = .returned (.tuple #[v', .int .i64 (putR l x).2]) ∧ OwnC w' w.heap.size v' (putR l x).1) ∧ Below w.heap.size w w' := by
  have HV := hide hv
  obtain ⟨a, c, rfl⟩ := hv.val
  have hcap := hv.cap.2
  clear hv
  obtain ⟨n, hn⟩ : ∃ n, n = l.length := ⟨_, rfl⟩
  rw [← hn] at HV hcap ⊢
  have HN := hide hn
  clear hn
  have HX := hide hx
  clear hx
  obtain ⟨PP, hPP⟩ : ∃ P, P = fun (e : Ending) (w' : World) => (∃ v', e = .returned (.tuple #[v', .int .i64 (putR l x).2]) ∧ OwnC w' w.heap.size v' (putR l x).1) ∧ Below w.heap.size w w' := ⟨_, rfl⟩
  show Calls _ _ _ _ (fun e w' => (fun (e : Ending) (w' : World) => (∃ v', e = .returned (.tuple #[v', .int .i64 (putR l x).2]) ∧ OwnC w' w.heap.size v' (putR l x).1) ∧ Below w.heap.size w w') e w')
  rw [← hPP]
  have HPP := hide hPP
  clear hPP
  have hbad : Hid (∀ z W, putR l x = ([], z) → Below w.heap.size w W → PP (.returned (.tuple #[.slice none 0 0, .int .i64 z])) W) := fun z W h hb => by
    rw [unhide HPP, h]; exact ⟨⟨_, rfl, ownC_nil _ _⟩, hb⟩
  obtain ⟨W0, hW0⟩ : ∃ W, W = w.alloc (.cells #[.string (bytesT x.1.1), .string (bytesT x.1.2.1), .string (bytesT x.1.2.2), .int .i64 x.2] 25) := ⟨_, rfl⟩
  have B0 : Hid (Below w.heap.size w W0) := by rw [hW0]; exact boxb _
  have F0 : Hid (CBox W0 w.heap.size x) := by rw [hW0]; exact cbox_new _ _
  have GW := hide hW0
  clear hW0
  have cc := hide (pcheck7_any _ l W0 ((unhide HV).below (unhide B0)))
  obtain ⟨z, hz⟩ : ∃ z, z = coolR l := ⟨_, rfl⟩
  rw [← hz] at cc
  have HZ := hide hz
  clear hz
  unfold coolA
  go_enter Try.func12, Try.ntmps12
  go_wp2_with fail
  rw [← unhide GW]
  refine (unhide cc).mono ?_
  rintro e w1 ⟨rfl, hw1⟩
  have B1 := hide (chain (unhide B0) hw1)
  have F1 := hide ((unhide F0).below hw1)
  clear hw1 cc F0 B0 GW
  by_cases hz0 : z = 0
  case neg =>
    have hb := nz hz0
    have hfin := hide (unhide hbad z w1 (by rw [unhide HZ]; exact put_bad (by rw [← unhide HZ]; exact hz0)) (unhide B1))
    clear hz0 HZ hbad
    go_wp2_with fail
    exact unhide hfin
  subst hz0
  have LS := hide (one_c (W := w1) x (unhide HX))
  have cc := hide (pcheck7_any _ [x] _ (unhide LS))
  rw [cool_one] at cc
  obtain ⟨z1, hz1⟩ : ∃ z, z = oneR x := ⟨_, rfl⟩
  rw [← hz1] at cc
  have HZ1 := hide hz1
  clear hz1
  obtain ⟨f0, f1, f2, f3⟩ := unhide F1
  have BA : Hid (Below w1.heap.size w1 (w1.alloc (.cells #[.string (bytesT x.1.1), .string (bytesT x.1.2.1), .string (bytesT x.1.2.2), .int .i64 x.2] 25))) := boxb _
  go_wp2_with fail
  refine (unhide cc).mono ?_
  rintro e w2 ⟨rfl, hw2⟩
  have B2 := hide (chain (unhide B1) (chain (unhide BA) hw2))
  have F2 := hide ((unhide F1).below (chain (unhide BA) hw2))
  have L2 := hide ((unhide LS).below hw2)
  clear hw2 cc F1 BA LS f0 f1 f2 f3
  by_cases hz0 : z1 = 0
  case neg =>
    have hb := nz hz0
    have hfin := hide (unhide hbad z1 w2 (by rw [unhide HZ1]; exact put_bad1 (unhide HZ).symm (by rw [← unhide HZ1]; exact hz0)) (unhide B2))
    clear hz0 HZ HZ1 hbad
    go_wp2_with fail
    exact unhide hfin
  subst hz0
  obtain ⟨hk1, _, hk3⟩ := cool_ok.1 (unhide HZ).symm
  have cb := hide (bsearch_any _ l x.1 w2 ((unhide HV).below (unhide B2)) hk1 hk3)
  rw [← unhide HN] at hk1
  unfold offA at cb
  obtain ⟨f0, f1, f2, f3⟩ := unhide F2
  clear hk3
  go_wp2_with fail
  refine (unhide cb).mono ?_
  rintro e w3 ⟨⟨i, rfl, hAt⟩, hw3⟩
  have B3 := hide (chain (unhide B2) hw3)
  have L3 := hide ((unhide L2).below hw3)
  have HAt := hide hAt
  have hin : i ≤ n := by rw [unhide HN]; exact hAt.1
  obtain ⟨g, hg⟩ : ∃ g, g = isAt l x.1 i := ⟨_, rfl⟩
  rw [← hg]
  have HG := hide hg
  have q1 := fun V => slice_head7 (a := a) (n := n) (c := c) (i := i) (by have := unhide HN; omega) V
  have q2 := fun V => at_run elC (q1 V)
  clear hw3 cb L2 F2 f0 f1 f2 f3 hAt hg B2 B1
  have HV3 := hide ((unhide HV).below (unhide B3))
  have LH := hide ((unhide HV3).take (k := i) (by rw [← unhide HN]; exact hin))
  have key : Hid (∀ m : Nat, m ≤ n → ∀ P, putR l x = (P, 0) → P = l.take i ++ [x] ++ l.drop m → ∃ a' : Option Addr, (∀ V, (Instr.slice 29 (.slice a n c) (some (.int .i64 (m : Int))) none none).run Try.prog V = .ok (.slice a' (n - m) (c - m)) V) ∧ Hid (∀ V B, Hid (Below w3.heap.size w3 V) → V.cell? ⟨B, 0, none⟩ = some (.slice a i c) → V.cell? ⟨B, 1, none⟩ = some (.slice (some ⟨w1.heap.size, 0, none⟩) 1 1) → V.cell? ⟨B, 2, none⟩ = some (.slice a' (n - m) (c - m)) → Calls Try.prog 29 #[.slice (some ⟨B, 0, none⟩) 3 3] V fun e w' => (∃ v, e = .returned v ∧ Hid (OwnC w' V.heap.size v P)) ∧ Below V.heap.size V w')) := fun m hm P hP hPe => by
    obtain ⟨a', h1, h2⟩ := slice_tail7 (a := a) (n := n) (c := c) (m := m) hm (by have := unhide HN; omega)
    refine ⟨a', h1, fun V B hV c0 c1 c2 => ?_⟩
    have := concat7_any B _ _ _ (l.take i) [x] (l.drop m) V c0 c1 c2 ((unhide LH).below (unhide hV)) ((unhide L3).below (unhide hV)) ((h2 (unhide HV3)).below (unhide hV)) ⟨by rw [List.length_take]; omega, by simp, by rw [List.length_drop, ← unhide HN]; omega⟩
    rw [hPe]
    exact this
  cases g with
  | true =>
    have hlt : i < n := by rw [unhide HN]; exact isAt_lt (unhide HG).symm
    have hput := put_at (unhide HZ).symm (unhide HZ1).symm (unhide HAt) (unhide HG).symm
    obtain ⟨P, hP⟩ : ∃ P, P = l.take i ++ [x] ++ l.drop (i + 1) := ⟨_, rfl⟩
    rw [← hP] at hput
    obtain ⟨a', q3, ccon⟩ := unhide key (i + 1) hlt P hput hP
    have q4 := fun V => at_run elC (q3 V)
    rw [show ((i + 1 : Nat) : Int) = (i : Int) + 1 by omega] at q3 q4
    have HPUT := hide hput
    have e1 : IntKind.i64.wrap ((i : Int) + 1) = (i : Int) + 1 := by simp [IntKind.wrap, IntKind.bits, IntKind.signed]; omega
    clear hput hP key hbad HV3 LH L3
    have hS : Hid (Below w3.heap.size w3 w3) := Below.refl _ _
    go_wp2_with fail
    go_region_held3 (fun V => Hid (Below w3.heap.size w3 V))
      (first | (with_reducible exact hS) | (with_reducible assumption) | (with_reducible refine kd7 ?_; with_reducible assumption) | (with_reducible refine ka7 _ ?_; with_reducible assumption) | (with_reducible refine kd7 (ka7 _ ?_); with_reducible assumption) | (with_reducible refine ka7 _ (kd7 ?_); with_reducible assumption) | (refine kc7 (by assumption) ?_; with_reducible assumption) | (refine kc7 (by assumption) (ka7 _ ?_); with_reducible assumption))
      (first | (go_at_call 29; refine (unhide ccon _ _ (by first | (with_reducible assumption) | (with_reducible refine ka7 _ ?_; with_reducible assumption) | (with_reducible refine ka7 _ (kd7 ?_); with_reducible assumption)) (by simp [go_sem]) (by simp [go_sem]) (by simp [go_sem])).mono ?_; rintro e w9 ⟨⟨v9, rfl, hown9⟩, hw9⟩))
    all_goals
      have hfin : Hid (PP (.returned (.tuple #[v9, .int .i64 0])) w9) := by
        show PP _ _
        rw [unhide HPP, unhide HPUT]
        exact ⟨⟨v9, rfl, (unhide hown9).mono (Nat.le_trans (unhide B3).size (by simp))⟩, chain (unhide B3) (by rename_i hH; exact unhide hH)⟩
      clear hw9 hown9 hS q1 q2 q3 q4
      go_wp2_with fail
      exact unhide hfin
  | false =>
    have hput := put_no (unhide HZ).symm (unhide HZ1).symm (unhide HAt) (unhide HG).symm
    rw [← unhide HN] at hput
    by_cases h72 : n = 72
    · rw [if_pos h72] at hput
      have hfin := hide (unhide hbad 3 w3 hput (unhide B3))
      have hb : ((n : Int) == 72) = true := by simp; omega
      clear hput key hbad HV3 LH L3 q1 q2
      go_wp2_with fail
      exact unhide hfin
    rw [if_neg h72] at hput
    have hb : ((n : Int) == 72) = false := by simp; omega
    obtain ⟨P, hP⟩ : ∃ P, P = l.take i ++ [x] ++ l.drop i := ⟨_, rfl⟩
    rw [← hP] at hput
    obtain ⟨a', q3, ccon⟩ := unhide key i hin P hput hP
    have q4 := fun V => at_run elC (q3 V)
    have HPUT := hide hput
    clear hput hP key hbad HV3 LH L3
    have hS : Hid (Below w3.heap.size w3 w3) := Below.refl _ _
    go_wp2_with fail
    go_region_held3 (fun V => Hid (Below w3.heap.size w3 V))
      (first | (with_reducible exact hS) | (with_reducible assumption) | (with_reducible refine kd7 ?_; with_reducible assumption) | (with_reducible refine ka7 _ ?_; with_reducible assumption) | (with_reducible refine kd7 (ka7 _ ?_); with_reducible assumption) | (with_reducible refine ka7 _ (kd7 ?_); with_reducible assumption) | (refine kc7 (by assumption) ?_; with_reducible assumption) | (refine kc7 (by assumption) (ka7 _ ?_); with_reducible assumption))
      (first | (go_at_call 29; refine (unhide ccon _ _ (by first | (with_reducible assumption) | (with_reducible refine ka7 _ ?_; with_reducible assumption) | (with_reducible refine ka7 _ (kd7 ?_); with_reducible assumption)) (by simp [go_sem]) (by simp [go_sem]) (by simp [go_sem])).mono ?_; rintro e w9 ⟨⟨v9, rfl, hown9⟩, hw9⟩))
    all_goals
      have hfin : Hid (PP (.returned (.tuple #[v9, .int .i64 0])) w9) := by
        show PP _ _
        rw [unhide HPP, unhide HPUT]
        exact ⟨⟨v9, rfl, (unhide hown9).mono (Nat.le_trans (unhide B3).size (by simp))⟩, chain (unhide B3) (by rename_i hH; exact unhide hH)⟩
      clear hw9 hown9 hS q1 q2 q3 q4
      go_wp2_with fail
      exact unhide hfin
end Go.Proofs.Ytcpgodkgdceocaa
