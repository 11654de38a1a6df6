/- Layer 4: sets by their keys in a map; contract of met. -/
import Derived.Test.YtnkcbmlobikjkaaGreatDoorRqCG
import Derived.Test.YtnkcbmlobikjkaaGreatDoorV3QG
import Derived.Test.YtnkcbmlobikjkaaGreatDoorV3RMG
namespace Go.Proofs.YtnkcbmlobikjkaaGreatDoor
open Go.RowKit Suf Val Go.Maps

def setVal (x : VKS) : Value := .agg #[.bool x.2.2.miss, .bool x.2.2.no, .bool x.2.2.num, x.1, .int .i64 x.2.2.lo, .int .i64 x.2.2.hi]
def zeroSV : Value := .agg #[.bool false, .bool false, .bool false, .slice none 0 0, .int .i64 0, .int .i64 0]
theorem zeroSet (w : World) : (zeroValue 42).run Tryz.prog w = .ok zeroSV w := by kernel_rfl
def lookV (k : Txt) : List VKS → Option VKS
  | [] => none
  | x :: l => if x.2.1 = k then some x else lookV k l
def putV (x : VKS) : List VKS → List VKS
  | [] => [x]
  | y :: l => if lt y.2.1 x.2.1 then y :: putV x l else if y.2.1 = x.2.1 then x :: l else x :: y :: l
theorem lookV_cons (k : Txt) (y : VKS) (l : List VKS) : lookV k (y :: l) = if y.2.1 = k then some y else lookV k l := rfl
theorem lookV_put (k : Txt) (x : VKS) : ∀ st : List VKS, lookV k (putV x st) = if k = x.2.1 then some x else lookV k st
  | [] => by
    show lookV k [x] = _
    rw [lookV_cons]
    by_cases h : k = x.2.1
    · rw [if_pos h, if_pos h.symm]
    · rw [if_neg h, if_neg (fun e => h e.symm)]
  | y :: l => by
    unfold putV
    by_cases h1 : lt y.2.1 x.2.1 = true
    · rw [if_pos h1, lookV_cons, lookV_cons, lookV_put k x l]
      by_cases h2 : y.2.1 = k
      · rw [if_pos h2, if_neg, if_pos h2]
        rintro rfl
        exact lt_ne h1 h2
      · rw [if_neg h2, if_neg h2]
    · rw [if_neg h1]
      by_cases h2 : y.2.1 = x.2.1
      · rw [if_pos h2, lookV_cons, lookV_cons]
        by_cases h3 : k = x.2.1
        · rw [if_pos h3, if_pos h3.symm]
        · rw [if_neg h3, if_neg (fun e => h3 e.symm), if_neg (fun e => h3 (e.symm.trans h2))]
      · rw [if_neg h2, lookV_cons]
        by_cases h3 : k = x.2.1
        · rw [if_pos h3, if_pos h3.symm]
        · rw [if_neg h3, if_neg (fun e => h3 e.symm)]
theorem putV_map (x : VKS) : ∀ st : List VKS, (putV x st).map (·.2) = putK x.2.1 x.2.2 (st.map (·.2))
  | [] => rfl
  | y :: l => by
    unfold putV
    rw [List.map_cons]
    unfold putK
    by_cases h1 : lt y.2.1 x.2.1 = true
    · rw [if_pos h1, if_pos h1, List.map_cons, putV_map x l]
    · rw [if_neg h1, if_neg h1]
      by_cases h2 : y.2.1 = x.2.1
      · rw [if_pos h2, if_pos h2, List.map_cons]
      · rw [if_neg h2, if_neg h2]; rfl
theorem look_mapV (k : Txt) : ∀ st : List VKS, Val.look k (st.map (·.2)) = (lookV k st).map (·.2.2)
  | [] => rfl
  | y :: l => by
    rw [List.map_cons, look_cons, lookV_cons]
    by_cases h : y.2.1 = k
    · rw [if_pos h, if_pos h]; rfl
    · rw [if_neg h, if_neg h]; exact look_mapV k l
theorem mem_putV {x y : VKS} : ∀ {st : List VKS}, y ∈ putV x st → y = x ∨ y ∈ st
  | [], h => by
    rw [putV, List.mem_singleton] at h; exact Or.inl h
  | z :: l, h => by
    unfold putV at h
    split at h
    · rcases List.mem_cons.1 h with rfl | h
      · exact Or.inr (by simp)
      · rcases mem_putV h with h | h
        · exact Or.inl h
        · exact Or.inr (List.mem_cons_of_mem _ h)
    · split at h
      · rcases List.mem_cons.1 h with rfl | h
        · exact Or.inl rfl
        · exact Or.inr (List.mem_cons_of_mem _ h)
      · rcases List.mem_cons.1 h with rfl | h
        · exact Or.inl rfl
        · exact Or.inr h
theorem lookV_mem {k : Txt} {x : VKS} : ∀ {st : List VKS}, lookV k st = some x → x ∈ st ∧ x.2.1 = k
  | [], h => by cases h
  | y :: l, h => by
    rw [lookV_cons] at h
    by_cases e : y.2.1 = k
    · rw [if_pos e] at h
      rw [← Option.some.inj h]
      exact ⟨by simp, e⟩
    · rw [if_neg e] at h
      exact ⟨List.mem_cons_of_mem _ (lookV_mem h).1, (lookV_mem h).2⟩
/-- Two values that share no block. -/
def Unshared (x y : VKS) : Prop := ∀ k, x.1.ownBlock = some k → y.1.ownBlock ≠ some k
theorem Unshared.symm {x y : VKS} (h : Unshared x y) : Unshared y x := fun k hk e => h k e hk
theorem pair_putV {x : VKS} : ∀ {st : List VKS}, st.Pairwise Unshared → (∀ y ∈ st, Unshared x y) → (putV x st).Pairwise Unshared
  | [], _, _ => by rw [putV]; exact List.pairwise_singleton _ _
  | y :: l, h, hx => by
    obtain ⟨h1, h2⟩ := List.pairwise_cons.1 h
    unfold putV
    split
    · refine List.pairwise_cons.2 ⟨fun z hz => ?_, pair_putV h2 fun z hz => hx z (List.mem_cons_of_mem _ hz)⟩
      rcases mem_putV hz with rfl | hz
      · exact (hx y (by simp)).symm
      · exact h1 z hz
    · split
      · exact List.pairwise_cons.2 ⟨fun z hz => hx z (List.mem_cons_of_mem _ hz), h2⟩
      · exact List.pairwise_cons.2 ⟨hx, h⟩
/-- Sets by their keys in a map, of the call's own. -/
def OwnM (w : World) (base b : Nat) (st : List VKS) (k : Nat) : Prop :=
  MapOf w b (fun y => (lookV y st).map setVal) k ∧ (∀ x ∈ st, Own w base x.1 x.2.2.vals ∧ short x.2.1) ∧ st.Pairwise Unshared
theorem own_not_map {w : World} {base b k : Nat} {v : Value} {l : List Txt} {f : Txt → Option Value} (ho : Own w base v l) (hm : MapOf w b f k) : v.ownBlock ≠ some b := by
  intro e
  obtain ⟨n, D, ⟨es, cl, hb, _⟩, _⟩ := hm
  rcases ho.1.2 with ⟨rfl, _⟩ | ⟨g, cap, cur, rfl, _, hg, _⟩
  · cases e
  · obtain rfl : g = b := by injection e
    rw [hb] at hg; cases hg
theorem OwnM.below {w w' : World} {base b k : Nat} {st : List VKS} (h : OwnM w base b st k) (hb : Below w.heap.size w w') : OwnM w' base b st k :=
  ⟨h.1.below hb, fun x hx => ⟨(h.2.1 x hx).1.below hb, (h.2.1 x hx).2⟩, h.2.2⟩
/-- One more, behind a store. -/
theorem OwnM.put {w w' : World} {base b k : Nat} {st : List VKS} {x : VKS} (h : OwnM w base b st k) (hx : Own w base x.1 x.2.2.vals) (hk : short x.2.1) (hf : ∀ y ∈ st, Unshared x y)
    (hm : MapOf w' b (fun y => if y = x.2.1 then some (setVal x) else (lookV y st).map setVal) (k + 1)) (hg : w.grownBy w' (some b)) : OwnM w' base b (putV x st) (k + 1) := by
  refine ⟨hm.congr fun y => ?_, fun y hy => ?_, pair_putV h.2.2 hf⟩
  · rw [lookV_put]
    by_cases e : y = x.2.1
    · rw [if_pos e, if_pos e]; rfl
    · rw [if_neg e, if_neg e]
  · rcases mem_putV hy with rfl | hy
    · exact ⟨Own.other hx hg (fun k j hk hj e => by injection hk with hk; exact own_not_map hx h.1 (by rw [hj, e, hk])), hk⟩
    · exact ⟨Own.other (h.2.1 y hy).1 hg (fun k j hk hj e => by injection hk with hk; exact own_not_map (h.2.1 y hy).1 h.1 (by rw [hj, e, hk])), (h.2.1 y hy).2⟩

def metPost (xs : List VKS) (base : Nat) (w : World) (e : Ending) (w' : World) : Prop :=
  (¬ (setsF [] (xs.map (·.2))).2 = 0 ∧ e = .returned (.tuple #[.map none, .int .i64 (setsF [] (xs.map (·.2))).2]) ∧ Below w.heap.size w w') ∨
  ((setsF [] (xs.map (·.2))).2 = 0 ∧ ∃ b k st, e = .returned (.tuple #[.map (some b), .int .i64 0]) ∧ st.map (·.2) = (setsF [] (xs.map (·.2))).1 ∧ OwnM w' base b st k ∧ k ≤ 16 ∧ w.heap.size ≤ b ∧ Below w.heap.size w w')
/-- Whence the sets in the map are. -/
def From (w0 : Nat) (xs : List VKS) (y : VKS) : Prop := (∃ x ∈ xs, y.1 = x.1) ∨ ∀ j, y.1.ownBlock = some j → w0 ≤ j

set_option maxRecDepth 100000 in
set_option maxHeartbeats 8000000 in
theorem met_any (v : Value) (xs : List VKS) (base : Nat) (w : World) (hL : Laid w) (hO : OwnK 44 w base v xs) (h16 : xs.length ≤ 16) (hbase : base ≤ w.heap.size) :
    Calls Tryz.prog 26 #[v] w fun e w' => metPost xs base w e w' := by
  have HL := hide hL
  have HO := hide hO
  have HB := hide hbase
  obtain ⟨a, c, rfl⟩ := hO.val
  clear hL hO hbase
  obtain ⟨n, hn⟩ : ∃ n, n = xs.length := ⟨_, rfl⟩
  rw [← hn] at HO h16 ⊢
  have HN := hide hn
  clear hn
  obtain ⟨R, hR⟩ : ∃ R, R = metPost xs base w := ⟨_, rfl⟩
  show Calls _ _ _ _ (fun e w' => metPost xs base w e w')
  rw [← hR]
  have HR := hide hR
  clear hR
  have hmm := @run_makeMap Tryz.prog
  go_enter Tryz.func26, Tryz.ntmps26
  go_wp2_with fail
  clear hmm
  go_loopw [14] (fun i W => ∃ (k kk : Nat) (st : List VKS), k ≤ n ∧ i = .int .i64 k ∧ Hid (OwnM W base w.heap.size st kk) ∧ Hid (kk ≤ k) ∧ Hid ((setsF [] ((xs.map (·.2)).take k)).2 = 0) ∧ Hid (st.map (·.2) = (setsF [] ((xs.map (·.2)).take k)).1) ∧ Hid (∀ y ∈ st, From w.heap.size (xs.take k) y) ∧ Hid (Below w.heap.size w W)) (fun i _ => n - (intOf i).toNat)
  case atStart => exact ⟨0, 0, [], Nat.zero_le _, rfl, ⟨map_new w, fun x hx => (by cases hx), List.Pairwise.nil⟩, Nat.le_refl _, rfl, rfl, fun y hy => (by cases hy), box_below _⟩
  case round =>
    obtain ⟨k, kk, st, hk, rfl, hom, hkk, hs0, hst, hfrom, hbel⟩ := hrel
    have hzlt : Hid (∀ z ∈ st, ∀ j, z.1.ownBlock = some j → j < wr.heap.size) := fun z hz j hj => (own_block ((unhide hom).2.1 z hz).1 j hj).2
    by_cases hlt : k < n
    · have hxk : k < xs.length := by rw [← unhide HN]; exact hlt
      obtain ⟨g, rfl, hsev⟩ := ((unhide HO).below (unhide hbel)).at hxk
      have hel := (((unhide HO).below (unhide hbel)).2.1 _ (List.getElem_mem hxk))
      have hsn := hide (sets_next [] (xs.map (·.2)) k (by simpa using hxk) (unhide hs0))
      have hss := hide (sets_stop [] (xs.map (·.2)) k (by simpa using hxk) (unhide hs0))
      rw [← unhide hst, List.getElem_map] at hsn hss
      have hfr0 : Hid (∀ y ∈ st, Unshared xs[k] y) := fun y hy j hj => by
        have hjw : j < w.heap.size := (own_block ((unhide HO).2.1 _ (List.getElem_mem hxk)).1 j hj).2
        rcases unhide hfrom y hy with ⟨x', hx', e⟩ | h
        · intro e2
          obtain ⟨i, hi, rfl⟩ := List.mem_take_iff_getElem.1 hx'
          have := List.pairwise_iff_getElem.1 (unhide HO).2.2.2 i k (by omega) hxk (by omega) j (by rw [← e]; exact e2)
          exact this hj
        · intro e2; have := h j e2; omega
      have htk := hide (take_nextG xs k hxk)
      obtain ⟨y, hy⟩ : ∃ y, y = xs[k] := ⟨_, rfl⟩
      rw [← hy] at hsev hel hsn hss hfr0 htk
      obtain ⟨u, key, ⟨miss, no, num, vals, lo, hi⟩⟩ := y
      obtain ⟨ho, hsh⟩ := hel
      have HO1 := hide ho
      have HST := hide ho.strs
      have HSH := hide hsh
      obtain ⟨ua, uc, hue⟩ := ho.strs.val
      simp only at hsev ho hsh hue hsn hss HST HSH HO1
      obtain ⟨un, hun⟩ : ∃ x, x = vals.length := ⟨_, rfl⟩
      rw [← hun] at hue
      clear hun ho hsh hy hxk
      subst hue
      obtain ⟨s0, s1, s2, s3, s4, s5, s6⟩ := hsev
      simp only at s0 s1 s2 s3 s4 s5 s6
      go_upto_region 6 with (fail)
      obtain ⟨W2, hW2⟩ : ∃ W, W = (wr.alloc (.cells #[.string (bytesT key), .bool miss, .bool no, .bool num, .slice ua un uc, .int .i64 lo, .int .i64 hi] 44)).alloc (.cells #[.bool miss, .bool no, .bool num, .slice ua un uc, .int .i64 lo, .int .i64 hi] 42) := ⟨_, rfl⟩
      have B2 : Hid (Below wr.heap.size wr W2) := by rw [hW2]; exact (box_below _).alloc (by simp) _
      have F2 : Hid (W2.cell? ⟨wr.heap.size, 0, none⟩ = some (.string (bytesT key))) := by rw [hW2]; exact cell_kept (box_below _) (by simp [go_sem])
      have X2 : Hid (Box6 W2 (wr.heap.size + 1) (.bool miss) (.bool no) (.bool num) (.slice ua un uc) (.int .i64 lo) (.int .i64 hi)) := by
        have := box6_new (wr.alloc (.cells #[.string (bytesT key), .bool miss, .bool no, .bool num, .slice ua un uc, .int .i64 lo, .int .i64 hi] 44)) (.bool miss) (.bool no) (.bool num) (.slice ua un uc) (.int .i64 lo) (.int .i64 hi) 42
        rw [show (wr.alloc (.cells #[.string (bytesT key), .bool miss, .bool no, .bool num, .slice ua un uc, .int .i64 lo, .int .i64 hi] 44)).heap.size = wr.heap.size + 1 by simp] at this
        rw [hW2]; exact this
      have Z2 : Hid (W2.heap.size = wr.heap.size + 2) := by rw [hW2]; show _ = _; simp
      have ZW : Hid (w.heap.size ≤ wr.heap.size) := (unhide hbel).size
      rw [← hW2]
      clear hW2 s0 s1 s2 s3 s4 s5 s6
      have OM2 := hide ((unhide hom).below (unhide B2))
      cases hlv : lookV key st with
      | none =>
        have hf : Hid ((lookV key st).map setVal = none) := by show _ = _; rw [hlv]; rfl
        have hstep : Hid (stepK (st.map (·.2)) (key, ⟨miss, no, num, vals, lo, hi⟩) = ((putV (.slice ua un uc, (key, ⟨miss, no, num, vals, lo, hi⟩)) st).map (·.2), 0)) := by
          show _ = _
          unfold stepK
          simp only
          rw [look_mapV, hlv, putV_map]; rfl
        clear hlv hom
        have f0 := unhide F2
        have f0' := cell_kept (box_below (.cells #[.bool false, .bool false, .bool false, .slice none 0 0, .int .i64 0, .int .i64 0] 42)) f0
        have X3 := hide ((unhide X2).below (box_below (.cells #[.bool false, .bool false, .bool false, .slice none 0 0, .int .i64 0, .int .i64 0] 42)))
        obtain ⟨⟨g0, g1, g2, g3, g4, g5⟩, gf, _⟩ := unhide X3
        have OM3 := hide ((unhide OM2).below (box_below (.cells #[.bool false, .bool false, .bool false, .slice none 0 0, .int .i64 0, .int .i64 0] 42)))
        have HO3 := hide ((unhide HO1).below (chain (unhide B2) (box_below (.cells #[.bool false, .bool false, .bool false, .slice none 0 0, .int .i64 0, .int .i64 0] 42))))
        go_wp2_with (first
          | (at_lookup; refine wpList_look_none rfl _ _ _ rfl 42 Tryz.underlying56 (zeroSet _) (unhide OM2).1 rfl key rfl (unhide HSH) (unhide hf) ?_; unfold zeroSV)
          | (at_mapUpdate; refine wpList_keep rfl _ _ _ _ rfl 42 Tryz.underlying56 (unhide OM3).1 (by have := unhide hkk; unfold maxLen; omega) rfl key rfl (unhide HSH) (.agg #[.bool miss, .bool no, .bool num, .slice ua un uc, .int .i64 lo, .int .i64 hi]) rfl ?_; intro w5 hm5 hg5; have OM5 := hide (OwnM.put (x := (.slice ua un uc, (key, ⟨miss, no, num, vals, lo, hi⟩))) (unhide OM3) (unhide HO3) (unhide HSH) (unhide hfr0) hm5 hg5); have B5 := hide (grown_below (chain (chain (unhide hbel) (unhide B2)) (box_below (.cells #[.bool false, .bool false, .bool false, .slice none 0 0, .int .i64 0, .int .i64 0] 42))) hg5 (Nat.le_refl _)); clear hm5 hg5))
        refine ⟨⟨k + 1, kk + 1, putV (.slice ua un uc, (key, ⟨miss, no, num, vals, lo, hi⟩)) st, by omega, by go_num, OM5, Nat.succ_le_succ (unhide hkk), ?_, ?_, ?_, B5⟩, by simp [intOf]; omega⟩
        · show _ = _; rw [unhide hsn, unhide hstep]; rfl
        · show _ = _; rw [unhide hsn, unhide hstep]; rfl
        · intro z hz
          rcases mem_putV hz with rfl | hz
          · exact Or.inl ⟨_, by rw [unhide htk]; exact List.mem_append_right _ (List.mem_singleton.2 rfl), rfl⟩
          · rcases unhide hfrom z hz with ⟨x', hx', e⟩ | h
            · exact Or.inl ⟨x', by rw [unhide htk]; exact List.mem_append_left _ hx', e⟩
            · exact Or.inr h
      | some y =>
        obtain ⟨ymem, ykey⟩ := lookV_mem hlv
        have hyo := (unhide OM2).2.1 y ymem
        have hyf := unhide hfrom y ymem
        obtain ⟨uy, ykk, ⟨ym, yn, yq, yv, ylo, yhi⟩⟩ := y
        simp only at ykey hyo hyf
        subst ykey
        obtain ⟨ya, yc, hye⟩ := hyo.1.strs.val
        obtain ⟨yk, hyk⟩ : ∃ x, x = yv.length := ⟨_, rfl⟩
        rw [← hyk] at hye
        clear hyk
        subst hye
        have HYS := hide hyo.1.strs
        clear hyo hyf ymem
        obtain ⟨pr, hpr⟩ : ∃ r, r = meetR ⟨ym, yn, yq, yv, ylo, yhi⟩ ⟨miss, no, num, vals, lo, hi⟩ := ⟨_, rfl⟩
        have hf : Hid ((lookV ykk st).map setVal = some (setVal (.slice ya yk yc, (ykk, ⟨ym, yn, yq, yv, ylo, yhi⟩)))) := by show _ = _; rw [hlv]; rfl
        have hstep0 : Hid (stepK (st.map (·.2)) (ykk, ⟨miss, no, num, vals, lo, hi⟩) = if pr.2 = 0 then (putK ykk pr.1 (st.map (·.2)), 0) else ([], pr.2)) := by
          show _ = _
          unfold stepK
          simp only
          rw [look_mapV, hlv, hpr]; rfl
        have GP := hide hpr
        clear hlv hom hpr
        obtain ⟨⟨pm, pn, pq, pv, plo, phi⟩, pe⟩ := pr
        simp only at hstep0
        obtain ⟨W3, hW3⟩ : ∃ W, W = W2.alloc (.cells #[.bool ym, .bool yn, .bool yq, .slice ya yk yc, .int .i64 ylo, .int .i64 yhi] 42) := ⟨_, rfl⟩
        have b3 : Hid (Below W2.heap.size W2 W3) := by rw [hW3]; exact box_below _
        have GW3 := hide hW3
        clear hW3
        have F3 := hide (cell_kept (unhide b3) (unhide F2))
        have X3 := hide ((unhide X2).below (unhide b3))
        have OM3 := hide ((unhide OM2).below (unhide b3))
        have B3 := hide (chain (chain (unhide hbel) (unhide B2)) (unhide b3))
        have Z3 : Hid (W3.heap.size = wr.heap.size + 3) := by rw [unhide GW3]; show _ = _; simp; rw [unhide Z2]
        have f0 := unhide F2
        obtain ⟨⟨g0, g1, g2, g3, g4, g5⟩, gf, _⟩ := unhide X3
        rw [unhide GW3] at g0 g1 g2 g3 g4 g5
        go_wp2_with (at_lookup; refine wpList_look_some rfl _ _ _ rfl 42 Tryz.underlying56 (zeroSet _) (unhide OM2).1 rfl ykk rfl (unhide HSH) _ (unhide hf) ?_; unfold setVal)
        rw [← unhide GW3]
        clear f0 g0 g1 g2 g3 g4 g5 gf
        refine (meet_any ym yn yq _ yv ylo yhi miss no num _ vals lo hi _ ((unhide HL).below (unhide B3)) ((unhide HYS).below (unhide b3)) ((unhide HST).below (chain (unhide B2) (unhide b3)))).mono ?_
        rintro e w4 ⟨x4, y4, he, ho4, hw4⟩
        rw [← unhide GP] at he ho4
        unfold tells at he
        simp only at he ho4
        obtain ⟨pk, hpk⟩ : ∃ x, x = pv.length := ⟨_, rfl⟩
        rw [← hpk] at he ho4
        clear hpk
        subst he
        have F4 := hide (cell_kept hw4 (unhide F3))
        have X4 := hide ((unhide X3).below hw4)
        have OM4 := hide ((unhide OM3).below hw4)
        have B4 := hide (chain (unhide B3) hw4)
        have O4 := hide ho4
        clear hw4 ho4 F3 X3 OM3 GW3
        obtain ⟨⟨g0, g1, g2, g3, g4, g5⟩, gf, _⟩ := unhide X4
        go_upto_region 10 with (fail)
        obtain ⟨W5, hW5⟩ : ∃ W, W = ((((((w4.setCell ⟨wr.heap.size + 1, 0, none⟩ (.bool pm)).setCell ⟨wr.heap.size + 1, 1, none⟩ (.bool pn)).setCell ⟨wr.heap.size + 1, 2, none⟩ (.bool pq)).setCell ⟨wr.heap.size + 1, 3, none⟩ (.slice x4 pk y4)).setCell ⟨wr.heap.size + 1, 4, none⟩ (.int .i64 plo)).setCell ⟨wr.heap.size + 1, 5, none⟩ (.int .i64 phi)) := ⟨_, rfl⟩
        have gX : Hid (w4.grownBy W5 (some (wr.heap.size + 1))) := by rw [hW5]; exact put6_grown _ _ _ _ _ _ _ _
        have X5 : Hid (Box6 W5 (wr.heap.size + 1) (.bool pm) (.bool pn) (.bool pq) (.slice x4 pk y4) (.int .i64 plo) (.int .i64 phi)) := by rw [hW5]; exact (unhide X4).put _ _ _ _ _ _
        rw [← hW5]
        clear hW5 g0 g1 g2 g3 g4 g5 gf X4
        have F5 : Hid (W5.cell? ⟨wr.heap.size, 0, none⟩ = some (.string (bytesT ykk))) := cell_other (unhide gX) (unhide F4) (fun k hk e => by injection hk with hk; simp at e; omega)
        have B5' : Hid (Below w.heap.size w W5) := grown_below (unhide B4) (unhide gX) (by have := unhide ZW; omega)
        have O5 : Hid (Own W5 W3.heap.size (.slice x4 pk y4) pv) := (unhide O4).grown (unhide gX) (by rw [unhide Z3]; omega)
        have hzb : Hid (base ≤ wr.heap.size) := Nat.le_trans (unhide HB) (unhide ZW)
        by_cases hpe : pe = 0
        rotate_left
        · have ht : (pe != 0) = true := bne_iff_ne.2 hpe
          have hfin : Hid (setsF [] (xs.map (·.2)) = ([], pe)) := by
            show _ = _
            rw [unhide hss (by rw [unhide hstep0, if_neg hpe]; exact hpe), unhide hstep0, if_neg hpe]
          have HPE := hide hpe
          clear hpe
          go_wp2_with fail
          show R (.returned (.tuple #[.map none, .int .i64 pe])) _
          rw [unhide HR]
          exact Or.inl ⟨by rw [unhide hfin]; exact unhide HPE, by rw [unhide hfin], unhide B5'⟩
        subst hpe
        have hstep : Hid (stepK (st.map (·.2)) (ykk, ⟨miss, no, num, vals, lo, hi⟩) = ((putV (.slice x4 pk y4, (ykk, ⟨pm, pn, pq, pv, plo, phi⟩)) st).map (·.2), 0)) := by
          show _ = _; rw [unhide hstep0, if_pos rfl, putV_map]
        have OM6 : Hid (OwnM W5 base w.heap.size st kk) := ⟨(unhide OM4).1.kept (unhide gX) (by intro e; injection e with e; have := unhide ZW; omega), fun z hz => ⟨Own.other ((unhide OM4).2.1 z hz).1 (unhide gX) (fun k j hk hj e => by
            injection hk with hk
            have := unhide hzlt z hz j hj
            omega), ((unhide OM4).2.1 z hz).2⟩, (unhide OM4).2.2⟩
        have hfr : Hid (∀ z ∈ st, Unshared (.slice x4 pk y4, (ykk, ⟨pm, pn, pq, pv, plo, phi⟩)) z) := fun z hz j hj e => by
          have h1 := (own_block (unhide O4) j hj).1
          have h2 := unhide hzlt z hz j e
          have h3 := unhide Z3
          omega
        have hnw : Hid (∀ j, (Value.slice x4 pk y4).ownBlock = some j → w.heap.size ≤ j) := fun j hj => by
          have h1 := (own_block (unhide O4) j hj).1
          have h3 := unhide Z3
          have h4 := unhide ZW
          omega
        have hb6 : Hid (base ≤ W3.heap.size) := by have h1 := unhide hzb; have h3 := unhide Z3; show _ ≤ _; omega
        have f0 := unhide F5
        obtain ⟨⟨g0, g1, g2, g3, g4, g5⟩, gf, _⟩ := unhide X5
        go_wp2_with (at_mapUpdate; refine wpList_keep rfl _ _ _ _ rfl 42 Tryz.underlying56 (unhide OM6).1 (by have := unhide hkk; unfold maxLen; omega) rfl ykk rfl (unhide HSH) (.agg #[.bool pm, .bool pn, .bool pq, .slice x4 pk y4, .int .i64 plo, .int .i64 phi]) rfl ?_; intro w6 hm5 hg5; have OM5 := hide (OwnM.put (x := (.slice x4 pk y4, (ykk, ⟨pm, pn, pq, pv, plo, phi⟩))) (unhide OM6) ((unhide O5).mono (unhide hb6)) (unhide HSH) (unhide hfr) hm5 hg5); have B5 := hide (grown_below (unhide B5') hg5 (Nat.le_refl _)); clear hm5 hg5)
        refine ⟨⟨k + 1, kk + 1, putV (.slice x4 pk y4, (ykk, ⟨pm, pn, pq, pv, plo, phi⟩)) st, by omega, by go_num, OM5, Nat.succ_le_succ (unhide hkk), ?_, ?_, ?_, B5⟩, by simp [intOf]; omega⟩
        · show _ = _; rw [unhide hsn, unhide hstep]; rfl
        · show _ = _; rw [unhide hsn, unhide hstep]; rfl
        · intro z hz
          rcases mem_putV hz with rfl | hz
          · exact Or.inr (unhide hnw)
          · rcases unhide hfrom z hz with ⟨x', hx', e⟩ | h
            · exact Or.inl ⟨x', by rw [unhide htk]; exact List.mem_append_left _ hx', e⟩
            · exact Or.inr h
    · obtain rfl : k = n := by omega
      rw [List.take_of_length_le (by rw [List.length_map, ← unhide HN]; exact Nat.le_refl _)] at hs0 hst
      go_wp2_with fail
      show R (.returned (.tuple #[.map (some w.heap.size), .int .i64 0])) _
      rw [unhide HR]
      exact Or.inr ⟨unhide hs0, _, kk, st, rfl, unhide hst, unhide hom, by have := unhide hkk; omega, Nat.le_refl _, unhide hbel⟩
end Go.Proofs.YtnkcbmlobikjkaaGreatDoor
