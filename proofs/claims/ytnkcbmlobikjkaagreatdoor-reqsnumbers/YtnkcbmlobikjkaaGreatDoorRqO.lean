/- Layer 4: contracts of slices.Concat at requirements and of the program's Meets. -/
import Derived.Test.YtnkcbmlobikjkaaGreatDoorRqN
import Derived.Test.YtnkcbmlobikjkaaGreatDoorGrowL
namespace Go.Proofs.YtnkcbmlobikjkaaGreatDoor
open Go.RowKit Suf Val Go.Maps

theorem row_block {w : World} {base : Nat} {T : TypeId} {sz : Nat} {v : Value} {n : Nat} {xs : List Value} (h : w.ownsRow base T sz v n xs) : ∀ k, v.ownBlock = some k → base ≤ k := by
  rcases h.2 with ⟨rfl, _⟩ | ⟨g, cap, cur, rfl, hb, _⟩
  · intro k hk; cases hk
  · intro k hk; injection hk with hk; subst hk; exact hb
theorem row_grow {w W W1 : World} {T : TypeId} {sz : Nat} {v : Value} {n : Nat} {xs : List Value} (hb : Below w.heap.size w W) (ho : W.ownsRow w.heap.size T sz v n xs) (hg : W.grownBy W1 v.ownBlock) : Below w.heap.size w W1 := hb.grown hg hb.size (row_block ho)

theorem grow_any (n base : Nat) (w : World) (hn : n ≤ 16) (hbase : base ≤ w.heap.size) :
    Calls Tryz.prog 61 #[.slice none 0 0, .int .i64 n] w fun e w' => (∃ v, e = .returned v ∧ w'.ownsRow base 25 4 v 0 []) ∧ Below w.heap.size w w' := by
  by_cases h0 : n = 0
  · subst h0
    refine (Any8.slices_Grow_room Tryz.growR none 0 0 0 w (Nat.le_refl _) (by decide) (by decide) (by decide)).mono ?_
    rintro e w' ⟨rfl, rfl⟩
    exact ⟨⟨_, rfl, rfl, Or.inl ⟨rfl, rfl⟩⟩, Below.refl _ _⟩
  · obtain ⟨i, hi, hz, hz1, hz2⟩ := info_partsS Tryz.infoReq
    refine (Any8.slices_Grow_grow Tryz.growR i _ hi hz (by rw [hz1]; decide) none 0 0 n [] w (Nat.le_refl _) (by omega) (by rw [hz2]; omega) (by omega) (by simp) (fun _ => rfl) (fun a h => by cases h)).mono ?_
    rintro e w' ⟨rfl, rfl⟩
    have hge := grownCap_ge w (0 + n) 0 25
    have hle := grownCap_le_maxLen w (0 + n) 0 25 (by unfold maxLen; omega)
    refine ⟨⟨_, rfl, rfl, Or.inr ⟨w.heap.size, _, _, rfl, hbase, heap_alloc_new w.drew _, Nat.zero_le _, hle, ?_, by simp⟩⟩, chain (Below.refl _ _).drew (box_below _)⟩
    rw [Array.size_append, Array.size_append, size_zeroCells, size_zeroCells]
    show 0 + _ * 4 + _ * 4 = _ * 4
    show 0 + (0 + n - 0) * 4 + (grownCap w (0 + n) 0 25 - (0 + n)) * 4 = grownCap w (0 + n) 0 25 * 4
    omega

set_option maxRecDepth 100000 in
set_option maxHeartbeats 8000000 in
theorem concat_any (B : Nat) (va vb : Value) (la lb : List VReq) (w : World) (h0 : w.cell? ⟨B, 0, none⟩ = some va) (h1 : w.cell? ⟨B, 1, none⟩ = some vb) (ha : Reqs w va la) (hb : Reqs w vb lb) (ka : la.length ≤ 8) (kb : lb.length ≤ 8) :
    Calls Tryz.prog 41 #[.slice (some ⟨B, 0, none⟩) 2 2] w fun e w' => (∃ v, e = .returned v ∧ Reqs w' v (la ++ lb)) ∧ Below w.heap.size w w' := by
  have H0 := hide h0
  have H1 := hide h1
  have HA := hide ha
  have HB := hide hb
  obtain ⟨a1, c1, rfl⟩ := ha.val
  obtain ⟨a2, c2, rfl⟩ := hb.val
  obtain ⟨n1, hn1⟩ : ∃ n, n = la.length := ⟨_, rfl⟩
  obtain ⟨n2, hn2⟩ : ∃ n, n = lb.length := ⟨_, rfl⟩
  rw [← hn1] at H0 HA ka
  rw [← hn2] at H1 HB kb
  have N1 := hide hn1
  have N2 := hide hn2
  clear h0 h1 ha hb hn1 hn2
  go_enter Tryz.func41, Tryz.ntmps41
  go_wp2_with fail
  go_loopw [11, 3] (fun i s W => Hid (Below w.heap.size w W) ∧ ((i = .int .i64 0 ∧ s = .int .i64 0) ∨ (i = .int .i64 1 ∧ s = .int .i64 n1) ∨ (i = .int .i64 2 ∧ s = .int .i64 ((n1 : Int) + n2)))) (fun i _ _ => 2 - (intOf i).toNat)
  case atStart => exact ⟨Below.refl _ _, Or.inl ⟨rfl, rfl⟩⟩
  case round =>
    obtain ⟨hbel, hrel⟩ := hrel
    have c0 := cell_kept (unhide hbel) (unhide H0)
    have c1 := cell_kept (unhide hbel) (unhide H1)
    rcases hrel with ⟨rfl, rfl⟩ | ⟨rfl, rfl⟩ | ⟨rfl, rfl⟩
    · go_wp2_with fail
      go_roundw
      case rel => exact ⟨hbel, Or.inr (Or.inl ⟨by go_num, by go_num⟩)⟩
      case measure => simp [intOf]
    · go_wp2_with fail
      go_roundw
      case rel => exact ⟨hbel, Or.inr (Or.inr ⟨by go_num, by go_num⟩)⟩
      case measure => simp [intOf]
    · clear c0 c1
      go_wp2_with fail
      refine (grow_any (n1 + n2) w.heap.size _ (by omega) (unhide hbel).size).mono ?_
      rintro e w1 ⟨⟨v0, rfl, hrow0⟩, hw1⟩
      have B1 := hide (chain (unhide hbel) hw1)
      have R0 := hide hrow0
      clear hrow0 hw1 hbel
      go_wp2_with fail
      go_loopw [27, 6] (fun i o W => Hid (Below w.heap.size w W) ∧ ((i = .int .i64 0 ∧ Hid (W.ownsRow w.heap.size 25 4 o 0 [])) ∨ (i = .int .i64 1 ∧ ∃ news, Hid (Rowed w news la ∧ W.ownsRow w.heap.size 25 4 o n1 news)) ∨ (i = .int .i64 2 ∧ ∃ news, Hid (Rowed w news (la ++ lb) ∧ W.ownsRow w.heap.size 25 4 o (n1 + n2) news)))) (fun i _ _ => 2 - (intOf i).toNat)
      case atStart => exact ⟨B1, Or.inl ⟨rfl, R0⟩⟩
      case round =>
        obtain ⟨hbel, hrel⟩ := hrel
        have c0 := cell_kept (unhide hbel) (unhide H0)
        have c1 := cell_kept (unhide hbel) (unhide H1)
        rcases hrel with ⟨rfl, hr⟩ | ⟨rfl, news, hr⟩ | ⟨rfl, news, hr⟩
        · go_wp2_with (at_builtin; (refine wpList_append_reqs rfl _ _ rfl w.heap.size _ 0 [] rfl (unhide hr) _ la rfl w (unhide hbel) (unhide HA) (by have := unhide N1; omega) (unhide hbel).size ?_; intro v1 w2 news2 hr2 hown2 hg2; have B2 := hide (row_grow (unhide hbel) (unhide hr) hg2); rw [Nat.zero_add, List.nil_append, ← unhide N1] at hown2; have R2 := hide (And.intro hr2 hown2); clear hr2 hown2 hg2 c0 c1))
          go_roundw
          case rel => exact ⟨B2, Or.inr (Or.inl ⟨by go_num, news2, R2⟩)⟩
          case measure => simp [intOf]
        · go_wp2_with (at_builtin; (refine wpList_append_reqs rfl _ _ rfl w.heap.size _ n1 news rfl (unhide hr).2 _ lb rfl w (unhide hbel) (unhide HB) (by have := unhide N2; omega) (unhide hbel).size ?_; intro v1 w2 news2 hr2 hown2 hg2; have B2 := hide (row_grow (unhide hbel) (unhide hr).2 hg2); rw [← unhide N2] at hown2; have R2 := hide (And.intro ((unhide hr).1.append hr2) hown2); clear hr2 hown2 hg2 c0 c1))
          go_roundw
          case rel => exact ⟨B2, Or.inr (Or.inr ⟨by go_num, news ++ news2, R2⟩)⟩
          case measure => simp [intOf]
        · clear c0 c1
          go_wp2_with fail
          go_ret
          exact ⟨⟨_, rfl, row_reqs (unhide hr).2 ((unhide hr).1.below (unhide hbel)) (by rw [List.length_append, unhide N1, unhide N2]) (by rw [List.length_append, ← unhide N1, ← unhide N2]; omega)⟩, unhide hbel⟩

theorem meets_bad1 {a b : List VReq} (h : ¬ moreR 8 a = 0) : meetsR a b = (false, moreR 8 a) := by unfold meetsR; rw [if_neg h]
theorem meets_bad2 {a b : List VReq} (h : moreR 8 a = 0) (h2 : ¬ moreR 8 b = 0) : meetsR a b = (false, moreR 8 b) := by unfold meetsR; rw [if_pos h, if_neg h2]
theorem meets_ok {a b : List VReq} (h : moreR 8 a = 0) (h2 : moreR 8 b = 0) : meetsR a b = canR (a ++ b) := by unfold meetsR; rw [if_pos h, if_pos h2]
set_option maxRecDepth 100000 in
set_option maxHeartbeats 8000000 in
theorem pmeets_any (va vb : Value) (la lb : List VReq) (w : World) (hL : Laid w) (ha : Reqs w va la) (hb : Reqs w vb lb) :
    Calls Tryz.prog 20 #[va, vb] w fun e w' => e = .returned (.tuple #[.bool (meetsR la lb).1, .int .i64 (meetsR la lb).2]) ∧ Below w.heap.size w w' := by
  have HL := hide hL
  have HA := hide ha
  have HB := hide hb
  obtain ⟨a1, c1, rfl⟩ := ha.val
  obtain ⟨a2, c2, rfl⟩ := hb.val
  obtain ⟨n1, hn1⟩ : ∃ n, n = la.length := ⟨_, rfl⟩
  obtain ⟨n2, hn2⟩ : ∃ n, n = lb.length := ⟨_, rfl⟩
  rw [← hn1] at HA ⊢
  rw [← hn2] at HB ⊢
  clear hL ha hb hn1 hn2
  obtain ⟨R, hR⟩ : ∃ R, R = meetsR la lb := ⟨_, rfl⟩
  rw [← hR]
  have HR := hide hR
  clear hR
  go_enter Tryz.func20, Tryz.ntmps20
  go_wp2_with fail
  refine (rcheckL_any _ la _ (unhide HL) (unhide HA)).mono ?_
  rintro e w1 ⟨rfl, hw1⟩
  have B1 := hide hw1
  clear hw1
  by_cases hz1 : moreR 8 la = 0
  · have Z1 := hide hz1
    rw [hz1]
    clear hz1
    go_wp2_with fail
    refine (rcheckL_any _ lb _ ((unhide HL).below (unhide B1)) ((unhide HB).below (unhide B1))).mono ?_
    rintro e w2 ⟨rfl, hw2⟩
    have B2 := hide (chain (unhide B1) hw2)
    clear hw2 B1
    by_cases hz2 : moreR 8 lb = 0
    · have Z2 := hide hz2
      rw [hz2]
      clear hz2
      have hr : Hid (R = canR (la ++ lb)) := by show _ = _; rw [unhide HR]; exact meets_ok (unhide Z1) (unhide Z2)
      obtain ⟨q, z⟩ := R
      obtain ⟨W2, hW2⟩ : ∃ W, W = w2.alloc (.cells #[.slice a1 n1 c1, .slice a2 n2 c2] 22) := ⟨_, rfl⟩
      have B3 : Hid (Below w.heap.size w W2) := by rw [hW2]; exact chain (unhide B2) (box_below _)
      have F0 : Hid (W2.cell? ⟨w2.heap.size, 0, none⟩ = some (.slice a1 n1 c1)) := by rw [hW2]; show _ = _; simp [go_sem]
      have F1 : Hid (W2.cell? ⟨w2.heap.size, 1, none⟩ = some (.slice a2 n2 c2)) := by rw [hW2]; show _ = _; simp [go_sem]
      have GW := hide hW2
      clear hW2
      go_wp2_with fail
      rw [← unhide GW]
      refine (concat_any w2.heap.size _ _ la lb _ (unhide F0) (unhide F1) ((unhide HA).below (unhide B3)) ((unhide HB).below (unhide B3)) (more_ok.1 (unhide Z1)).1 (more_ok.1 (unhide Z2)).1).mono ?_
      rintro e w4 ⟨⟨v, rfl, hv⟩, hw4⟩
      have B4 := hide (chain (unhide B3) hw4)
      have HV := hide hv
      clear hv hw4
      go_wp2_with fail
      refine (pcan_any _ (la ++ lb) _ ((unhide HL).below (unhide B4)) (unhide HV)).mono ?_
      rintro e w5 ⟨he, hw5⟩
      rw [← unhide hr] at he
      subst he
      have B5 := hide (chain (unhide B4) hw5)
      clear hw5
      go_wp2_with fail
      go_ret2
      exact ⟨rfl, unhide B5⟩
    · have hr : Hid (R = (false, moreR 8 lb)) := by show _ = _; rw [unhide HR]; exact meets_bad2 (unhide Z1) hz2
      obtain ⟨z, hz⟩ : ∃ z, z = moreR 8 lb := ⟨_, rfl⟩
      rw [← hz] at hr hz2 ⊢
      have ht : (z != 0) = true := bne_iff_ne.2 hz2
      clear hz2 hz
      go_wp2_with fail
      go_ret2
      exact ⟨by rw [unhide hr]; rfl, unhide B2⟩
  · have hr : Hid (R = (false, moreR 8 la)) := by show _ = _; rw [unhide HR]; exact meets_bad1 hz1
    obtain ⟨z, hz⟩ : ∃ z, z = moreR 8 la := ⟨_, rfl⟩
    rw [← hz] at hr hz1 ⊢
    have ht : (z != 0) = true := bne_iff_ne.2 hz1
    clear hz1 hz
    go_wp2_with fail
    go_ret2
    exact ⟨by rw [unhide hr]; rfl, unhide B1⟩
end Go.Proofs.YtnkcbmlobikjkaaGreatDoor
