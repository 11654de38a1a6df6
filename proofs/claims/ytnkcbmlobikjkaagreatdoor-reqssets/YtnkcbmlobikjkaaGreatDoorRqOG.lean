/- Layer 4: contracts of slices.Concat at requirements and of the program's Meets. -/
import Derived.Test.YtnkcbmlobikjkaaGreatDoorRqMG
import Derived.Test.YtnkcbmlobikjkaaGreatDoorGrowL
import Derived.Test.YtnkcbmlobikjkaaGreatDoorV3YG
namespace Go.Proofs.YtnkcbmlobikjkaaGreatDoor
open Go.RowKit Suf Val Go.Maps

theorem row_block {w : World} {base : Nat} {T : TypeId} {sz : Nat} {v : Value} {n : Nat} {xs : List Value} (h : w.ownsRow base T sz v n xs) : ∀ k, v.ownBlock = some k → base ≤ k := by
  rcases h.2 with ⟨rfl, _⟩ | ⟨g, cap, cur, rfl, hb, _⟩
  · intro k hk; cases hk
  · intro k hk; injection hk with hk; subst hk; exact hb
theorem row_grow {w W W1 : World} {T : TypeId} {sz : Nat} {v : Value} {n : Nat} {xs : List Value} (hb : Below w.heap.size w W) (ho : W.ownsRow w.heap.size T sz v n xs) (hg : W.grownBy W1 v.ownBlock) : Below w.heap.size w W1 := hb.grown hg hb.size (row_block ho)

theorem grow_any (n base : Nat) (w : World) (hn : n ≤ 16) (hbase : base ≤ w.heap.size) :
    Calls Tryz.prog 61 #[.slice none 0 0, .int .i64 n] w fun e w' => (∃ v, e = .returned v ∧ w'.ownsRow base 25 4 v 0 []) ∧ Below w.heap.size w w' := by
  by_cases h0 : n = 0
  · subst h0
    refine (Any8.slices_Grow_room Tryz.growR none 0 0 0 w (Nat.le_refl _) (by decide) (by decide) (by decide)).mono ?_
    rintro e w' ⟨rfl, rfl⟩
    exact ⟨⟨_, rfl, rfl, Or.inl ⟨rfl, rfl⟩⟩, Below.refl _ _⟩
  · obtain ⟨i, hi, hz, hz1, hz2⟩ := info_partsS Tryz.infoReq
    refine (Any8.slices_Grow_grow Tryz.growR i _ hi hz (by rw [hz1]; decide) none 0 0 n [] w (Nat.le_refl _) (by omega) (by rw [hz2]; omega) (by omega) (by simp) (fun _ => rfl) (fun a h => by cases h)).mono ?_
    rintro e w' ⟨rfl, rfl⟩
    have hge := grownCap_ge w (0 + n) 0 25
    have hle := grownCap_le_maxLen w (0 + n) 0 25 (by unfold maxLen; omega)
    refine ⟨⟨_, rfl, rfl, Or.inr ⟨w.heap.size, _, _, rfl, hbase, heap_alloc_new w.drew _, Nat.zero_le _, hle, ?_, by simp⟩⟩, chain (Below.refl _ _).drew (box_below _)⟩
    rw [Array.size_append, Array.size_append, size_zeroCells, size_zeroCells]
    show 0 + _ * 4 + _ * 4 = _ * 4
    show 0 + (0 + n - 0) * 4 + (grownCap w (0 + n) 0 25 - (0 + n)) * 4 = grownCap w (0 + n) 0 25 * 4
    omega

set_option maxRecDepth 100000 in
set_option maxHeartbeats 8000000 in
theorem concat_any (B : Nat) (va vb : Value) (la lb : List VReq) (w : World) (h0 : w.cell? ⟨B, 0, none⟩ = some va) (h1 : w.cell? ⟨B, 1, none⟩ = some vb) (ha : Reqs w va la) (hb : Reqs w vb lb) (ka : la.length ≤ 8) (kb : lb.length ≤ 8) :
    Calls Tryz.prog 41 #[.slice (some ⟨B, 0, none⟩) 2 2] w fun e w' => (∃ v, e = .returned v ∧ Reqs w' v (la ++ lb)) ∧ Below w.heap.size w w' := by
  have H0 := hide h0
  have H1 := hide h1
  have HA := hide ha
  have HB := hide hb
  obtain ⟨a1, c1, rfl⟩ := ha.val
  obtain ⟨a2, c2, rfl⟩ := hb.val
  obtain ⟨n1, hn1⟩ : ∃ n, n = la.length := ⟨_, rfl⟩
  obtain ⟨n2, hn2⟩ : ∃ n, n = lb.length := ⟨_, rfl⟩
  rw [← hn1] at H0 HA ka
  rw [← hn2] at H1 HB kb
  have N1 := hide hn1
  have N2 := hide hn2
  clear h0 h1 ha hb hn1 hn2
  go_enter Tryz.func41, Tryz.ntmps41
  go_wp2_with fail
  go_loopw [11, 3] (fun i s W => Hid (Below w.heap.size w W) ∧ ((i = .int .i64 0 ∧ s = .int .i64 0) ∨ (i = .int .i64 1 ∧ s = .int .i64 n1) ∨ (i = .int .i64 2 ∧ s = .int .i64 ((n1 : Int) + n2)))) (fun i _ _ => 2 - (intOf i).toNat)
  case atStart => exact ⟨Below.refl _ _, Or.inl ⟨rfl, rfl⟩⟩
  case round =>
    obtain ⟨hbel, hrel⟩ := hrel
    have c0 := cell_kept (unhide hbel) (unhide H0)
    have c1 := cell_kept (unhide hbel) (unhide H1)
    rcases hrel with ⟨rfl, rfl⟩ | ⟨rfl, rfl⟩ | ⟨rfl, rfl⟩
    · go_wp2_with fail
      go_roundw
      case rel => exact ⟨hbel, Or.inr (Or.inl ⟨by go_num, by go_num⟩)⟩
      case measure => simp [intOf]
    · go_wp2_with fail
      go_roundw
      case rel => exact ⟨hbel, Or.inr (Or.inr ⟨by go_num, by go_num⟩)⟩
      case measure => simp [intOf]
    · clear c0 c1
      go_wp2_with fail
      refine (grow_any (n1 + n2) w.heap.size _ (by omega) (unhide hbel).size).mono ?_
      rintro e w1 ⟨⟨v0, rfl, hrow0⟩, hw1⟩
      have B1 := hide (chain (unhide hbel) hw1)
      have R0 := hide hrow0
      clear hrow0 hw1 hbel
      go_wp2_with fail
      go_loopw [27, 6] (fun i o W => Hid (Below w.heap.size w W) ∧ ((i = .int .i64 0 ∧ Hid (W.ownsRow w.heap.size 25 4 o 0 [])) ∨ (i = .int .i64 1 ∧ ∃ news, Hid (Rowed w news la ∧ W.ownsRow w.heap.size 25 4 o n1 news)) ∨ (i = .int .i64 2 ∧ ∃ news, Hid (Rowed w news (la ++ lb) ∧ W.ownsRow w.heap.size 25 4 o (n1 + n2) news)))) (fun i _ _ => 2 - (intOf i).toNat)
      case atStart => exact ⟨B1, Or.inl ⟨rfl, R0⟩⟩
      case round =>
        obtain ⟨hbel, hrel⟩ := hrel
        have c0 := cell_kept (unhide hbel) (unhide H0)
        have c1 := cell_kept (unhide hbel) (unhide H1)
        rcases hrel with ⟨rfl, hr⟩ | ⟨rfl, news, hr⟩ | ⟨rfl, news, hr⟩
        · go_wp2_with (at_builtin; (refine wpList_append_reqs rfl _ _ rfl w.heap.size _ 0 [] rfl (unhide hr) _ la rfl w (unhide hbel) (unhide HA) (by have := unhide N1; omega) (unhide hbel).size ?_; intro v1 w2 news2 hr2 hown2 hg2; have B2 := hide (row_grow (unhide hbel) (unhide hr) hg2); rw [Nat.zero_add, List.nil_append, ← unhide N1] at hown2; have R2 := hide (And.intro hr2 hown2); clear hr2 hown2 hg2 c0 c1))
          go_roundw
          case rel => exact ⟨B2, Or.inr (Or.inl ⟨by go_num, news2, R2⟩)⟩
          case measure => simp [intOf]
        · go_wp2_with (at_builtin; (refine wpList_append_reqs rfl _ _ rfl w.heap.size _ n1 news rfl (unhide hr).2 _ lb rfl w (unhide hbel) (unhide HB) (by have := unhide N2; omega) (unhide hbel).size ?_; intro v1 w2 news2 hr2 hown2 hg2; have B2 := hide (row_grow (unhide hbel) (unhide hr).2 hg2); rw [← unhide N2] at hown2; have R2 := hide (And.intro ((unhide hr).1.append hr2) hown2); clear hr2 hown2 hg2 c0 c1))
          go_roundw
          case rel => exact ⟨B2, Or.inr (Or.inr ⟨by go_num, news ++ news2, R2⟩)⟩
          case measure => simp [intOf]
        · clear c0 c1
          go_wp2_with fail
          go_ret
          exact ⟨⟨_, rfl, row_reqs (unhide hr).2 ((unhide hr).1.below (unhide hbel)) (by rw [List.length_append, unhide N1, unhide N2]) (by rw [List.length_append, ← unhide N1, ← unhide N2]; omega)⟩, unhide hbel⟩

theorem meets_bad1 {a b : List VReq} (h : ¬ moreR 8 a = 0) : meetsR a b = (false, moreR 8 a) := by unfold meetsR; rw [if_neg h]
theorem meets_bad2 {a b : List VReq} (h : moreR 8 a = 0) (h2 : ¬ moreR 8 b = 0) : meetsR a b = (false, moreR 8 b) := by unfold meetsR; rw [if_pos h, if_neg h2]
theorem meets_ok {a b : List VReq} (h : moreR 8 a = 0) (h2 : moreR 8 b = 0) : meetsR a b = canR (a ++ b) := by unfold meetsR; rw [if_pos h, if_pos h2]
set_option maxRecDepth 100000 in
set_option maxHeartbeats 8000000 in
theorem pmeets_any (va vb : Value) (la lb : List VReq) (w : World) (hL : Laid w) (ha : Reqs w va la) (hb : Reqs w vb lb) :
    Calls Tryz.prog 20 #[va, vb] w fun e w' => e = .returned (.tuple #[.bool (meetsR la lb).1, .int .i64 (meetsR la lb).2]) ∧ Below w.heap.size w w' := by
  have HL := hide hL
  have HA := hide ha
  have HB := hide hb
  obtain ⟨a1, c1, rfl⟩ := ha.val
  obtain ⟨a2, c2, rfl⟩ := hb.val
  obtain ⟨n1, hn1⟩ : ∃ n, n = la.length := ⟨_, rfl⟩
  obtain ⟨n2, hn2⟩ : ∃ n, n = lb.length := ⟨_, rfl⟩
  rw [← hn1] at HA ⊢
  rw [← hn2] at HB ⊢
  clear hL ha hb hn1 hn2
  obtain ⟨R, hR⟩ : ∃ R, R = meetsR la lb := ⟨_, rfl⟩
  rw [← hR]
  have HR := hide hR
  clear hR
  go_enter Tryz.func20, Tryz.ntmps20
  go_wp2_with fail
  refine (rcheckL_any _ la _ (unhide HL) (unhide HA)).mono ?_
  rintro e w1 ⟨rfl, hw1⟩
  have B1 := hide hw1
  clear hw1
  by_cases hz1 : moreR 8 la = 0
  · have Z1 := hide hz1
    rw [hz1]
    clear hz1
    go_wp2_with fail
    refine (rcheckL_any _ lb _ ((unhide HL).below (unhide B1)) ((unhide HB).below (unhide B1))).mono ?_
    rintro e w2 ⟨rfl, hw2⟩
    have B2 := hide (chain (unhide B1) hw2)
    clear hw2 B1
    by_cases hz2 : moreR 8 lb = 0
    · have Z2 := hide hz2
      rw [hz2]
      clear hz2
      have hr : Hid (R = canR (la ++ lb)) := by show _ = _; rw [unhide HR]; exact meets_ok (unhide Z1) (unhide Z2)
      obtain ⟨q, z⟩ := R
      obtain ⟨W2, hW2⟩ : ∃ W, W = w2.alloc (.cells #[.slice a1 n1 c1, .slice a2 n2 c2] 22) := ⟨_, rfl⟩
      have B3 : Hid (Below w.heap.size w W2) := by rw [hW2]; exact chain (unhide B2) (box_below _)
      have F0 : Hid (W2.cell? ⟨w2.heap.size, 0, none⟩ = some (.slice a1 n1 c1)) := by rw [hW2]; show _ = _; simp [go_sem]
      have F1 : Hid (W2.cell? ⟨w2.heap.size, 1, none⟩ = some (.slice a2 n2 c2)) := by rw [hW2]; show _ = _; simp [go_sem]
      have GW := hide hW2
      clear hW2
      go_wp2_with fail
      rw [← unhide GW]
      refine (concat_any w2.heap.size _ _ la lb _ (unhide F0) (unhide F1) ((unhide HA).below (unhide B3)) ((unhide HB).below (unhide B3)) (more_ok.1 (unhide Z1)).1 (more_ok.1 (unhide Z2)).1).mono ?_
      rintro e w4 ⟨⟨v, rfl, hv⟩, hw4⟩
      have B4 := hide (chain (unhide B3) hw4)
      have HV := hide hv
      clear hv hw4
      go_wp2_with fail
      refine (pcan_any _ (la ++ lb) _ ((unhide HL).below (unhide B4)) (unhide HV)).mono ?_
      rintro e w5 ⟨he, hw5⟩
      rw [← unhide hr] at he
      subst he
      have B5 := hide (chain (unhide B4) hw5)
      clear hw5
      go_wp2_with fail
      go_ret2
      exact ⟨rfl, unhide B5⟩
    · have hr : Hid (R = (false, moreR 8 lb)) := by show _ = _; rw [unhide HR]; exact meets_bad2 (unhide Z1) hz2
      obtain ⟨z, hz⟩ : ∃ z, z = moreR 8 lb := ⟨_, rfl⟩
      rw [← hz] at hr hz2 ⊢
      have ht : (z != 0) = true := bne_iff_ne.2 hz2
      clear hz2 hz
      go_wp2_with fail
      go_ret2
      exact ⟨by rw [unhide hr]; rfl, unhide B2⟩
  · have hr : Hid (R = (false, moreR 8 la)) := by show _ = _; rw [unhide HR]; exact meets_bad1 hz1
    obtain ⟨z, hz⟩ : ∃ z, z = moreR 8 la := ⟨_, rfl⟩
    rw [← hz] at hr hz1 ⊢
    have ht : (z != 0) = true := bne_iff_ne.2 hz1
    clear hz1 hz
    go_wp2_with fail
    go_ret2
    exact ⟨by rw [unhide hr]; rfl, unhide B1⟩
end Go.Proofs.YtnkcbmlobikjkaaGreatDoor

/- Layer 4: plain facts on a key's set laid among others, as the document lays it. -/
namespace Go.Proofs.YtnkcbmlobikjkaaGreatDoor
open Go.RowKit Suf Val Go.Maps

/-- A key that is not there: at the first place whose key is not lower. -/
theorem putK_new {k : Txt} {s : VSet} : ∀ {st : List KS} {i : Nat}, (∀ x ∈ st.take i, lt x.1 k = true) → (∀ h : i < st.length, ¬ lt st[i].1 k = true) → (∀ x ∈ st, ¬ x.1 = k) → putK k s st = st.take i ++ (k, s) :: st.drop i
  | [], i, _, _, _ => by simp [putK]
  | y :: l, 0, _, h2, h3 => by
    have h : ¬ lt y.1 k = true := h2 (by simp)
    unfold putK
    rw [if_neg h, if_neg (h3 y (by simp))]; rfl
  | y :: l, i + 1, h1, h2, h3 => by
    unfold putK
    rw [if_pos (h1 y (by simp)), putK_new (st := l) (i := i) (fun x hx => h1 x (by rw [List.take_succ_cons]; exact List.mem_cons_of_mem _ hx)) (fun h => by have := h2 (by simpa using h); simpa using this) (fun x hx => h3 x (List.mem_cons_of_mem _ hx))]
    rfl
/-- A key that is there: its set alone is another. -/
theorem put_old {k : Txt} {s : VSet} : ∀ {st : List KS} {j : Nat} (_ : UpK st) (h : j < st.length), st[j].1 = k → putK k s st = st.set j (k, s)
  | [], j, _, h, _ => by simp at h
  | y :: l, 0, hu, _, e => by
    have e' : y.1 = k := e
    unfold putK
    rw [if_neg (fun h => lt_ne h e'), if_pos e']; rfl
  | y :: l, j + 1, hu, h, e => by
    unfold UpK at hu
    rw [List.map_cons] at hu
    obtain ⟨h1, h2⟩ := List.pairwise_cons.1 hu
    have hj : j < l.length := by simpa using h
    have e' : l[j].1 = k := e
    unfold putK
    rw [if_pos (by rw [← e']; exact h1 _ (List.mem_map.2 ⟨_, List.getElem_mem hj, rfl⟩)), put_old (st := l) (j := j) h2 hj e']
    rfl
theorem look_first {k : Txt} : ∀ {st : List KS} {j : Nat} (h : j < st.length), st[j].1 = k → (∀ x ∈ st.take j, ¬ x.1 = k) → Val.look k st = some st[j].2
  | [], j, h, _, _ => by simp at h
  | y :: l, 0, _, e, _ => by
    have e' : y.1 = k := e
    rw [look_cons, if_pos e']; rfl
  | y :: l, j + 1, h, e, hn => by
    have hj : j < l.length := by simpa using h
    have e' : l[j].1 = k := e
    rw [look_cons, if_neg (hn y (by simp)), look_first (st := l) (j := j) hj e' (fun x hx => hn x (by rw [List.take_succ_cons]; exact List.mem_cons_of_mem _ hx))]
    rfl
end Go.Proofs.YtnkcbmlobikjkaaGreatDoor

/- Layer 4: the document's Can and Meets, out of what its Sets answers. -/
namespace Go.Proofs.YtnkcbmlobikjkaaGreatDoor
open Go.RowKit Suf Val Go.Maps

/-- What the document's Sets answers. -/
def rsetsPost (l : List VReq) (w : World) (e : Ending) (w' : World) : Prop :=
  (¬ (setsR l).2 = 0 ∧ e = .returned (.tuple #[.slice none 0 0, .int .i64 (setsR l).2]) ∧ Below w.heap.size w w') ∨
  ((setsR l).2 = 0 ∧ ∃ v' st, e = .returned (.tuple #[v', .int .i64 0]) ∧ st.map (·.2) = (setsR l).1 ∧ OwnK 45 w' w.heap.size v' st ∧ Below w.heap.size w w')
def RSets : Prop := ∀ (v : Value) (l : List VReq) (w : World), Laid w → Reqs w v l → Calls Tryz.prog 15 #[v] w (rsetsPost l w)

set_option maxRecDepth 100000 in
set_option maxHeartbeats 8000000 in
theorem rcan_of (hS : RSets) (v : Value) (l : List VReq) (w : World) (hL : Laid w) (hv : Reqs w v l) :
    Calls Tryz.prog 19 #[v] w fun e w' => e = .returned (.tuple #[.bool (canR l).1, .int .i64 (canR l).2]) ∧ Below w.heap.size w w' := by
  have HS := hide hS
  have HL := hide hL
  have HV := hide hv
  obtain ⟨a, c, rfl⟩ := hv.val
  clear hL hv hS
  obtain ⟨n, hn⟩ : ∃ n, n = l.length := ⟨_, rfl⟩
  rw [← hn] at HV ⊢
  clear hn
  obtain ⟨R, hR⟩ : ∃ R, R = canR l := ⟨_, rfl⟩
  rw [← hR]
  have HR := hide hR
  clear hR
  go_enter Tryz.func19, Tryz.ntmps19
  go_wp2_with fail
  refine (unhide HS _ l _ (unhide HL) (unhide HV)).mono ?_
  rintro e w1 (⟨h0, rfl, hw1⟩ | ⟨h0, v', st, rfl, hst, hown, hw1⟩)
  · have hr : Hid (R = (false, (setsR l).2)) := by show _ = _; rw [unhide HR]; exact can_bad h0
    have B1 := hide hw1
    obtain ⟨z, hz⟩ : ∃ z, z = (setsR l).2 := ⟨_, rfl⟩
    rw [← hz] at hr h0 ⊢
    have ht : (z != 0) = true := bne_iff_ne.2 h0
    clear hw1 h0 hz
    go_wp2_with fail
    go_ret2
    exact ⟨by rw [unhide hr]; rfl, unhide B1⟩
  have hr : Hid (R = (!st.any (fun x => emptyV x.2.2), 0)) := by
    show _ = _
    rw [unhide HR, can_is h0, ← hst, List.any_map]; rfl
  have B1 := hide hw1
  have HO := hide hown
  have h16 : st.length ≤ 16 := by
    have := congrArg List.length hst
    have h3 := sets_len (l := l)
    simp at this
    omega
  obtain ⟨xa, xc, hxe⟩ := hown.val
  obtain ⟨xn, hxn⟩ : ∃ x, x = st.length := ⟨_, rfl⟩
  rw [← hxn] at hxe h16
  have HN := hide hxn
  clear h0 hst hown hw1 hxn HR
  subst hxe
  go_wp2_with fail
  go_loopw [6] (fun i W => ∃ k : Nat, k ≤ xn ∧ i = .int .i64 k ∧ Hid ((st.take k).any (fun x => emptyV x.2.2) = false) ∧ Hid (Below w1.heap.size w1 W)) (fun i _ => xn - (intOf i).toNat)
  case atStart => exact ⟨0, Nat.zero_le _, rfl, rfl, Below.refl _ _⟩
  case round =>
    obtain ⟨k, hk, rfl, hany, hbel⟩ := hrel
    by_cases hlt : k < xn
    · have hxk : k < st.length := by rw [← unhide HN]; exact hlt
      obtain ⟨g, rfl, hsev⟩ := ((unhide HO).below (unhide hbel)).at hxk
      have hel := (((unhide HO).below (unhide hbel)).2.1 _ (List.getElem_mem hxk)).1.strs
      have hnx := hide (any_nextG (p := fun x : VKS => emptyV x.2.2) st k hxk)
      have hys := hide (any_yesG (p := fun x : VKS => emptyV x.2.2) st k hxk)
      obtain ⟨y, hy⟩ : ∃ y, y = st[k] := ⟨_, rfl⟩
      rw [← hy] at hsev hel hnx hys
      obtain ⟨q, hq⟩ : ∃ q, q = emptyV y.2.2 := ⟨_, rfl⟩
      rw [← hq] at hnx hys
      obtain ⟨u, key, ⟨miss, no, num, vals, lo, hi⟩⟩ := y
      have hem : Hid (emptyB ⟨miss, no, num, vals, lo, hi⟩ = q) := hq.symm
      have HE := hide hel
      obtain ⟨ua, uc, hue⟩ := hel.val
      obtain ⟨un, hun⟩ : ∃ x, x = vals.length := ⟨_, rfl⟩
      simp only at hue hsev
      rw [← hun] at hue
      clear hun hy hxk hel hq
      subst hue
      obtain ⟨s0, s1, s2, s3, s4, s5, s6⟩ := hsev
      simp only at s0 s1 s2 s3 s4 s5 s6
      go_wp2_with fail
      clear s0 s1 s2 s3 s4 s5 s6
      refine (rempty_any miss no num _ vals lo hi _ (unhide HE)).mono ?_
      rintro e w2 ⟨he, hw2⟩
      rw [unhide hem] at he
      subst he
      have B2 := hide (chain (unhide hbel) hw2)
      clear hw2
      cases q
      · have hn2 : Hid ((st.take (k + 1)).any (fun x => emptyV x.2.2) = false) := by show _ = _; rw [unhide hnx, unhide hany]; rfl
        go_wp2_with fail
        go_roundw
        case rel => exact ⟨k + 1, by omega, by go_num, hn2, B2⟩
        case measure => simp [intOf]; omega
      · have hfin : Hid (R = (false, 0)) := by show _ = _; rw [unhide hr, unhide hys rfl]; rfl
        go_wp2_with fail
        go_ret2
        exact ⟨by rw [unhide hfin]; rfl, chain (unhide B1) (unhide B2)⟩
    · obtain rfl : k = xn := by omega
      have hfin : Hid (R = (true, 0)) := by
        show _ = _
        have := unhide hany
        rw [List.take_of_length_le (by rw [← unhide HN]; exact Nat.le_refl _)] at this
        rw [unhide hr, this]; rfl
      go_wp2_with fail
      go_ret2
      exact ⟨by rw [unhide hfin]; rfl, chain (unhide B1) (unhide hbel)⟩
set_option maxRecDepth 100000 in
set_option maxHeartbeats 8000000 in
theorem rmeets_of (hS : RSets) (va vb : Value) (la lb : List VReq) (w : World) (hL : Laid w) (ha : Reqs w va la) (hb : Reqs w vb lb) :
    Calls Tryz.prog 21 #[va, vb] w fun e w' => e = .returned (.tuple #[.bool (meetsR la lb).1, .int .i64 (meetsR la lb).2]) ∧ Below w.heap.size w w' := by
  have HL := hide hL
  have HS := hide hS
  have HA := hide ha
  have HB := hide hb
  obtain ⟨a1, c1, rfl⟩ := ha.val
  obtain ⟨a2, c2, rfl⟩ := hb.val
  obtain ⟨n1, hn1⟩ : ∃ n, n = la.length := ⟨_, rfl⟩
  obtain ⟨n2, hn2⟩ : ∃ n, n = lb.length := ⟨_, rfl⟩
  rw [← hn1] at HA ⊢
  rw [← hn2] at HB ⊢
  have N1 := hide hn1
  have N2 := hide hn2
  clear hS hL ha hb hn1 hn2
  obtain ⟨R, hR⟩ : ∃ R, R = meetsR la lb := ⟨_, rfl⟩
  rw [← hR]
  have HR := hide hR
  clear hR
  go_enter Tryz.func21, Tryz.ntmps21
  go_wp2_with fail
  refine (rcheck4_any _ la _ (unhide HA)).mono ?_
  rintro e w1 ⟨rfl, hw1⟩
  have B1 := hide hw1
  clear hw1
  by_cases hz1 : moreR 8 la = 0
  · have Z1 := hide hz1
    rw [hz1]
    clear hz1
    go_wp2_with fail
    refine (rcheck4_any _ lb _ ((unhide HB).below (unhide B1))).mono ?_
    rintro e w2 ⟨rfl, hw2⟩
    have B2 := hide (chain (unhide B1) hw2)
    clear hw2 B1
    by_cases hz2 : moreR 8 lb = 0
    · have Z2 := hide hz2
      rw [hz2]
      clear hz2
      have hr : Hid (R = canR (la ++ lb)) := by show _ = _; rw [unhide HR]; exact meets_ok (unhide Z1) (unhide Z2)
      obtain ⟨q, z⟩ := R
      have k1 : Hid (n1 ≤ 8) := by show _ ≤ _; rw [unhide N1]; exact (more_ok.1 (unhide Z1)).1
      have k2 : Hid (n2 ≤ 8) := by show _ ≤ _; rw [unhide N2]; exact (more_ok.1 (unhide Z2)).1
      go_wp2_with (first | (at_builtin; (refine wpList_append_reqs rfl _ _ rfl w.heap.size (.slice none 0 0) 0 [] rfl ⟨rfl, Or.inl ⟨rfl, rfl⟩⟩ _ la rfl w (unhide B2) (unhide HA) (by have := unhide N1; have := unhide k1; omega) (unhide B2).size ?_; intro v1 w3 news1 hr1 hown1 hg1; have B3 := hide (row_grow (T := 25) (sz := 4) (n := 0) (xs := []) (unhide B2) ⟨rfl, Or.inl ⟨rfl, rfl⟩⟩ hg1); rw [Nat.zero_add, List.nil_append, ← unhide N1] at hown1; have R1 := hide (And.intro hr1 hown1); clear hr1 hown1 hg1)) | (at_builtin; (refine wpList_append_reqs rfl _ _ rfl w.heap.size _ n1 news1 rfl (unhide R1).2 _ lb rfl w (unhide B3) (unhide HB) (by have := unhide N2; have := unhide k1; have := unhide k2; omega) (unhide B3).size ?_; intro v2 w4 news2 hr2 hown2 hg2; have B4 := hide (row_grow (unhide B3) (unhide R1).2 hg2); rw [← unhide N2] at hown2; have R2 := hide (And.intro ((unhide R1).1.append hr2) hown2); clear hr2 hown2 hg2)))
      have HV : Hid (Reqs w4 v2 (la ++ lb)) := row_reqs (unhide R2).2 ((unhide R2).1.below (unhide B4)) (by rw [List.length_append, unhide N1, unhide N2]) (by rw [List.length_append, ← unhide N1, ← unhide N2]; have := unhide k1; have := unhide k2; omega)
      refine (rcan_of (unhide HS) _ (la ++ lb) _ ((unhide HL).below (unhide B4)) (unhide HV)).mono ?_
      rintro e w5 ⟨he, hw5⟩
      rw [← unhide hr] at he
      subst he
      have B5 := hide (chain (unhide B4) hw5)
      clear hw5
      go_wp2_with fail
      go_ret2
      exact ⟨rfl, unhide B5⟩
    · have hr : Hid (R = (false, moreR 8 lb)) := by show _ = _; rw [unhide HR]; exact meets_bad2 (unhide Z1) hz2
      obtain ⟨z, hz⟩ : ∃ z, z = moreR 8 lb := ⟨_, rfl⟩
      rw [← hz] at hr hz2 ⊢
      have ht : (z != 0) = true := bne_iff_ne.2 hz2
      clear hz2 hz
      go_wp2_with fail
      go_ret2
      exact ⟨by rw [unhide hr]; rfl, unhide B2⟩
  · have hr : Hid (R = (false, moreR 8 la)) := by show _ = _; rw [unhide HR]; exact meets_bad1 hz1
    obtain ⟨z, hz⟩ : ∃ z, z = moreR 8 la := ⟨_, rfl⟩
    rw [← hz] at hr hz1 ⊢
    have ht : (z != 0) = true := bne_iff_ne.2 hz1
    clear hz1 hz
    go_wp2_with fail
    go_ret2
    exact ⟨by rw [unhide hr]; rfl, unhide B1⟩
end Go.Proofs.YtnkcbmlobikjkaaGreatDoor

/- Layer 4: the laws' req; what live asks, in plain mathematics. -/
namespace Go.Proofs.YtnkcbmlobikjkaaGreatDoor
open Go.RowKit Suf Val Go.Maps

theorem req_any (key : ByteArray) (op n : Int) (a : Option Addr) (m c : Nat) (w : World) :
    Calls Tryz.prog 9 #[.string key, .int .i64 op, .int .i64 n, .slice a m c] w fun e w' => e = .returned (.agg #[.string key, .int .i64 op, .slice a m c, .int .i64 n]) ∧ Below w.heap.size w w' := by
  go_enter Tryz.func9, Tryz.ntmps9
  go_wp2_with fail
  refine bodyPost_ret (v := .agg #[.string key, .int .i64 op, .slice a m c, .int .i64 n]) (by simp [results, Tryz.results9, go_sem]) rfl ?_
  exact ⟨rfl, box_below _⟩

def tZone : Txt := [122, 111, 110, 101]
def tGen : Txt := [103, 101, 110]
def liveL : List VReq := [⟨tZone, 1, [[97], [98], [99]], 0⟩, ⟨tZone, 2, [[98]], 0⟩, ⟨tGen, 5, [], 3⟩]
theorem live_sets0 : (setsR liveL).2 = 0 := by decide +kernel
theorem live_sets1 : (setsR liveL).1.map (fun x => (x.1, x.2.vals.length)) = [(tGen, 0), (tZone, 2)] := by decide +kernel
theorem live_adm1 : admitsR liveL [(tZone, [97]), (tGen, [53])] = (true, 0) := by decide +kernel
theorem live_adm2 : admitsR liveL [(tZone, [97])] = (false, 0) := by decide +kernel
theorem live_can : canR [⟨tZone, 1, [[97]], 0⟩, ⟨tZone, 1, [[98]], 0⟩] = (false, 0) := by decide +kernel
theorem live_meets : meetsR liveL [] = (true, 0) := by decide +kernel
end Go.Proofs.YtnkcbmlobikjkaaGreatDoor

/- Layer 4: live. -/
namespace Go.Proofs.YtnkcbmlobikjkaaGreatDoor
open Go.RowKit Suf Val Go.Maps

theorem sh_zone : short tZone := by unfold short; decide
theorem sh_gen : short tGen := by unfold short; decide
theorem sh_b : short [98] := by unfold short; decide
theorem sh_5 : short [53] := by unfold short; decide
theorem sh_a : short [97] := by unfold short; decide
theorem strs_three {w : World} (T : TypeId) : Strs (w.alloc (.cells #[.string ⟨#[97]⟩, .string ⟨#[98]⟩, .string ⟨#[99]⟩] T)) (.slice (some ⟨w.heap.size, 0, none⟩) 3 3) [[97], [98], [99]] := by
  refine ⟨_, _, rfl, fun j hj => ⟨w.heap.size, 0, rfl, ?_⟩, by decide, fun t ht => by simp at ht; rcases ht with rfl | rfl | rfl <;> (unfold short; decide)⟩
  match j, hj with
  | 0, _ => simp [go_sem]; rfl
  | 1, _ => simp [go_sem]; rfl
  | 2, _ => simp [go_sem]; rfl
theorem reqs_live {w : World} {a1 a2 : Option Addr} (h1 : Strs w (.slice a1 3 3) [[97], [98], [99]]) (h2 : Strs w (.slice a2 1 1) [[98]]) :
    Reqs (w.alloc (.cells #[.string ⟨#[122, 111, 110, 101]⟩, .int .i64 1, .slice a1 3 3, .int .i64 0, .string ⟨#[122, 111, 110, 101]⟩, .int .i64 2, .slice a2 1 1, .int .i64 0, .string ⟨#[103, 101, 110]⟩, .int .i64 5, .slice none 0 0, .int .i64 3] 25)) (.slice (some ⟨w.heap.size, 0, none⟩) 3 3) liveL := by
  have hb := fun o => box_below (w := w) o
  refine ⟨_, _, rfl, fun j hj => ?_, by decide⟩
  match j, hj with
  | 0, _ => exact ⟨w.heap.size, 0, _, rfl, by simp [go_sem]; rfl, by simp [go_sem]; rfl, by simp [go_sem], by simp [go_sem]; rfl, h1.below (hb _), sh_zone, fun a n c e => by injection e with e1 e2 e3; omega⟩
  | 1, _ => exact ⟨w.heap.size, 0, _, rfl, by simp [go_sem]; rfl, by simp [go_sem]; rfl, by simp [go_sem], by simp [go_sem]; rfl, h2.below (hb _), sh_zone, fun a n c e => by injection e with e1 e2 e3; omega⟩
  | 2, _ => exact ⟨w.heap.size, 0, _, rfl, by simp [go_sem]; rfl, by simp [go_sem]; rfl, by simp [go_sem], by simp [go_sem]; rfl, strs_zero _ none 0, sh_gen, capd_nil⟩

theorem live_two {st : List VKS} (hst : st.map (·.2) = (setsR liveL).1) : ∃ x0 x1, st = [x0, x1] ∧ x0.2.1 = tGen ∧ x1.2.1 = tZone ∧ x1.2.2.vals.length = 2 := by
  have h : st.map (fun x => (x.2.1, x.2.2.vals.length)) = [(tGen, 0), (tZone, 2)] := by rw [← live_sets1, ← hst, List.map_map]; rfl
  match st, h with
  | [], h => simp at h
  | [x0], h => simp at h
  | [x0, x1], h =>
    simp only [List.map_cons, List.map_nil, List.cons.injEq, Prod.mk.injEq, and_true] at h
    exact ⟨x0, x1, rfl, h.1.1, h.2.1, h.2.2⟩
  | x0 :: x1 :: x2 :: st, h => simp at h
theorem live_cells {w : World} {T : TypeId} {base : Nat} {v : Value} {st : List VKS} (ho : OwnK T w base v st) (hst : st.map (·.2) = (setsR liveL).1) :
    ∃ g xc ua uc, v = .slice (some ⟨g, 0, none⟩) 2 xc ∧ w.cell? ⟨g, 0, none⟩ = some (.string ⟨#[103, 101, 110]⟩) ∧ w.cell? ⟨g, 7, none⟩ = some (.string ⟨#[122, 111, 110, 101]⟩) ∧ w.cell? ⟨g, 11, none⟩ = some (.slice ua 2 uc) := by
  obtain ⟨x0, x1, rfl, e0, e1, e2⟩ := live_two hst
  obtain ⟨xa, xc, rfl⟩ := ho.val
  obtain ⟨g, rfl, s0, _⟩ := ho.at (j := 0) (by simp)
  obtain ⟨g', hg, t0, _, _, _, t4, _⟩ := ho.at (j := 1) (by simp)
  injection hg with hg
  injection hg with hg
  subst hg
  obtain ⟨ua, uc, hu⟩ := (ho.2.1 x1 (by simp)).1.strs.val
  simp only [List.getElem_cons_zero, List.getElem_cons_succ] at s0 t0 t4
  rw [e0] at s0
  rw [e1] at t0
  rw [hu, e2] at t4
  exact ⟨g, xc, ua, uc, rfl, s0, t0, t4⟩
theorem labs_two {w : World} : Labs (w.alloc (.cells #[.string ⟨#[122, 111, 110, 101]⟩, .string ⟨#[97]⟩, .string ⟨#[103, 101, 110]⟩, .string ⟨#[53]⟩] 34)) (.slice (some ⟨w.heap.size, 0, none⟩) 2 2) [(tZone, [97]), (tGen, [53])] := by
  refine ⟨_, _, rfl, fun j hj => ?_, by decide⟩
  match j, hj with
  | 0, _ => exact ⟨w.heap.size, 0, rfl, by simp [go_sem]; rfl, by simp [go_sem]; rfl, sh_zone, sh_a⟩
  | 1, _ => exact ⟨w.heap.size, 0, rfl, by simp [go_sem]; rfl, by simp [go_sem]; rfl, sh_gen, sh_5⟩
theorem labs_one {w : World} : Labs (w.alloc (.cells #[.string ⟨#[122, 111, 110, 101]⟩, .string ⟨#[97]⟩] 34)) (.slice (some ⟨w.heap.size, 0, none⟩) 1 1) [(tZone, [97])] := by
  refine ⟨_, _, rfl, fun j hj => ?_, by decide⟩
  match j, hj with
  | 0, _ => exact ⟨w.heap.size, 0, rfl, by simp [go_sem]; rfl, by simp [go_sem]; rfl, sh_zone, sh_a⟩
theorem reqs_can {w : World} {a1 a2 : Option Addr} (h1 : Strs w (.slice a1 1 1) [[97]]) (h2 : Strs w (.slice a2 1 1) [[98]]) :
    Reqs (w.alloc (.cells #[.string ⟨#[122, 111, 110, 101]⟩, .int .i64 1, .slice a1 1 1, .int .i64 0, .string ⟨#[122, 111, 110, 101]⟩, .int .i64 1, .slice a2 1 1, .int .i64 0] 25)) (.slice (some ⟨w.heap.size, 0, none⟩) 2 2) [⟨tZone, 1, [[97]], 0⟩, ⟨tZone, 1, [[98]], 0⟩] := by
  have hb := fun o => box_below (w := w) o
  refine ⟨_, _, rfl, fun j hj => ?_, by decide⟩
  match j, hj with
  | 0, _ => exact ⟨w.heap.size, 0, _, rfl, by simp [go_sem]; rfl, by simp [go_sem], by simp [go_sem], by simp [go_sem], h1.below (hb _), sh_zone, fun a n c e => by injection e with e1 e2 e3; omega⟩
  | 1, _ => exact ⟨w.heap.size, 0, _, rfl, by simp [go_sem]; rfl, by simp [go_sem], by simp [go_sem], by simp [go_sem], h2.below (hb _), sh_zone, fun a n c e => by injection e with e1 e2 e3; omega⟩

set_option maxRecDepth 100000 in
set_option maxHeartbeats 8000000 in
theorem live4_any (w : World) (hL : Laid w) :
    Calls Tryz.prog 12 #[] w fun e w' => e = .returned (.bool true) ∧ Below w.heap.size w w' := by
  have HL := hide hL
  clear hL
  obtain ⟨W0, hW0⟩ : ∃ W, W = w.alloc (.cells #[.string ⟨#[97]⟩, .string ⟨#[98]⟩, .string ⟨#[99]⟩] 9) := ⟨_, rfl⟩
  have B0 : Hid (Below w.heap.size w W0) := by rw [hW0]; exact box_below _
  have S0 : Hid (Strs W0 (.slice (some ⟨w.heap.size, 0, none⟩) 3 3) [[97], [98], [99]]) := by rw [hW0]; exact strs_three _
  have G0 := hide hW0
  clear hW0
  go_enter Tryz.func12, Tryz.ntmps12
  go_wp2_with fail
  rw [← unhide G0]
  refine (req_any _ _ _ _ _ _ _).mono ?_
  rintro e w1 ⟨rfl, hw1⟩
  obtain ⟨W1, hW1⟩ : ∃ W, W = w1.alloc (.cells #[.string ⟨#[98]⟩] 9) := ⟨_, rfl⟩
  have B1 : Hid (Below w.heap.size w W1) := by rw [hW1]; exact chain (chain (unhide B0) hw1) (box_below _)
  have S1 : Hid (Strs W1 (.slice (some ⟨w.heap.size, 0, none⟩) 3 3) [[97], [98], [99]]) := by rw [hW1]; exact ((unhide S0).below hw1).below (box_below _)
  have T1 : Hid (Strs W1 (.slice (some ⟨w1.heap.size, 0, none⟩) 1 1) [[98]]) := by rw [hW1]; exact strs_one _ sh_b
  have G1 := hide hW1
  clear hW1 hw1 S0 B0 G0
  go_wp2_with fail
  rw [← unhide G1]
  refine (req_any _ _ _ _ _ _ _).mono ?_
  rintro e w2 ⟨rfl, hw2⟩
  have B2 := hide (chain (unhide B1) hw2)
  have S2 := hide ((unhide S1).below hw2)
  have T2 := hide ((unhide T1).below hw2)
  clear hw2 S1 T1 B1 G1
  go_wp2_with fail
  refine (req_any _ _ _ _ _ _ _).mono ?_
  rintro e w3 ⟨rfl, hw3⟩
  have B3 := hide (chain (unhide B2) hw3)
  have S3 := hide ((unhide S2).below hw3)
  have T3 := hide ((unhide T2).below hw3)
  clear hw3 S2 T2 B2
  have Q3 := hide (reqs_live (unhide S3) (unhide T3))
  have B4 := hide (chain (unhide B3) (box_below (.cells #[.string ⟨#[122, 111, 110, 101]⟩, .int .i64 1, .slice (some ⟨w.heap.size, 0, none⟩) 3 3, .int .i64 0, .string ⟨#[122, 111, 110, 101]⟩, .int .i64 2, .slice (some ⟨w1.heap.size, 0, none⟩) 1 1, .int .i64 0, .string ⟨#[103, 101, 110]⟩, .int .i64 5, .slice none 0 0, .int .i64 3] 25)))
  clear S3 T3 B3
  go_wp2_with fail
  refine (psets_any _ liveL _ ((unhide HL).below (unhide B4)) (unhide Q3)).mono ?_
  rintro e w5 (⟨h0, rfl, hw5⟩ | ⟨h0, v', st, rfl, hst, hown, hw5⟩)
  · exact absurd live_sets0 h0
  clear h0
  have B5 := hide (chain (unhide B4) hw5)
  have Q5 := hide ((unhide Q3).below hw5)
  obtain ⟨g, xc, ua, uc, rfl, s0, s7, s11⟩ := live_cells hown hst
  clear hown hst hw5 B4 Q3
  have B6 := hide (chain (unhide B5) (box_below (.cells #[.string ⟨#[122, 111, 110, 101]⟩, .string ⟨#[97]⟩, .string ⟨#[103, 101, 110]⟩, .string ⟨#[53]⟩] 34)))
  have Q6 := hide ((unhide Q5).below (box_below (.cells #[.string ⟨#[122, 111, 110, 101]⟩, .string ⟨#[97]⟩, .string ⟨#[103, 101, 110]⟩, .string ⟨#[53]⟩] 34)))
  clear B5 Q5
  go_wp2_with fail
  clear s0 s7 s11
  refine (padmits_any _ liveL _ _ _ ((unhide HL).below (unhide B6)) (unhide Q6) labs_two).mono ?_
  rintro e w6 ⟨he, hw6⟩
  rw [live_adm1] at he
  subst he
  have B7 := hide (chain (chain (unhide B6) hw6) (box_below (.cells #[.string ⟨#[122, 111, 110, 101]⟩, .string ⟨#[97]⟩] 34)))
  have Q7 := hide (((unhide Q6).below hw6).below (box_below (.cells #[.string ⟨#[122, 111, 110, 101]⟩, .string ⟨#[97]⟩] 34)))
  clear B6 Q6 hw6
  go_wp2_with fail
  refine (padmits_any _ liveL _ _ _ ((unhide HL).below (unhide B7)) (unhide Q7) labs_one).mono ?_
  rintro e w7 ⟨he, hw7⟩
  rw [live_adm2] at he
  subst he
  obtain ⟨W8, hW8⟩ : ∃ W, W = w7.alloc (.cells #[.string ⟨#[97]⟩] 9) := ⟨_, rfl⟩
  have B8 : Hid (Below w.heap.size w W8) := by rw [hW8]; exact chain (chain (unhide B7) hw7) (box_below _)
  have Q8 : Hid (Reqs W8 (.slice (some ⟨w3.heap.size, 0, none⟩) 3 3) liveL) := by rw [hW8]; exact ((unhide Q7).below hw7).below (box_below _)
  have S8 : Hid (Strs W8 (.slice (some ⟨w7.heap.size, 0, none⟩) 1 1) [[97]]) := by rw [hW8]; exact strs_one _ sh_a
  have G8 := hide hW8
  clear hW8 hw7 B7 Q7
  go_wp2_with fail
  rw [← unhide G8]
  refine (req_any _ _ _ _ _ _ _).mono ?_
  rintro e w9 ⟨rfl, hw9⟩
  obtain ⟨W9, hW9⟩ : ∃ W, W = w9.alloc (.cells #[.string ⟨#[98]⟩] 9) := ⟨_, rfl⟩
  have B9 : Hid (Below w.heap.size w W9) := by rw [hW9]; exact chain (chain (unhide B8) hw9) (box_below _)
  have Q9 : Hid (Reqs W9 (.slice (some ⟨w3.heap.size, 0, none⟩) 3 3) liveL) := by rw [hW9]; exact ((unhide Q8).below hw9).below (box_below _)
  have S9 : Hid (Strs W9 (.slice (some ⟨w7.heap.size, 0, none⟩) 1 1) [[97]]) := by rw [hW9]; exact ((unhide S8).below hw9).below (box_below _)
  have T9 : Hid (Strs W9 (.slice (some ⟨w9.heap.size, 0, none⟩) 1 1) [[98]]) := by rw [hW9]; exact strs_one _ sh_b
  have G9 := hide hW9
  clear hW9 hw9 B8 Q8 S8 G8
  go_wp2_with fail
  rw [← unhide G9]
  refine (req_any _ _ _ _ _ _ _).mono ?_
  rintro e w10 ⟨rfl, hw10⟩
  have R10 := hide (reqs_can ((unhide S9).below hw10) ((unhide T9).below hw10))
  have B10 := hide (chain (chain (unhide B9) hw10) (box_below (.cells #[.string ⟨#[122, 111, 110, 101]⟩, .int .i64 1, .slice (some ⟨w7.heap.size, 0, none⟩) 1 1, .int .i64 0, .string ⟨#[122, 111, 110, 101]⟩, .int .i64 1, .slice (some ⟨w9.heap.size, 0, none⟩) 1 1, .int .i64 0] 25)))
  have Q10 := hide (((unhide Q9).below hw10).below (box_below (.cells #[.string ⟨#[122, 111, 110, 101]⟩, .int .i64 1, .slice (some ⟨w7.heap.size, 0, none⟩) 1 1, .int .i64 0, .string ⟨#[122, 111, 110, 101]⟩, .int .i64 1, .slice (some ⟨w9.heap.size, 0, none⟩) 1 1, .int .i64 0] 25)))
  clear hw10 B9 Q9 S9 T9 G9
  go_wp2_with fail
  refine (pcan_any _ _ _ ((unhide HL).below (unhide B10)) (unhide R10)).mono ?_
  rintro e w11 ⟨he, hw11⟩
  rw [live_can] at he
  subst he
  have B11 := hide (chain (unhide B10) hw11)
  have Q11 := hide ((unhide Q10).below hw11)
  clear hw11 B10 Q10 R10
  go_wp2_with fail
  refine (pmeets_any _ _ liveL [] _ ((unhide HL).below (unhide B11)) (unhide Q11) ⟨none, 0, rfl, fun j hj => absurd hj (Nat.not_lt_zero _), by decide⟩).mono ?_
  rintro e w12 ⟨he, hw12⟩
  rw [live_meets] at he
  subst he
  have B12 := hide (chain (unhide B11) hw12)
  clear hw12 B11 Q11
  go_wp2_with fail
  go_ret
  exact ⟨rfl, unhide B12⟩
end Go.Proofs.YtnkcbmlobikjkaaGreatDoor
