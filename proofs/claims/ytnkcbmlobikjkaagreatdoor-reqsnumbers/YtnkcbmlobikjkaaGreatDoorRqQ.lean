/- Layer 4: the document's Can and Meets, out of what its Sets answers. -/
import Derived.Test.YtnkcbmlobikjkaaGreatDoorRqP
import Derived.Test.YtnkcbmlobikjkaaGreatDoorV3Y
namespace Go.Proofs.YtnkcbmlobikjkaaGreatDoor
open Go.RowKit Suf Val Go.Maps

/-- What the document's Sets answers. -/
def rsetsPost (l : List VReq) (w : World) (e : Ending) (w' : World) : Prop :=
  (¬ (setsR l).2 = 0 ∧ e = .returned (.tuple #[.slice none 0 0, .int .i64 (setsR l).2]) ∧ Below w.heap.size w w') ∨
  ((setsR l).2 = 0 ∧ ∃ v' st, e = .returned (.tuple #[v', .int .i64 0]) ∧ st.map (·.2) = (setsR l).1 ∧ OwnK 45 w' w.heap.size v' st ∧ Below w.heap.size w w')
def RSets : Prop := ∀ (v : Value) (l : List VReq) (w : World), Laid w → Reqs w v l → Calls Tryz.prog 15 #[v] w (rsetsPost l w)

set_option maxRecDepth 100000 in
set_option maxHeartbeats 8000000 in
theorem rcan_of (hS : RSets) (v : Value) (l : List VReq) (w : World) (hL : Laid w) (hv : Reqs w v l) :
    Calls Tryz.prog 19 #[v] w fun e w' => e = .returned (.tuple #[.bool (canR l).1, .int .i64 (canR l).2]) ∧ Below w.heap.size w w' := by
  have HS := hide hS
  have HL := hide hL
  have HV := hide hv
  obtain ⟨a, c, rfl⟩ := hv.val
  clear hL hv hS
  obtain ⟨n, hn⟩ : ∃ n, n = l.length := ⟨_, rfl⟩
  rw [← hn] at HV ⊢
  clear hn
  obtain ⟨R, hR⟩ : ∃ R, R = canR l := ⟨_, rfl⟩
  rw [← hR]
  have HR := hide hR
  clear hR
  go_enter Tryz.func19, Tryz.ntmps19
  go_wp2_with fail
  refine (unhide HS _ l _ (unhide HL) (unhide HV)).mono ?_
  rintro e w1 (⟨h0, rfl, hw1⟩ | ⟨h0, v', st, rfl, hst, hown, hw1⟩)
  · have hr : Hid (R = (false, (setsR l).2)) := by show _ = _; rw [unhide HR]; exact can_bad h0
    have B1 := hide hw1
    obtain ⟨z, hz⟩ : ∃ z, z = (setsR l).2 := ⟨_, rfl⟩
    rw [← hz] at hr h0 ⊢
    have ht : (z != 0) = true := bne_iff_ne.2 h0
    clear hw1 h0 hz
    go_wp2_with fail
    go_ret2
    exact ⟨by rw [unhide hr]; rfl, unhide B1⟩
  have hr : Hid (R = (!st.any (fun x => emptyV x.2.2), 0)) := by
    show _ = _
    rw [unhide HR, can_is h0, ← hst, List.any_map]; rfl
  have B1 := hide hw1
  have HO := hide hown
  have h16 : st.length ≤ 16 := by
    have := congrArg List.length hst
    have h3 := sets_len (l := l)
    simp at this
    omega
  obtain ⟨xa, xc, hxe⟩ := hown.val
  obtain ⟨xn, hxn⟩ : ∃ x, x = st.length := ⟨_, rfl⟩
  rw [← hxn] at hxe h16
  have HN := hide hxn
  clear h0 hst hown hw1 hxn HR
  subst hxe
  go_wp2_with fail
  go_loopw [6] (fun i W => ∃ k : Nat, k ≤ xn ∧ i = .int .i64 k ∧ Hid ((st.take k).any (fun x => emptyV x.2.2) = false) ∧ Hid (Below w1.heap.size w1 W)) (fun i _ => xn - (intOf i).toNat)
  case atStart => exact ⟨0, Nat.zero_le _, rfl, rfl, Below.refl _ _⟩
  case round =>
    obtain ⟨k, hk, rfl, hany, hbel⟩ := hrel
    by_cases hlt : k < xn
    · have hxk : k < st.length := by rw [← unhide HN]; exact hlt
      obtain ⟨g, rfl, hsev⟩ := ((unhide HO).below (unhide hbel)).at hxk
      have hel := (((unhide HO).below (unhide hbel)).2.1 _ (List.getElem_mem hxk)).1.strs
      have hnx := hide (any_nextG (p := fun x : VKS => emptyV x.2.2) st k hxk)
      have hys := hide (any_yesG (p := fun x : VKS => emptyV x.2.2) st k hxk)
      obtain ⟨y, hy⟩ : ∃ y, y = st[k] := ⟨_, rfl⟩
      rw [← hy] at hsev hel hnx hys
      obtain ⟨q, hq⟩ : ∃ q, q = emptyV y.2.2 := ⟨_, rfl⟩
      rw [← hq] at hnx hys
      obtain ⟨u, key, ⟨miss, no, num, vals, lo, hi⟩⟩ := y
      have hem : Hid (emptyB ⟨miss, no, num, vals, lo, hi⟩ = q) := hq.symm
      have HE := hide hel
      obtain ⟨ua, uc, hue⟩ := hel.val
      obtain ⟨un, hun⟩ : ∃ x, x = vals.length := ⟨_, rfl⟩
      simp only at hue hsev
      rw [← hun] at hue
      clear hun hy hxk hel hq
      subst hue
      obtain ⟨s0, s1, s2, s3, s4, s5, s6⟩ := hsev
      simp only at s0 s1 s2 s3 s4 s5 s6
      go_wp2_with fail
      clear s0 s1 s2 s3 s4 s5 s6
      refine (rempty_any miss no num _ vals lo hi _ (unhide HE)).mono ?_
      rintro e w2 ⟨he, hw2⟩
      rw [unhide hem] at he
      subst he
      have B2 := hide (chain (unhide hbel) hw2)
      clear hw2
      cases q
      · have hn2 : Hid ((st.take (k + 1)).any (fun x => emptyV x.2.2) = false) := by show _ = _; rw [unhide hnx, unhide hany]; rfl
        go_wp2_with fail
        go_roundw
        case rel => exact ⟨k + 1, by omega, by go_num, hn2, B2⟩
        case measure => simp [intOf]; omega
      · have hfin : Hid (R = (false, 0)) := by show _ = _; rw [unhide hr, unhide hys rfl]; rfl
        go_wp2_with fail
        go_ret2
        exact ⟨by rw [unhide hfin]; rfl, chain (unhide B1) (unhide B2)⟩
    · obtain rfl : k = xn := by omega
      have hfin : Hid (R = (true, 0)) := by
        show _ = _
        have := unhide hany
        rw [List.take_of_length_le (by rw [← unhide HN]; exact Nat.le_refl _)] at this
        rw [unhide hr, this]; rfl
      go_wp2_with fail
      go_ret2
      exact ⟨by rw [unhide hfin]; rfl, chain (unhide B1) (unhide hbel)⟩
set_option maxRecDepth 100000 in
set_option maxHeartbeats 8000000 in
theorem rmeets_of (hS : RSets) (va vb : Value) (la lb : List VReq) (w : World) (hL : Laid w) (ha : Reqs w va la) (hb : Reqs w vb lb) :
    Calls Tryz.prog 21 #[va, vb] w fun e w' => e = .returned (.tuple #[.bool (meetsR la lb).1, .int .i64 (meetsR la lb).2]) ∧ Below w.heap.size w w' := by
  have HL := hide hL
  have HS := hide hS
  have HA := hide ha
  have HB := hide hb
  obtain ⟨a1, c1, rfl⟩ := ha.val
  obtain ⟨a2, c2, rfl⟩ := hb.val
  obtain ⟨n1, hn1⟩ : ∃ n, n = la.length := ⟨_, rfl⟩
  obtain ⟨n2, hn2⟩ : ∃ n, n = lb.length := ⟨_, rfl⟩
  rw [← hn1] at HA ⊢
  rw [← hn2] at HB ⊢
  have N1 := hide hn1
  have N2 := hide hn2
  clear hS hL ha hb hn1 hn2
  obtain ⟨R, hR⟩ : ∃ R, R = meetsR la lb := ⟨_, rfl⟩
  rw [← hR]
  have HR := hide hR
  clear hR
  go_enter Tryz.func21, Tryz.ntmps21
  go_wp2_with fail
  refine (rcheck4_any _ la _ (unhide HA)).mono ?_
  rintro e w1 ⟨rfl, hw1⟩
  have B1 := hide hw1
  clear hw1
  by_cases hz1 : moreR 8 la = 0
  · have Z1 := hide hz1
    rw [hz1]
    clear hz1
    go_wp2_with fail
    refine (rcheck4_any _ lb _ ((unhide HB).below (unhide B1))).mono ?_
    rintro e w2 ⟨rfl, hw2⟩
    have B2 := hide (chain (unhide B1) hw2)
    clear hw2 B1
    by_cases hz2 : moreR 8 lb = 0
    · have Z2 := hide hz2
      rw [hz2]
      clear hz2
      have hr : Hid (R = canR (la ++ lb)) := by show _ = _; rw [unhide HR]; exact meets_ok (unhide Z1) (unhide Z2)
      obtain ⟨q, z⟩ := R
      have k1 : Hid (n1 ≤ 8) := by show _ ≤ _; rw [unhide N1]; exact (more_ok.1 (unhide Z1)).1
      have k2 : Hid (n2 ≤ 8) := by show _ ≤ _; rw [unhide N2]; exact (more_ok.1 (unhide Z2)).1
      go_wp2_with (first | (at_builtin; (refine wpList_append_reqs rfl _ _ rfl w.heap.size (.slice none 0 0) 0 [] rfl ⟨rfl, Or.inl ⟨rfl, rfl⟩⟩ _ la rfl w (unhide B2) (unhide HA) (by have := unhide N1; have := unhide k1; omega) (unhide B2).size ?_; intro v1 w3 news1 hr1 hown1 hg1; have B3 := hide (row_grow (T := 25) (sz := 4) (n := 0) (xs := []) (unhide B2) ⟨rfl, Or.inl ⟨rfl, rfl⟩⟩ hg1); rw [Nat.zero_add, List.nil_append, ← unhide N1] at hown1; have R1 := hide (And.intro hr1 hown1); clear hr1 hown1 hg1)) | (at_builtin; (refine wpList_append_reqs rfl _ _ rfl w.heap.size _ n1 news1 rfl (unhide R1).2 _ lb rfl w (unhide B3) (unhide HB) (by have := unhide N2; have := unhide k1; have := unhide k2; omega) (unhide B3).size ?_; intro v2 w4 news2 hr2 hown2 hg2; have B4 := hide (row_grow (unhide B3) (unhide R1).2 hg2); rw [← unhide N2] at hown2; have R2 := hide (And.intro ((unhide R1).1.append hr2) hown2); clear hr2 hown2 hg2)))
      have HV : Hid (Reqs w4 v2 (la ++ lb)) := row_reqs (unhide R2).2 ((unhide R2).1.below (unhide B4)) (by rw [List.length_append, unhide N1, unhide N2]) (by rw [List.length_append, ← unhide N1, ← unhide N2]; have := unhide k1; have := unhide k2; omega)
      refine (rcan_of (unhide HS) _ (la ++ lb) _ ((unhide HL).below (unhide B4)) (unhide HV)).mono ?_
      rintro e w5 ⟨he, hw5⟩
      rw [← unhide hr] at he
      subst he
      have B5 := hide (chain (unhide B4) hw5)
      clear hw5
      go_wp2_with fail
      go_ret2
      exact ⟨rfl, unhide B5⟩
    · have hr : Hid (R = (false, moreR 8 lb)) := by show _ = _; rw [unhide HR]; exact meets_bad2 (unhide Z1) hz2
      obtain ⟨z, hz⟩ : ∃ z, z = moreR 8 lb := ⟨_, rfl⟩
      rw [← hz] at hr hz2 ⊢
      have ht : (z != 0) = true := bne_iff_ne.2 hz2
      clear hz2 hz
      go_wp2_with fail
      go_ret2
      exact ⟨by rw [unhide hr]; rfl, unhide B2⟩
  · have hr : Hid (R = (false, moreR 8 la)) := by show _ = _; rw [unhide HR]; exact meets_bad1 hz1
    obtain ⟨z, hz⟩ : ∃ z, z = moreR 8 la := ⟨_, rfl⟩
    rw [← hz] at hr hz1 ⊢
    have ht : (z != 0) = true := bne_iff_ne.2 hz1
    clear hz1 hz
    go_wp2_with fail
    go_ret2
    exact ⟨by rw [unhide hr]; rfl, unhide B1⟩
end Go.Proofs.YtnkcbmlobikjkaaGreatDoor
