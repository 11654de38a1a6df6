/- Layer 4: contracts of Sets, Can. -/
import Derived.Test.YtnkcbmlobikjkaaGreatDoorRqHG
import Derived.Test.YtnkcbmlobikjkaaGreatDoorV3EG
import Derived.Test.YtnkcbmlobikjkaaGreatDoorContL
namespace Go.Proofs.YtnkcbmlobikjkaaGreatDoor
open Go.RowKit Suf Val Go.Maps

def setsPost (l : List VReq) (w : World) (e : Ending) (w' : World) : Prop :=
  (¬ (setsR l).2 = 0 ∧ e = .returned (.tuple #[.slice none 0 0, .int .i64 (setsR l).2]) ∧ Below w.heap.size w w') ∨
  ((setsR l).2 = 0 ∧ ∃ v' st, e = .returned (.tuple #[v', .int .i64 0]) ∧ st.map (·.2) = (setsR l).1 ∧ OwnK 44 w' w.heap.size v' st ∧ Below w.heap.size w w')
theorem sets_of {l : List VReq} (h : moreR 16 l = 0) : setsR l = setsF [] (l.map keyS) := by unfold setsR; rw [if_pos h]
theorem sets_more {l : List VReq} (h : ¬ moreR 16 l = 0) : setsR l = ([], moreR 16 l) := by unfold setsR; rw [if_neg h]
theorem sets_len {l : List VReq} : (setsR l).1.length ≤ 16 := by
  by_cases h : moreR 16 l = 0
  · rw [sets_of h]
    have h1 := len_setsF (l.map keyS) []
    have h2 := (more_ok.1 h).1
    simp at h1
    omega
  · rw [sets_more h]; simp

set_option maxRecDepth 100000 in
set_option maxHeartbeats 8000000 in
theorem psets_any (v : Value) (l : List VReq) (w : World) (hL : Laid w) (hv : Reqs w v l) :
    Calls Tryz.prog 10 #[v] w fun e w' => setsPost l w e w' := by
  have HL := hide hL
  have HV := hide hv
  obtain ⟨a, c, rfl⟩ := hv.val
  clear hL hv
  obtain ⟨n, hn⟩ : ∃ n, n = l.length := ⟨_, rfl⟩
  rw [← hn] at HV ⊢
  have HN := hide hn
  clear hn
  obtain ⟨R, hR⟩ : ∃ R, R = setsPost l w := ⟨_, rfl⟩
  show Calls _ _ _ _ (fun e w' => setsPost l w e w')
  rw [← hR]
  have HR := hide hR
  clear hR
  go_enter Tryz.func10, Tryz.ntmps10
  go_wp2_with fail
  refine (each_any _ l 16 _ (unhide HL) (unhide HV) (by decide)).mono ?_
  rintro e w1 (⟨h0, rfl, hw1⟩ | ⟨h0, v', xs, rfl, hxs, hown, hw1⟩)
  · have hr : Hid (setsR l = ([], moreR 16 l)) := sets_more h0
    have H0 := hide h0
    have B1 := hide hw1
    obtain ⟨z, hz⟩ : ∃ z, z = moreR 16 l := ⟨_, rfl⟩
    rw [← hz] at hr h0 H0 ⊢
    have ht : (z != 0) = true := bne_iff_ne.2 h0
    clear hw1 h0 hz
    go_wp2_with fail
    show R (.returned (.tuple #[.slice none 0 0, .int .i64 z])) _
    rw [unhide HR]
    exact Or.inl ⟨by rw [unhide hr]; exact unhide H0, by rw [unhide hr], unhide B1⟩
  have hse : Hid (setsF [] (xs.map (·.2)) = setsR l) := by show _ = _; rw [hxs, sets_of h0]
  have hxl : xs.length ≤ 16 := by
    have := congrArg List.length hxs
    have h2 := (more_ok.1 h0).1
    simp at this
    omega
  have H0 := hide h0
  have O1 := hide hown
  have B1 := hide hw1
  obtain ⟨xa, xc, hxe⟩ := hown.val
  obtain ⟨xn, hxn⟩ : ∃ x, x = xs.length := ⟨_, rfl⟩
  rw [← hxn] at hxe
  have HX := hide hxl
  clear h0 hxs hown hw1 hxn hxl
  subst hxe
  go_wp2_with fail
  refine (met_any _ xs _ _ ((unhide HL).below (unhide B1)) (unhide O1) (unhide HX) (unhide B1).size).mono ?_
  rintro e w2 (⟨h2, rfl, hw2⟩ | ⟨h2, b, kk, st, rfl, hst, hom, hkk, hbb, hw2⟩)
  · rw [unhide hse] at h2 ⊢
    have B2 := hide (chain (unhide B1) hw2)
    have H2 := hide h2
    obtain ⟨z, hz⟩ : ∃ z, z = (setsR l).2 := ⟨_, rfl⟩
    rw [← hz] at h2 ⊢
    have ht : (z != 0) = true := bne_iff_ne.2 h2
    have GZ := hide hz
    clear hw2 h2 hz
    go_wp2_with fail
    show R (.returned (.tuple #[.slice none 0 0, .int .i64 z])) _
    rw [unhide HR]
    exact Or.inl ⟨unhide H2, by rw [unhide GZ], unhide B2⟩
  rw [unhide hse] at h2 hst
  have H2 := hide h2
  have HST := hide hst
  have OM2 := hide hom
  have B2 := hide (chain (unhide B1) hw2)
  have hup : Hid (UpK (st.map (·.2))) := by
    show UpK _
    rw [hst]; exact (sets_good (unhide H0) h2).up
  have hsl : Hid (st.length ≤ 16) := by
    have := congrArg List.length hst
    have h3 := sets_len (l := l)
    show _ ≤ _
    simp at this
    omega
  clear h2 hst hom hkk hbb hw2
  go_wp2_with fail
  refine (risingK_any b _ kk st _ (unhide OM2) (unhide hup) (unhide hsl) (unhide B2).size).mono ?_
  rintro e w3 ⟨v3, rfl, ho3, hw3⟩
  have B3 := hide (chain (unhide B2) hw3)
  have O3 := hide ho3
  obtain ⟨ya, yc, hye⟩ := ho3.val
  clear hw3 ho3
  obtain ⟨yn, hyn⟩ : ∃ x, x = st.length := ⟨_, rfl⟩
  rw [← hyn] at hye
  clear hyn
  subst hye
  go_wp2_with fail
  show R (.returned (.tuple #[.slice ya yn yc, .int .i64 0])) _
  rw [unhide HR]
  exact Or.inr ⟨unhide H2, _, st, rfl, unhide HST, unhide O3, unhide B3⟩

/-- The closure of Can, at a keyed set that lies in memory. -/
theorem can_closure (x : VKS) (W : World) (hL : Laid W) (hs : Strs W x.1 x.2.2.vals) : Calls Tryz.prog 38 #[.agg (encK x).toArray] W fun e w' => e = .returned (.bool (emptyV x.2.2)) ∧ Below W.heap.size W w' := by
  obtain ⟨u, key, ⟨miss, no, num, vals, lo, hi⟩⟩ := x
  simp only at hs
  have HL := hide hL
  have HS := hide hs
  obtain ⟨a, c, rfl⟩ := hs.val
  obtain ⟨n, hn⟩ : ∃ n, n = vals.length := ⟨_, rfl⟩
  rw [← hn] at HS ⊢
  clear hL hs hn
  show Calls Tryz.prog 38 #[.agg #[.string (bytesT key), .bool miss, .bool no, .bool num, .slice a n c, .int .i64 lo, .int .i64 hi]] W fun e w' => e = .returned (.bool (emptyB ⟨miss, no, num, vals, lo, hi⟩)) ∧ Below W.heap.size W w'
  obtain ⟨q, hq⟩ : ∃ q, q = emptyB ⟨miss, no, num, vals, lo, hi⟩ := ⟨_, rfl⟩
  rw [← hq]
  have GQ := hide hq
  clear hq
  have B0 := hide (box_below (w := W) (.cells #[.string (bytesT key), .bool miss, .bool no, .bool num, .slice a n c, .int .i64 lo, .int .i64 hi] 44))
  go_enter Tryz.func38, Tryz.ntmps38
  go_wp2_with fail
  refine (empty_any miss no num _ vals lo hi _ ((unhide HL).below (unhide B0)) ((unhide HS).below (unhide B0))).mono ?_
  rintro e w1 ⟨he, hw1⟩
  rw [← unhide GQ] at he
  subst he
  have B1 := hide (chain (unhide B0) hw1)
  clear hw1
  go_wp2_with fail
  go_ret
  exact ⟨rfl, unhide B1⟩
theorem enters_can : ∀ args w, (callFunc 38 args).run Tryz.prog w = .ok (.enter 38 args) w := enters_of Tryz.func38 (by kernel_rfl) rfl
end Go.Proofs.YtnkcbmlobikjkaaGreatDoor

/- Layer 4: contract of Can. -/
namespace Go.Proofs.YtnkcbmlobikjkaaGreatDoor
open Go.RowKit Suf Val Go.Maps

theorem any_nextG {α : Type} {p : α → Bool} (l : List α) (k : Nat) (h : k < l.length) : (l.take (k + 1)).any p = ((l.take k).any p || p l[k]) := by
  rw [take_nextG l k h, List.any_append]; simp
theorem any_yesG {α : Type} {p : α → Bool} (l : List α) (k : Nat) (h : k < l.length) (hp : p l[k] = true) : l.any p = true := List.any_eq_true.2 ⟨l[k], List.getElem_mem h, hp⟩

set_option maxRecDepth 100000 in
set_option maxHeartbeats 8000000 in
theorem index_any (xa : Option Addr) (n xc base : Nat) (st : List VKS) (w : World) (hL : Laid w) (hO : OwnK 44 w base (.slice xa n xc) st) (hn : n = st.length) (h16 : n ≤ 16) :
    Calls Tryz.prog 60 #[.slice xa n xc, .func (.func 38) #[] #[]] w fun e w' => (∃ z : Int, e = .returned (.int .i64 z) ∧ decide (0 ≤ z) = st.any (fun x => emptyV x.2.2)) ∧ Below w.heap.size w w' := by
  have HL := hide hL
  have HO := hide hO
  have HN := hide hn
  clear hL hO hn
  obtain ⟨R, hR⟩ : ∃ R, R = st.any (fun x => emptyV x.2.2) := ⟨_, rfl⟩
  rw [← hR]
  have HR := hide hR
  clear hR
  have eg := enters_can
  go_enter Tryz.func60, Tryz.ntmps60
  go_wp2_with fail
  go_loopw [8] (fun i W => ∃ k : Nat, k ≤ n ∧ i = .int .i64 k ∧ Hid ((st.take k).any (fun x => emptyV x.2.2) = false) ∧ Hid (Below w.heap.size w W)) (fun i _ => n - (intOf i).toNat)
  case atStart => exact ⟨0, Nat.zero_le _, rfl, rfl, Below.refl _ _⟩
  case round =>
    obtain ⟨k, hk, rfl, hany, hbel⟩ := hrel
    by_cases hlt : k < n
    · have hxk : k < st.length := by rw [← unhide HN]; exact hlt
      obtain ⟨g, rfl, hsev⟩ := ((unhide HO).below (unhide hbel)).at hxk
      have hel := (((unhide HO).below (unhide hbel)).2.1 _ (List.getElem_mem hxk)).1.strs
      have hnx := hide (any_nextG (p := fun x : VKS => emptyV x.2.2) st k hxk)
      have hys := hide (any_yesG (p := fun x : VKS => emptyV x.2.2) st k hxk)
      obtain ⟨y, hy⟩ : ∃ y, y = st[k] := ⟨_, rfl⟩
      rw [← hy] at hsev hel hnx hys
      have hcl := hide (fun W (hb : Below wr.heap.size wr W) => can_closure y W ((unhide HL).below (chain (unhide hbel) hb)) (hel.below hb))
      obtain ⟨q, hq⟩ : ∃ q, q = emptyV y.2.2 := ⟨_, rfl⟩
      rw [← hq] at hnx hys hcl
      obtain ⟨u, key, ⟨miss, no, num, vals, lo, hi⟩⟩ := y
      obtain ⟨ua, uc, hue⟩ := hel.val
      obtain ⟨un, hun⟩ : ∃ x, x = vals.length := ⟨_, rfl⟩
      simp only at hue hsev
      rw [← hun] at hue
      clear hun hy hxk hel hq
      subst hue
      obtain ⟨s0, s1, s2, s3, s4, s5, s6⟩ := hsev
      simp only at s0 s1 s2 s3 s4 s5 s6
      unfold encK at hcl
      simp only at hcl
      cases q
      · have hn2 : Hid ((st.take (k + 1)).any (fun x => emptyV x.2.2) = false) := by show _ = _; rw [unhide hnx, unhide hany]; rfl
        go_wp2_with (go_at_fn 38; refine (unhide hcl _ (Below.refl _ _)).mono ?_; rintro e w2 ⟨rfl, hw2⟩; have B2 := hide (chain (unhide hbel) hw2); clear hw2 s0 s1 s2 s3 s4 s5 s6)
        exact ⟨⟨k + 1, by omega, by go_num, hn2, B2⟩, by simp [intOf]; omega⟩
      · have hfin : Hid (R = true) := by show _ = _; rw [unhide HR]; exact unhide hys rfl
        go_wp2_with (go_at_fn 38; refine (unhide hcl _ (Below.refl _ _)).mono ?_; rintro e w2 ⟨rfl, hw2⟩; have B2 := hide (chain (unhide hbel) hw2); clear hw2 s0 s1 s2 s3 s4 s5 s6)
        go_ret
        exact ⟨⟨(k : Int), rfl, by rw [unhide hfin]; simp⟩, unhide B2⟩
    · obtain rfl : k = n := by omega
      have hfin : Hid (R = false) := by
        show _ = _
        have := unhide hany
        rw [List.take_of_length_le (by rw [← unhide HN]; exact Nat.le_refl _)] at this
        rw [unhide HR, this]
      go_wp2_with fail
      go_ret
      exact ⟨⟨-1, rfl, by rw [unhide hfin]; rfl⟩, unhide hbel⟩

set_option maxHeartbeats 4000000 in
theorem contains_any (xa : Option Addr) (n xc base : Nat) (st : List VKS) (w : World) (hL : Laid w) (hO : OwnK 44 w base (.slice xa n xc) st) (hn : n = st.length) (h16 : n ≤ 16) :
    Calls Tryz.prog 37 #[.slice xa n xc, .func (.func 38) #[] #[]] w fun e w' => e = .returned (.bool (st.any (fun x => emptyV x.2.2))) ∧ Below w.heap.size w w' := by
  have hcon := hide (index_any xa n xc base st w hL hO hn h16)
  clear hL hO hn h16
  obtain ⟨R, hR⟩ : ∃ R, R = st.any (fun x => emptyV x.2.2) := ⟨_, rfl⟩
  rw [← hR] at hcon ⊢
  clear hR
  go_enter Tryz.func37, Tryz.ntmps37
  go_wp2_with fail
  refine (unhide hcon).mono ?_
  rintro e w1 ⟨⟨z, rfl, hz⟩, hw1⟩
  have HZ := hide hz
  have B1 := hide hw1
  clear hz hw1
  go_wp2_with fail
  go_ret
  exact ⟨ret_bool (unhide HZ), unhide B1⟩

theorem can_bad {l : List VReq} (h : ¬ (setsR l).2 = 0) : canR l = (false, (setsR l).2) := by unfold canR; rw [if_neg h]
theorem can_is {l : List VReq} (h : (setsR l).2 = 0) : canR l = (!(setsR l).1.any (fun x => emptyV x.2), 0) := by
  unfold canR; rw [if_pos h]
  congr 1
  induction (setsR l).1 with
  | nil => rfl
  | cons x xs ih => rw [List.all_cons, List.any_cons, ih, Bool.not_or]
set_option maxRecDepth 100000 in
set_option maxHeartbeats 8000000 in
theorem pcan_any (v : Value) (l : List VReq) (w : World) (hL : Laid w) (hv : Reqs w v l) :
    Calls Tryz.prog 18 #[v] w fun e w' => e = .returned (.tuple #[.bool (canR l).1, .int .i64 (canR l).2]) ∧ Below w.heap.size w w' := by
  have HL := hide hL
  have HV := hide hv
  obtain ⟨a, c, rfl⟩ := hv.val
  clear hL hv
  obtain ⟨n, hn⟩ : ∃ n, n = l.length := ⟨_, rfl⟩
  rw [← hn] at HV ⊢
  clear hn
  obtain ⟨R, hR⟩ : ∃ R, R = canR l := ⟨_, rfl⟩
  rw [← hR]
  have HR := hide hR
  clear hR
  go_enter Tryz.func18, Tryz.ntmps18
  go_wp2_with fail
  refine (psets_any _ l _ (unhide HL) (unhide HV)).mono ?_
  rintro e w1 (⟨h0, rfl, hw1⟩ | ⟨h0, v', st, rfl, hst, hown, hw1⟩)
  · have hr : Hid (R = (false, (setsR l).2)) := by show _ = _; rw [unhide HR]; exact can_bad h0
    have B1 := hide hw1
    obtain ⟨z, hz⟩ : ∃ z, z = (setsR l).2 := ⟨_, rfl⟩
    rw [← hz] at hr h0 ⊢
    have ht : (z != 0) = true := bne_iff_ne.2 h0
    clear hw1 h0 hz
    go_wp2_with fail
    go_ret2
    exact ⟨by rw [unhide hr]; rfl, unhide B1⟩
  have hr : Hid (R = (!st.any (fun x => emptyV x.2.2), 0)) := by
    show _ = _
    rw [unhide HR, can_is h0, ← hst, List.any_map]; rfl
  have B1 := hide hw1
  have O1 := hide hown
  have hl16 : st.length ≤ 16 := by
    have := congrArg List.length hst
    have h3 := sets_len (l := l)
    simp at this
    omega
  obtain ⟨xa, xc, hxe⟩ := hown.val
  obtain ⟨xn, hxn⟩ : ∃ x, x = st.length := ⟨_, rfl⟩
  rw [← hxn] at hxe hl16
  have HXN := hide hxn
  clear h0 hst hown hw1 hxn
  subst hxe
  obtain ⟨q, hq⟩ : ∃ q, q = st.any (fun x => emptyV x.2.2) := ⟨_, rfl⟩
  rw [← hq] at hr
  have GQ := hide hq
  clear hq
  go_wp2_with fail
  refine (contains_any xa xn xc _ st _ ((unhide HL).below (unhide B1)) (unhide O1) (unhide HXN) hl16).mono ?_
  rintro e w2 ⟨he, hw2⟩
  rw [← unhide GQ] at he
  subst he
  have B2 := hide (chain (unhide B1) hw2)
  clear hw2
  go_wp2_with fail
  go_ret2
  exact ⟨by rw [unhide hr]; rfl, unhide B2⟩
end Go.Proofs.YtnkcbmlobikjkaaGreatDoor
