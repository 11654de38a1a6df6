/- Layer 4: contracts of Sets, Can. -/
import Derived.Test.YtnkcbmlobikjkaaGreatDoorRqJ
import Derived.Test.YtnkcbmlobikjkaaGreatDoorV3EM
import Derived.Test.YtnkcbmlobikjkaaGreatDoorContL
namespace Go.Proofs.YtnkcbmlobikjkaaGreatDoor
open Go.RowKit Suf Val Go.Maps

def setsPost (l : List VReq) (w : World) (e : Ending) (w' : World) : Prop :=
  (¬ (setsR l).2 = 0 ∧ e = .returned (.tuple #[.slice none 0 0, .int .i64 (setsR l).2]) ∧ Below w.heap.size w w') ∨
  ((setsR l).2 = 0 ∧ ∃ v' st, e = .returned (.tuple #[v', .int .i64 0]) ∧ st.map (·.2) = (setsR l).1 ∧ OwnK 44 w' w.heap.size v' st ∧ Below w.heap.size w w')
theorem sets_of {l : List VReq} (h : moreR 16 l = 0) : setsR l = setsF [] (l.map keyS) := by unfold setsR; rw [if_pos h]
theorem sets_more {l : List VReq} (h : ¬ moreR 16 l = 0) : setsR l = ([], moreR 16 l) := by unfold setsR; rw [if_neg h]
theorem sets_len {l : List VReq} : (setsR l).1.length ≤ 16 := by
  by_cases h : moreR 16 l = 0
  · rw [sets_of h]
    have h1 := len_setsF (l.map keyS) []
    have h2 := (more_ok.1 h).1
    simp at h1
    omega
  · rw [sets_more h]; simp

set_option maxRecDepth 100000 in
set_option maxHeartbeats 8000000 in
theorem psets_any (v : Value) (l : List VReq) (w : World) (hL : Laid w) (hv : Reqs w v l) :
    Calls Tryz.prog 10 #[v] w fun e w' => setsPost l w e w' := by
  have HL := hide hL
  have HV := hide hv
  obtain ⟨a, c, rfl⟩ := hv.val
  clear hL hv
  obtain ⟨n, hn⟩ : ∃ n, n = l.length := ⟨_, rfl⟩
  rw [← hn] at HV ⊢
  have HN := hide hn
  clear hn
  obtain ⟨R, hR⟩ : ∃ R, R = setsPost l w := ⟨_, rfl⟩
  show Calls _ _ _ _ (fun e w' => setsPost l w e w')
  rw [← hR]
  have HR := hide hR
  clear hR
  go_enter Tryz.func10, Tryz.ntmps10
  go_wp2_with fail
  refine (each_any _ l 16 _ (unhide HL) (unhide HV) (by decide)).mono ?_
  rintro e w1 (⟨h0, rfl, hw1⟩ | ⟨h0, v', xs, rfl, hxs, hown, hw1⟩)
  · have hr : Hid (setsR l = ([], moreR 16 l)) := sets_more h0
    have H0 := hide h0
    have B1 := hide hw1
    obtain ⟨z, hz⟩ : ∃ z, z = moreR 16 l := ⟨_, rfl⟩
    rw [← hz] at hr h0 H0 ⊢
    have ht : (z != 0) = true := bne_iff_ne.2 h0
    clear hw1 h0 hz
    go_wp2_with fail
    show R (.returned (.tuple #[.slice none 0 0, .int .i64 z])) _
    rw [unhide HR]
    exact Or.inl ⟨by rw [unhide hr]; exact unhide H0, by rw [unhide hr], unhide B1⟩
  have hse : Hid (setsF [] (xs.map (·.2)) = setsR l) := by show _ = _; rw [hxs, sets_of h0]
  have hxl : xs.length ≤ 16 := by
    have := congrArg List.length hxs
    have h2 := (more_ok.1 h0).1
    simp at this
    omega
  have H0 := hide h0
  have O1 := hide hown
  have B1 := hide hw1
  obtain ⟨xa, xc, hxe⟩ := hown.val
  obtain ⟨xn, hxn⟩ : ∃ x, x = xs.length := ⟨_, rfl⟩
  rw [← hxn] at hxe
  have HX := hide hxl
  clear h0 hxs hown hw1 hxn hxl
  subst hxe
  go_wp2_with fail
  refine (met_any _ xs _ _ ((unhide HL).below (unhide B1)) (unhide O1) (unhide HX) (unhide B1).size).mono ?_
  rintro e w2 (⟨h2, rfl, hw2⟩ | ⟨h2, b, kk, st, rfl, hst, hom, hkk, hbb, hw2⟩)
  · rw [unhide hse] at h2 ⊢
    have B2 := hide (chain (unhide B1) hw2)
    have H2 := hide h2
    obtain ⟨z, hz⟩ : ∃ z, z = (setsR l).2 := ⟨_, rfl⟩
    rw [← hz] at h2 ⊢
    have ht : (z != 0) = true := bne_iff_ne.2 h2
    have GZ := hide hz
    clear hw2 h2 hz
    go_wp2_with fail
    show R (.returned (.tuple #[.slice none 0 0, .int .i64 z])) _
    rw [unhide HR]
    exact Or.inl ⟨unhide H2, by rw [unhide GZ], unhide B2⟩
  rw [unhide hse] at h2 hst
  have H2 := hide h2
  have HST := hide hst
  have OM2 := hide hom
  have B2 := hide (chain (unhide B1) hw2)
  have hup : Hid (UpK (st.map (·.2))) := by
    show UpK _
    rw [hst]; exact (sets_good (unhide H0) h2).up
  have hsl : Hid (st.length ≤ 16) := by
    have := congrArg List.length hst
    have h3 := sets_len (l := l)
    show _ ≤ _
    simp at this
    omega
  clear h2 hst hom hkk hbb hw2
  go_wp2_with fail
  refine (risingK_any b _ kk st _ (unhide OM2) (unhide hup) (unhide hsl) (unhide B2).size).mono ?_
  rintro e w3 ⟨v3, rfl, ho3, hw3⟩
  have B3 := hide (chain (unhide B2) hw3)
  have O3 := hide ho3
  obtain ⟨ya, yc, hye⟩ := ho3.val
  clear hw3 ho3
  obtain ⟨yn, hyn⟩ : ∃ x, x = st.length := ⟨_, rfl⟩
  rw [← hyn] at hye
  clear hyn
  subst hye
  go_wp2_with fail
  show R (.returned (.tuple #[.slice ya yn yc, .int .i64 0])) _
  rw [unhide HR]
  exact Or.inr ⟨unhide H2, _, st, rfl, unhide HST, unhide O3, unhide B3⟩

/-- The closure of Can, at a keyed set that lies in memory. -/
theorem can_closure (x : VKS) (W : World) (hL : Laid W) (hs : Strs W x.1 x.2.2.vals) : Calls Tryz.prog 38 #[.agg (encK x).toArray] W fun e w' => e = .returned (.bool (emptyV x.2.2)) ∧ Below W.heap.size W w' := by
  obtain ⟨u, key, ⟨miss, no, num, vals, lo, hi⟩⟩ := x
  simp only at hs
  have HL := hide hL
  have HS := hide hs
  obtain ⟨a, c, rfl⟩ := hs.val
  obtain ⟨n, hn⟩ : ∃ n, n = vals.length := ⟨_, rfl⟩
  rw [← hn] at HS ⊢
  clear hL hs hn
  show Calls Tryz.prog 38 #[.agg #[.string (bytesT key), .bool miss, .bool no, .bool num, .slice a n c, .int .i64 lo, .int .i64 hi]] W fun e w' => e = .returned (.bool (emptyB ⟨miss, no, num, vals, lo, hi⟩)) ∧ Below W.heap.size W w'
  obtain ⟨q, hq⟩ : ∃ q, q = emptyB ⟨miss, no, num, vals, lo, hi⟩ := ⟨_, rfl⟩
  rw [← hq]
  have GQ := hide hq
  clear hq
  have B0 := hide (box_below (w := W) (.cells #[.string (bytesT key), .bool miss, .bool no, .bool num, .slice a n c, .int .i64 lo, .int .i64 hi] 44))
  go_enter Tryz.func38, Tryz.ntmps38
  go_wp2_with fail
  refine (empty_any miss no num _ vals lo hi _ ((unhide HL).below (unhide B0)) ((unhide HS).below (unhide B0))).mono ?_
  rintro e w1 ⟨he, hw1⟩
  rw [← unhide GQ] at he
  subst he
  have B1 := hide (chain (unhide B0) hw1)
  clear hw1
  go_wp2_with fail
  go_ret
  exact ⟨rfl, unhide B1⟩
theorem enters_can : ∀ args w, (callFunc 38 args).run Tryz.prog w = .ok (.enter 38 args) w := enters_of Tryz.func38 (by kernel_rfl) rfl
end Go.Proofs.YtnkcbmlobikjkaaGreatDoor
