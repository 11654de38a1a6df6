/- Layer 3: contract of Of. -/
import Derived.Test.YtnkcbmlobikjkaaGreatDoorV3O
namespace Go.Proofs.YtnkcbmlobikjkaaGreatDoor
open Go.RowKit Suf Val Go.Maps

/-- A set and an error, as the program tells them. -/
def tells (r : VSet × Int) (a : Option Addr) (c : Nat) : Ending := .returned (.tuple #[.agg #[.bool r.1.miss, .bool r.1.no, .bool r.1.num, .slice a r.1.vals.length c, .int .i64 r.1.lo, .int .i64 r.1.hi], .int .i64 r.2])
def setPost (r : VSet × Int) (w : World) (e : Ending) (w' : World) : Prop := ∃ a c, e = tells r a c ∧ Own w' w.heap.size (.slice a r.1.vals.length c) r.1.vals ∧ Below w.heap.size w w'
theorem own_nil (w : World) (base : Nat) : Own w base (.slice none 0 0) [] := ⟨⟨by simp, Or.inl ⟨rfl, rfl⟩⟩, by simp, by simp⟩
theorem setPost_of {r : VSet × Int} {w w' : World} {e : Ending} {v : Value} (he : e = .returned (.tuple #[.agg #[.bool r.1.miss, .bool r.1.no, .bool r.1.num, v, .int .i64 r.1.lo, .int .i64 r.1.hi], .int .i64 r.2])) (ho : Own w' w.heap.size v r.1.vals) (hb : Below w.heap.size w w') : setPost r w e w' := by
  obtain ⟨a, c, rfl⟩ := ho.strs.val
  exact ⟨a, c, he, ho, hb⟩
theorem setPost_zero {w w' : World} {e : Ending} {z : Int} (he : e = .returned (.tuple #[.agg #[.bool false, .bool false, .bool false, .slice none 0 0, .int .i64 0, .int .i64 0], .int .i64 z])) (hb : Below w.heap.size w w') : setPost (zeroS, z) w e w' := setPost_of (r := (zeroS, z)) he (own_nil _ _) hb
theorem ofR_bad {r : VReq} (h : ¬ wrongR r = 0) : ofR r = (zeroS, wrongR r) := by unfold ofR; rw [if_neg h]
theorem ofR_good {r : VReq} (h : wrongR r = 0) : ofR r = (ofSet r, 0) := by unfold ofR; rw [if_pos h]
/-- What came of an empty map, or of one of the call's own: all else lies as it lay. -/
theorem below_new {w W W1 : World} {b : Nat} (h : Below w.heap.size w W) (hg : W.grownBy W1 (some b)) (hb : w.heap.size ≤ b) : Below w.heap.size w W1 := grown_below h hg hb

set_option maxRecDepth 100000 in
set_option maxHeartbeats 4000000 in
theorem of_any (key : ByteArray) (op : Int) (v : Value) (l : List Txt) (z : Int) (w : World) (hL : Laid w) (hv : Strs w v l) (hkey : key.size ≤ maxLen) :
    Calls Tryz.prog 46 #[.agg #[.string key, .int .i64 op, v, .int .i64 z]] w fun e w' => setPost (ofR ⟨key.data.toList, op, l, z⟩) w e w' := by
  have HL := hide hL
  have HV := hide hv
  have HK := hide hkey
  clear hL hkey
  obtain ⟨a, c, rfl⟩ := hv.val
  clear hv
  obtain ⟨len, hn⟩ : ∃ n, n = l.length := ⟨_, rfl⟩
  rw [← hn] at HV ⊢
  have HN := hide hn
  clear hn
  obtain ⟨R, hR⟩ : ∃ R, R = setPost (ofR ⟨key.data.toList, op, l, z⟩) w := ⟨_, rfl⟩
  show Calls _ _ _ _ (fun e w' => setPost (ofR ⟨key.data.toList, op, l, z⟩) w e w')
  rw [← hR]
  have HR := hide hR
  clear hR
  obtain ⟨q, hq⟩ : ∃ q, q = wrongR ⟨key.data.toList, op, l, z⟩ := ⟨_, rfl⟩
  have HQ := hide hq
  clear hq
  obtain ⟨W0, hW0⟩ : ∃ W0, W0 = ((w.alloc (.cells #[.string key, .int .i64 op, .slice a len c, .int .i64 z] 25)).alloc (.cells #[.bool false, .bool false, .bool false, .slice none 0 0, .int .i64 0, .int .i64 0] 42)) := ⟨_, rfl⟩
  have hb0 : Hid (Below w.heap.size w W0) := by rw [hW0]; exact ((box_below _).alloc (by simp) _)
  have hsl0 : Hid (Slot W0 (w.heap.size + 1)) := by
    have := slot_new (w.alloc (.cells #[.string key, .int .i64 op, .slice a len c, .int .i64 z] 25)) 42
    rw [show (w.alloc (.cells #[.string key, .int .i64 op, .slice a len c, .int .i64 z] 25)).heap.size = w.heap.size + 1 by simp] at this
    rw [hW0]; exact this
  have hfo0 : Hid (Four W0 w.heap.size (.string key) (.int .i64 op) (.slice a len c) (.int .i64 z)) := by
    rw [hW0]; exact (four_new w _ _ _ _ _).below (box_below _)
  have GW := hide hW0
  clear hW0
  go_enter Tryz.func46, Tryz.ntmps46
  go_wp2_with fail
  rw [← unhide GW]
  refine (fault_any key op _ l z _ ((unhide HL).below (unhide hb0)) ((unhide HV).below (unhide hb0)) (unhide HK)).mono ?_
  rintro e w1 ⟨he, hw1⟩
  rw [← unhide HQ] at he
  subst he
  have B1 := hide (chain (unhide hb0) hw1)
  have F1 := hide ((unhide hfo0).below hw1)
  have S1 := hide ((unhide hsl0).below hw1)
  clear hw1 hb0 hsl0 hfo0 GW
  by_cases hq0 : q = 0
  rotate_left
  · have hne : (q != 0) = true := bne_iff_ne.2 hq0
    have hans : Hid (ofR ⟨key.data.toList, op, l, z⟩ = (zeroS, q)) := by
      show _ = _; rw [ofR_bad (by rw [← unhide HQ]; exact hq0), ← unhide HQ]
    clear hq0
    obtain ⟨⟨k0, k1, k2, k3, k4, k5⟩, hf, _⟩ := unhide S1
    go_wp2_with fail
    refine bodyPost_ret (v := .tuple #[.agg #[.bool false, .bool false, .bool false, .slice none 0 0, .int .i64 0, .int .i64 0], .int .i64 q]) (by simp [results, Tryz.results46, go_sem, k0, k1, k2, k3, k4, k5]) rfl ?_
    rw [unhide HR, unhide hans]
    exact setPost_zero rfl (put6_below _ _ _ _ _ _ (unhide B1) (by omega))
  have hw0 : Hid (wrongR ⟨key.data.toList, op, l, z⟩ = 0) := by show _ = _; rw [← unhide HQ]; exact hq0
  obtain ⟨o1, o6, n0, n1, l8, _⟩ := wrong_ok (unhide hw0)
  have ho16 : 1 ≤ op ∧ op ≤ 6 := ⟨o1, o6⟩
  have hz : Hid (Unit → (-2147483648 ≤ z ∧ z ≤ 2147483648)) := hide1 ⟨n0, n1⟩
  have h8 : Hid (l.length ≤ 8) := l8
  have hr8 : Hid ((rising l).length ≤ 1000) := Nat.le_trans (rising_le l) (Nat.le_trans l8 (by decide))
  clear o1 o6 n0 n1 l8
  subst hq0
  by_cases ho1 : op = 1
  · subst ho1
    have hans : Hid (ofR ⟨key.data.toList, 1, l, z⟩ = (⟨false, false, false, rising l, 0, 0⟩, 0)) := by
      show _ = _; rw [ofR_good (unhide hw0)]; rfl
    have hls := hide (lists_one ((unhide HV).below (unhide B1)) 23)
    have hll : Hid ((joined [(Value.slice a len c, l)]).length ≤ 70368744177664) := by show _ ≤ _; rw [joined_one]; have := unhide h8; omega
    obtain ⟨f0, f1, f2, f3⟩ := unhide F1
    go_wp2_with fail
    refine (gathered_any _ [(.slice a len c, l)] _ (unhide hls) (unhide hll) (by simp)).mono ?_
    rintro e w2 ⟨b, rfl, hk2, hb2, hw2⟩
    rw [joined_one] at hk2
    have K2 := hide hk2
    have B2 := hide (chain (chain (unhide B1) (box_below _)) hw2)
    have S2 := hide (((unhide S1).below (box_below _)).below hw2)
    clear hk2 hb2 hw2 S1 F1 f0 f1 f2 f3 hls hll
    go_wp2_with fail
    refine (list_any false b l _ (unhide K2) (unhide hr8)).mono ?_
    rintro e w3 ⟨v, rfl, hown, hw3⟩
    obtain ⟨a2, c2, rfl⟩ := hown.strs.val
    have B3 := hide (chain (unhide B2) hw3)
    have hlt3 := hide ((unhide S2).2.2)
    have hle3 := hide ((unhide B2).size)
    obtain ⟨⟨k0, k1, k2, k3, k4, k5⟩, hf, _⟩ := (unhide S2).below hw3
    have HO := hide hown
    obtain ⟨n2, hn2⟩ : ∃ n, n = (rising l).length := ⟨_, rfl⟩
    rw [← hn2] at HO ⊢
    clear hw3 hown hn2 S2 K2
    go_wp2_with fail
    refine bodyPost_ret (v := .tuple #[.agg #[.bool false, .bool false, .bool false, .slice a2 n2 c2, .int .i64 0, .int .i64 0], .int .i64 0]) (by simp [results, Tryz.results46, go_sem, k0, k1, k2, k3, k4, k5]) rfl ?_
    rw [unhide HR, unhide hans]
    exact setPost_of (r := (⟨false, false, false, rising l, 0, 0⟩, 0)) rfl (((unhide HO).grown (put6_grown w3 (w.heap.size + 1) _ _ _ _ _ _) (unhide hlt3)).mono (unhide hle3)) (put6_below _ _ _ _ _ _ (unhide B3) (by omega))
  by_cases ho2 : op = 2
  · subst ho2
    have hans : Hid (ofR ⟨key.data.toList, 2, l, z⟩ = (⟨true, true, false, rising l, 0, 0⟩, 0)) := by
      show _ = _; rw [ofR_good (unhide hw0)]; rfl
    have hls := hide (lists_one ((unhide HV).below (unhide B1)) 23)
    have hll : Hid ((joined [(Value.slice a len c, l)]).length ≤ 70368744177664) := by show _ ≤ _; rw [joined_one]; have := unhide h8; omega
    obtain ⟨f0, f1, f2, f3⟩ := unhide F1
    go_wp2_with fail
    refine (gathered_any _ [(.slice a len c, l)] _ (unhide hls) (unhide hll) (by simp)).mono ?_
    rintro e w2 ⟨b, rfl, hk2, hb2, hw2⟩
    rw [joined_one] at hk2
    have K2 := hide hk2
    have B2 := hide (chain (chain (unhide B1) (box_below _)) hw2)
    have S2 := hide (((unhide S1).below (box_below _)).below hw2)
    clear hk2 hb2 hw2 S1 F1 f0 f1 f2 f3 hls hll
    go_wp2_with fail
    refine (allBut_any true b l _ (unhide K2) (unhide hr8)).mono ?_
    rintro e w3 h3
    rcases h3 with ⟨h64, _⟩ | ⟨_, v, rfl, hown, hw3⟩
    · exact absurd h64 (by have := rising_le l; have := unhide h8; omega)
    obtain ⟨a2, c2, rfl⟩ := hown.strs.val
    have B3 := hide (chain (unhide B2) hw3)
    have hlt3 := hide ((unhide S2).2.2)
    have hle3 := hide ((unhide B2).size)
    obtain ⟨⟨k0, k1, k2, k3, k4, k5⟩, hf, _⟩ := (unhide S2).below hw3
    have HO := hide hown
    obtain ⟨n2, hn2⟩ : ∃ n, n = (rising l).length := ⟨_, rfl⟩
    rw [← hn2] at HO ⊢
    clear hw3 hown hn2 S2 K2
    go_wp2_with fail
    refine bodyPost_ret (v := .tuple #[.agg #[.bool true, .bool true, .bool false, .slice a2 n2 c2, .int .i64 0, .int .i64 0], .int .i64 0]) (by simp [results, Tryz.results46, go_sem, k0, k1, k2, k3, k4, k5]) rfl ?_
    rw [unhide HR, unhide hans]
    exact setPost_of (r := (⟨true, true, false, rising l, 0, 0⟩, 0)) rfl (((unhide HO).grown (put6_grown w3 (w.heap.size + 1) _ _ _ _ _ _) (unhide hlt3)).mono (unhide hle3)) (put6_below _ _ _ _ _ _ (unhide B3) (by omega))
  by_cases ho3 : op = 3
  · subst ho3
    have hmm := @run_makeMap Tryz.prog
    obtain ⟨f0, f1, f2, f3⟩ := unhide F1
    have hans : Hid (ofR ⟨key.data.toList, 3, l, z⟩ = (⟨false, true, false, [], 0, 0⟩, 0)) := by
      show _ = _; rw [ofR_good (unhide hw0)]; rfl
    have K2 := hide (keys_new w1)
    have B2 := hide (chain (unhide B1) (box_below (.map #[] 0)))
    have S2 := hide ((unhide S1).below (box_below (.map #[] 0)))
    go_wp2_with fail
    clear S1 F1 f0 f1 f2 f3
    refine (allBut_any false w1.heap.size [] _ (unhide K2) (by decide)).mono ?_
    rintro e w3 h3
    rcases h3 with ⟨h64, _⟩ | ⟨_, v, rfl, hown, hw3⟩
    · exact absurd h64 (by decide)
    obtain ⟨a2, c2, rfl⟩ := hown.strs.val
    have B3 := hide (chain (unhide B2) hw3)
    have hlt3 := hide ((unhide S2).2.2)
    have hle3 := hide ((unhide B2).size)
    obtain ⟨⟨k0, k1, k2, k3, k4, k5⟩, hf, _⟩ := (unhide S2).below hw3
    have HO := hide hown
    obtain ⟨n2, hn2⟩ : ∃ n, n = (rising ([] : List Txt)).length := ⟨_, rfl⟩
    rw [← hn2] at HO ⊢
    clear hw3 hown hn2 S2 K2
    go_wp2_with fail
    refine bodyPost_ret (v := .tuple #[.agg #[.bool false, .bool true, .bool false, .slice a2 n2 c2, .int .i64 0, .int .i64 0], .int .i64 0]) (by simp [results, Tryz.results46, go_sem, k0, k1, k2, k3, k4, k5]) rfl ?_
    rw [unhide HR, unhide hans]
    exact setPost_of (r := (⟨false, true, false, [], 0, 0⟩, 0)) rfl (((unhide HO).grown (put6_grown w3 (w.heap.size + 1) _ _ _ _ _ _) (unhide hlt3)).mono (unhide hle3)) (put6_below _ _ _ _ _ _ (unhide B3) (by omega))
  by_cases ho4 : op = 4
  · subst ho4
    have hmm := @run_makeMap Tryz.prog
    obtain ⟨f0, f1, f2, f3⟩ := unhide F1
    have hans : Hid (ofR ⟨key.data.toList, 4, l, z⟩ = (⟨true, false, false, [], 0, 0⟩, 0)) := by
      show _ = _; rw [ofR_good (unhide hw0)]; rfl
    have K2 := hide (keys_new w1)
    have B2 := hide (chain (unhide B1) (box_below (.map #[] 0)))
    have S2 := hide ((unhide S1).below (box_below (.map #[] 0)))
    go_wp2_with fail
    clear S1 F1 f0 f1 f2 f3
    refine (list_any true w1.heap.size [] _ (unhide K2) (by decide)).mono ?_
    rintro e w3 ⟨v, rfl, hown, hw3⟩
    obtain ⟨a2, c2, rfl⟩ := hown.strs.val
    have B3 := hide (chain (unhide B2) hw3)
    have hlt3 := hide ((unhide S2).2.2)
    have hle3 := hide ((unhide B2).size)
    obtain ⟨⟨k0, k1, k2, k3, k4, k5⟩, hf, _⟩ := (unhide S2).below hw3
    have HO := hide hown
    obtain ⟨n2, hn2⟩ : ∃ n, n = (rising ([] : List Txt)).length := ⟨_, rfl⟩
    rw [← hn2] at HO ⊢
    clear hw3 hown hn2 S2 K2
    go_wp2_with fail
    refine bodyPost_ret (v := .tuple #[.agg #[.bool true, .bool false, .bool false, .slice a2 n2 c2, .int .i64 0, .int .i64 0], .int .i64 0]) (by simp [results, Tryz.results46, go_sem, k0, k1, k2, k3, k4, k5]) rfl ?_
    rw [unhide HR, unhide hans]
    exact setPost_of (r := (⟨true, false, false, [], 0, 0⟩, 0)) rfl (((unhide HO).grown (put6_grown w3 (w.heap.size + 1) _ _ _ _ _ _) (unhide hlt3)).mono (unhide hle3)) (put6_below _ _ _ _ _ _ (unhide B3) (by omega))
  by_cases ho5 : op = 5
  · subst ho5
    have hmm := @run_makeMap Tryz.prog
    obtain ⟨f0, f1, f2, f3⟩ := unhide F1
    obtain ⟨s, hs⟩ := numbers_nil (z + 1) (2147483648)
    have hans : Hid (ofR ⟨key.data.toList, 5, l, z⟩ = (s, 0)) := by
      show _ = _; rw [ofR_good (unhide hw0)]
      show ((numbersO (z + 1) (2147483648) []).getD zeroS, (0 : Int)) = _
      rw [hs]; rfl
    have hsm := hide (numbers_miss hs)
    have HSS := hide hs
    clear hs
    have hwz := wrap_small (z + 1) (by have := unhide1 hz; omega) (by have := unhide1 hz; omega)
    have K2 := hide (keys_new w1)
    have B2 := hide (chain (unhide B1) (box_below (.map #[] 0)))
    have S2 := hide ((unhide S1).below (box_below (.map #[] 0)))
    go_wp2_with fail
    clear S1 F1 f0 f1 f2 f3
    refine (numbers_any false (z + 1) (2147483648) w1.heap.size [] _ (unhide K2) ((unhide HL).below (unhide B2)) (by decide) (by have := unhide1 hz; omega) (by have := unhide1 hz; omega) (by have := unhide1 hz; omega) (by have := unhide1 hz; omega)).mono ?_
    rintro e w3 ⟨hg3, h3⟩
    rw [unhide HSS] at h3
    rcases h3 with ⟨h0, _⟩ | ⟨s', v, hs', rfl, hown⟩
    · cases h0
    obtain rfl : s = s' := by injection hs'
    obtain ⟨a2, c2, rfl⟩ := hown.strs.val
    have B3 := hide (grown_below (unhide B2) hg3 (unhide B1).size)
    have hlt3 := hide ((unhide S2).2.2)
    have hle3 := hide ((unhide B2).size)
    obtain ⟨⟨k0, k1, k2, k3, k4, k5⟩, hf, _⟩ := (unhide S2).turn (unhide K2) hg3
    have HO := hide hown
    obtain ⟨n2, hn2⟩ : ∃ n, n = s.vals.length := ⟨_, rfl⟩
    rw [← hn2] at HO ⊢
    obtain ⟨miss, no, num, vals, slo, shi⟩ := s
    obtain rfl : miss = false := unhide hsm
    simp only at HO ⊢
    clear hg3 hown hn2 hs' S2 K2
    go_wp2_with fail
    refine bodyPost_ret (v := .tuple #[.agg #[.bool false, .bool no, .bool num, .slice a2 n2 c2, .int .i64 slo, .int .i64 shi], .int .i64 0]) (by simp [results, Tryz.results46, go_sem, k0, k1, k2, k3, k4, k5]) rfl ?_
    rw [unhide HR, unhide hans]
    exact setPost_of (r := (⟨false, no, num, vals, slo, shi⟩, 0)) rfl (((unhide HO).grown (put6_grown w3 (w.heap.size + 1) _ _ _ _ _ _) (unhide hlt3)).mono (unhide hle3)) (put6_below _ _ _ _ _ _ (unhide B3) (by omega))
  obtain rfl : op = 6 := by omega
  · have hmm := @run_makeMap Tryz.prog
    obtain ⟨f0, f1, f2, f3⟩ := unhide F1
    obtain ⟨s, hs⟩ := numbers_nil (-2147483648) (z - 1)
    have hans : Hid (ofR ⟨key.data.toList, 6, l, z⟩ = (s, 0)) := by
      show _ = _; rw [ofR_good (unhide hw0)]
      show ((numbersO (-2147483648) (z - 1) []).getD zeroS, (0 : Int)) = _
      rw [hs]; rfl
    have hsm := hide (numbers_miss hs)
    have HSS := hide hs
    clear hs
    have hwz := wrap_small (z - 1) (by have := unhide1 hz; omega) (by have := unhide1 hz; omega)
    have K2 := hide (keys_new w1)
    have B2 := hide (chain (unhide B1) (box_below (.map #[] 0)))
    have S2 := hide ((unhide S1).below (box_below (.map #[] 0)))
    go_wp2_with fail
    clear S1 F1 f0 f1 f2 f3
    refine (numbers_any false (-2147483648) (z - 1) w1.heap.size [] _ (unhide K2) ((unhide HL).below (unhide B2)) (by decide) (by have := unhide1 hz; omega) (by have := unhide1 hz; omega) (by have := unhide1 hz; omega) (by have := unhide1 hz; omega)).mono ?_
    rintro e w3 ⟨hg3, h3⟩
    rw [unhide HSS] at h3
    rcases h3 with ⟨h0, _⟩ | ⟨s', v, hs', rfl, hown⟩
    · cases h0
    obtain rfl : s = s' := by injection hs'
    obtain ⟨a2, c2, rfl⟩ := hown.strs.val
    have B3 := hide (grown_below (unhide B2) hg3 (unhide B1).size)
    have hlt3 := hide ((unhide S2).2.2)
    have hle3 := hide ((unhide B2).size)
    obtain ⟨⟨k0, k1, k2, k3, k4, k5⟩, hf, _⟩ := (unhide S2).turn (unhide K2) hg3
    have HO := hide hown
    obtain ⟨n2, hn2⟩ : ∃ n, n = s.vals.length := ⟨_, rfl⟩
    rw [← hn2] at HO ⊢
    obtain ⟨miss, no, num, vals, slo, shi⟩ := s
    obtain rfl : miss = false := unhide hsm
    simp only at HO ⊢
    clear hg3 hown hn2 hs' S2 K2
    go_wp2_with fail
    refine bodyPost_ret (v := .tuple #[.agg #[.bool false, .bool no, .bool num, .slice a2 n2 c2, .int .i64 slo, .int .i64 shi], .int .i64 0]) (by simp [results, Tryz.results46, go_sem, k0, k1, k2, k3, k4, k5]) rfl ?_
    rw [unhide HR, unhide hans]
    exact setPost_of (r := (⟨false, no, num, vals, slo, shi⟩, 0)) rfl (((unhide HO).grown (put6_grown w3 (w.heap.size + 1) _ _ _ _ _ _) (unhide hlt3)).mono (unhide hle3)) (put6_below _ _ _ _ _ _ (unhide B3) (by omega))

end Go.Proofs.YtnkcbmlobikjkaaGreatDoor
