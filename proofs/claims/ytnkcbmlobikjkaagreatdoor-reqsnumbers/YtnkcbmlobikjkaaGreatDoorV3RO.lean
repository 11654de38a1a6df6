/- Layer 3: contract of the document's Of. -/
import Derived.Test.YtnkcbmlobikjkaaGreatDoorV3WR
import Derived.Test.YtnkcbmlobikjkaaGreatDoorV3P
namespace Go.Proofs.YtnkcbmlobikjkaaGreatDoor
open Go.RowKit Suf Val Go.Maps

theorem of_op {r : VReq} (h : wrongR r = 0) : r.op = 1 ∨ r.op = 2 ∨ r.op = 3 ∨ r.op = 4 ∨ r.op = 5 ∨ r.op = 6 := by
  obtain ⟨h1, h2, _⟩ := wrong_ok h; omega
theorem ofSet_1 {key : Txt} {l : List Txt} {z : Int} : ofSet ⟨key, 1, l, z⟩ = ⟨false, false, false, rising l, 0, 0⟩ := rfl
theorem ofSet_2 {key : Txt} {l : List Txt} {z : Int} : ofSet ⟨key, 2, l, z⟩ = ⟨true, true, false, rising l, 0, 0⟩ := rfl
theorem ofSet_3 {key : Txt} {l : List Txt} {z : Int} : ofSet ⟨key, 3, l, z⟩ = ⟨false, true, false, [], 0, 0⟩ := rfl
theorem ofSet_4 {key : Txt} {l : List Txt} {z : Int} : ofSet ⟨key, 4, l, z⟩ = ⟨true, false, false, [], 0, 0⟩ := rfl
theorem ofSet_5 {key : Txt} {l : List Txt} {z : Int} : ofSet ⟨key, 5, l, z⟩ = (numbersO (z + 1) 2147483648 []).getD zeroS := rfl
theorem ofSet_6 {key : Txt} {l : List Txt} {z : Int} : ofSet ⟨key, 6, l, z⟩ = (numbersO (-2147483648) (z - 1) []).getD zeroS := rfl
theorem setPost_is {r : VSet × Int} {s : VSet} {x : Int} {w w' : World} {e : Ending} {v : Value} (hr : r = (s, x)) (he : e = .returned (.tuple #[.agg #[.bool s.miss, .bool s.no, .bool s.num, v, .int .i64 s.lo, .int .i64 s.hi], .int .i64 x])) (ho : Own w' w.heap.size v s.vals) (hb : Below w.heap.size w w') : setPost r w e w' := by
  subst hr; exact setPost_of (r := (s, x)) he ho hb

set_option maxRecDepth 100000 in
set_option maxHeartbeats 8000000 in
theorem rof_any (key : ByteArray) (op : Int) (v : Value) (l : List Txt) (z : Int) (w : World) (hv : Strs w v l) (hcap : Capd v) (hkey : key.size ≤ maxLen) :
    Calls Tryz.prog 32 #[.agg #[.string key, .int .i64 op, v, .int .i64 z]] w fun e w' => setPost (ofR ⟨key.data.toList, op, l, z⟩) w e w' := by
  obtain ⟨R, hR⟩ : ∃ R, R = ofR ⟨key.data.toList, op, l, z⟩ := ⟨_, rfl⟩
  rw [← hR]
  have HR := hide hR
  have HV := hide hv
  have HK := hide hkey
  have HCP := hide hcap
  obtain ⟨a, c, rfl⟩ := hv.val
  clear hR hkey hv hcap
  obtain ⟨n, hn⟩ : ∃ n, n = l.length := ⟨_, rfl⟩
  rw [← hn] at HV HCP ⊢
  clear hn
  obtain ⟨W0, hW0⟩ : ∃ W0, W0 = ((w.alloc (.cells #[.string key, .int .i64 op, .slice a n c, .int .i64 z] 25)).alloc (.cells #[.bool false, .bool false, .bool false, .slice none 0 0, .int .i64 0, .int .i64 0] 42)) := ⟨_, rfl⟩
  have F0 : Hid (Four W0 w.heap.size (.string key) (.int .i64 op) (.slice a n c) (.int .i64 z)) := by rw [hW0]; exact (four_new _ _ _ _ _ _).below (box_below _)
  have SL0 : Hid (Slot W0 (w.heap.size + 1)) := by
    have := slot_new (w.alloc (.cells #[.string key, .int .i64 op, .slice a n c, .int .i64 z] 25)) 42
    rw [show (w.alloc (.cells #[.string key, .int .i64 op, .slice a n c, .int .i64 z] 25)).heap.size = w.heap.size + 1 by simp] at this
    rw [hW0]; exact this
  have B0 : Hid (Below w.heap.size w W0) := by rw [hW0]; exact ((box_below _).alloc (by simp) _)
  have Z0 : Hid (W0.heap.size = w.heap.size + 2) := by rw [hW0]; show _ = _; simp
  have GW := hide hW0
  clear hW0
  obtain ⟨x, hx⟩ : ∃ x, x = wrongR ⟨key.data.toList, op, l, z⟩ := ⟨_, rfl⟩
  have GXX := hide hx
  clear hx
  go_enter Tryz.func32, Tryz.ntmps32
  go_wp2_with fail
  rw [← unhide GW]
  refine (rwrong_any key op _ l z _ ((unhide HV).below (unhide B0)) (unhide HCP) (unhide HK)).mono ?_
  rintro e w1 ⟨he, hw1⟩
  rw [← unhide GXX] at he
  subst he
  have B1 := hide (chain (unhide B0) hw1)
  have F1 := hide ((unhide F0).below hw1)
  have S1 := hide ((unhide SL0).below hw1)
  have Z1 : Hid (w.heap.size + 2 ≤ w1.heap.size) := by rw [← unhide Z0]; exact hw1.size
  clear hw1 B0 F0 SL0 Z0
  by_cases hx0 : x = 0
  rotate_left
  · have hR2 : Hid (R = (zeroS, x)) := by show _ = _; rw [unhide HR, ofR_bad (by rw [← unhide GXX]; exact hx0), ← unhide GXX]
    have ht : (x != 0) = true := bne_iff_ne.2 hx0
    obtain ⟨⟨k0, k1, k2, k3, k4, k5⟩, hfz, _⟩ := unhide S1
    clear hx0
    go_wp2_with fail
    exact bodyPost_ret (v := .tuple #[.agg #[.bool false, .bool false, .bool false, .slice none 0 0, .int .i64 0, .int .i64 0], .int .i64 x]) (by simp [results, Tryz.results32, go_sem, k0, k1, k2, k3, k4, k5]) rfl
      (setPost_is (s := zeroS) (unhide hR2) rfl (own_nil _ _) (put6_below _ _ _ _ _ _ (unhide B1) (by omega)))
  subst hx0
  have hR2 : Hid (R = (ofSet ⟨key.data.toList, op, l, z⟩, 0)) := by show _ = _; rw [unhide HR, ofR_good (unhide GXX).symm]
  have hzb := hide1 (show -2147483648 ≤ z ∧ z ≤ 2147483648 ∧ n ≤ 8 from by
    obtain ⟨_, _, h1, h2, h3, _⟩ := wrong_ok (unhide GXX).symm
    exact ⟨h1, h2, by obtain ⟨a', c', e, _⟩ := (unhide HV); injection e with _ e _; rw [e]; exact h3⟩)
  have hln := hide (show l.length ≤ 999999 from by obtain ⟨_, _, _, _, h3, _⟩ := wrong_ok (unhide GXX).symm; exact Nat.le_trans h3 (by decide))
  rcases of_op (unhide GXX).symm with h | h | h | h | h | h
  all_goals
    have hop : op = _ := h
    subst hop
    clear h HR GXX
  · -- In
    obtain ⟨g0, g1, g2, g3⟩ := unhide F1
    go_wp2_with fail
    clear g0 g1 g2 g3
    refine (rrising_any _ l _ ((unhide HV).below (unhide B1)) (unhide hln)).mono ?_
    rintro e w2 ⟨v2, rfl, ho2, hw2⟩
    obtain ⟨⟨k0, k1, k2, k3, k4, k5⟩, hfz, _⟩ := (unhide S1).below hw2
    have B2 := hide (chain (unhide B1) hw2)
    have O2 := hide ho2
    obtain ⟨pa, pc, hpe⟩ := ho2.strs.val
    obtain ⟨pn, hpn⟩ : ∃ m, m = (Val.rising l).length := ⟨_, rfl⟩
    rw [← hpn] at hpe
    clear hpn hw2 ho2
    subst hpe
    go_wp2_with fail
    exact bodyPost_ret (v := .tuple #[.agg #[.bool false, .bool false, .bool false, .slice pa pn pc, .int .i64 0, .int .i64 0], .int .i64 0]) (by simp [results, Tryz.results32, go_sem, k0, k1, k2, k3, k4, k5]) rfl
      (setPost_is (s := ⟨false, false, false, rising l, 0, 0⟩) (by rw [unhide hR2]; rfl) rfl (((unhide O2).grown (put6_grown _ (w.heap.size + 1) _ _ _ _ _ _) (by have := unhide Z1; omega)).mono (unhide B1).size) (put6_below _ _ _ _ _ _ (unhide B2) (by omega)))
  · obtain ⟨g0, g1, g2, g3⟩ := unhide F1
    go_wp2_with fail
    clear g0 g1 g2 g3
    refine (rrising_any _ l _ ((unhide HV).below (unhide B1)) (unhide hln)).mono ?_
    rintro e w2 ⟨v2, rfl, ho2, hw2⟩
    obtain ⟨⟨k0, k1, k2, k3, k4, k5⟩, hfz, _⟩ := (unhide S1).below hw2
    have B2 := hide (chain (unhide B1) hw2)
    have O2 := hide ho2
    obtain ⟨pa, pc, hpe⟩ := ho2.strs.val
    obtain ⟨pn, hpn⟩ : ∃ m, m = (Val.rising l).length := ⟨_, rfl⟩
    rw [← hpn] at hpe
    clear hpn hw2 ho2
    subst hpe
    go_wp2_with fail
    exact bodyPost_ret (v := .tuple #[.agg #[.bool true, .bool true, .bool false, .slice pa pn pc, .int .i64 0, .int .i64 0], .int .i64 0]) (by simp [results, Tryz.results32, go_sem, k0, k1, k2, k3, k4, k5]) rfl
      (setPost_is (s := ⟨true, true, false, rising l, 0, 0⟩) (by rw [unhide hR2]; rfl) rfl (((unhide O2).grown (put6_grown _ (w.heap.size + 1) _ _ _ _ _ _) (by have := unhide Z1; omega)).mono (unhide B1).size) (put6_below _ _ _ _ _ _ (unhide B2) (by omega)))
  · obtain ⟨g0, g1, g2, g3⟩ := unhide F1
    obtain ⟨⟨k0, k1, k2, k3, k4, k5⟩, hfz, _⟩ := unhide S1
    go_wp2_with fail
    exact bodyPost_ret (v := .tuple #[.agg #[.bool false, .bool true, .bool false, .slice none 0 0, .int .i64 0, .int .i64 0], .int .i64 0]) (by simp [results, Tryz.results32, go_sem, k0, k1, k2, k3, k4, k5]) rfl
      (setPost_is (s := ⟨false, true, false, [], 0, 0⟩) (by rw [unhide hR2]; rfl) rfl (own_nil _ _) (put6_below _ _ _ _ _ _ (unhide B1) (by omega)))
  · obtain ⟨g0, g1, g2, g3⟩ := unhide F1
    obtain ⟨⟨k0, k1, k2, k3, k4, k5⟩, hfz, _⟩ := unhide S1
    go_wp2_with fail
    exact bodyPost_ret (v := .tuple #[.agg #[.bool true, .bool false, .bool false, .slice none 0 0, .int .i64 0, .int .i64 0], .int .i64 0]) (by simp [results, Tryz.results32, go_sem, k0, k1, k2, k3, k4, k5]) rfl
      (setPost_is (s := ⟨true, false, false, [], 0, 0⟩) (by rw [unhide hR2]; rfl) rfl (own_nil _ _) (put6_below _ _ _ _ _ _ (unhide B1) (by omega)))
  · have wz := wrap_small (z + 1) (by have := unhide1 hzb; omega) (by have := unhide1 hzb; omega)
    obtain ⟨g0, g1, g2, g3⟩ := unhide F1
    go_wp2_with fail
    clear g0 g1 g2 g3
    refine (rnumbers_any (z + 1) 2147483648 _ [] _ (strs_zero _ _ _) (by decide) (by have := unhide1 hzb; omega) (by have := unhide1 hzb; omega) (by decide) (by decide)).mono ?_
    rintro e w2 ⟨v2, rfl, ho2, hw2⟩
    have Z2 : w.heap.size + 1 ≠ w2.heap.size := by have := unhide Z1; have := hw2.size; omega
    obtain ⟨s, hs⟩ : ∃ s, s = (numbersO (z + 1) 2147483648 []).getD zeroS := ⟨_, rfl⟩
    have hR3 : Hid (R = (s, 0)) := by show _ = _; rw [unhide hR2, hs]; rfl
    rw [← hs] at ho2 ⊢
    clear hs hR2
    have S2 := hide (((unhide S1).below hw2).below (box_below (.cells #[.bool s.miss, .bool s.no, .bool s.num, v2, .int .i64 s.lo, .int .i64 s.hi] 42)))
    have B2 := hide (chain (chain (unhide B1) hw2) (box_below (.cells #[.bool s.miss, .bool s.no, .bool s.num, v2, .int .i64 s.lo, .int .i64 s.hi] 42)))
    have O2 := hide (ho2.below (box_below (.cells #[.bool s.miss, .bool s.no, .bool s.num, v2, .int .i64 s.lo, .int .i64 s.hi] 42)))
    obtain ⟨pa, pc, hpe⟩ := ho2.strs.val
    obtain ⟨pn, hpn⟩ : ∃ m, m = s.vals.length := ⟨_, rfl⟩
    rw [← hpn] at hpe
    clear hpn hw2 ho2
    subst hpe
    obtain ⟨⟨k0, k1, k2, k3, k4, k5⟩, hfz, _⟩ := unhide S2
    go_wp2_with fail
    exact bodyPost_ret (v := .tuple #[.agg #[.bool s.miss, .bool s.no, .bool s.num, .slice pa pn pc, .int .i64 s.lo, .int .i64 s.hi], .int .i64 0]) (by simp [results, Tryz.results32, go_sem, k0, k1, k2, k3, k4, k5]) rfl
      (setPost_is (s := s) (unhide hR3) rfl (((unhide O2).grown (put6_grown _ (w.heap.size + 1) _ _ _ _ _ _) (by have := unhide Z1; omega)).mono (unhide B1).size) (put6_below _ _ _ _ _ _ (unhide B2) (by omega)))
  · have wz := wrap_small (z - 1) (by have := unhide1 hzb; omega) (by have := unhide1 hzb; omega)
    obtain ⟨g0, g1, g2, g3⟩ := unhide F1
    go_wp2_with fail
    clear g0 g1 g2 g3
    refine (rnumbers_any (-2147483648) (z - 1) _ [] _ (strs_zero _ _ _) (by decide) (by decide) (by decide) (by have := unhide1 hzb; omega) (by have := unhide1 hzb; omega)).mono ?_
    rintro e w2 ⟨v2, rfl, ho2, hw2⟩
    have Z2 : w.heap.size + 1 ≠ w2.heap.size := by have := unhide Z1; have := hw2.size; omega
    obtain ⟨s, hs⟩ : ∃ s, s = (numbersO (-2147483648) (z - 1) []).getD zeroS := ⟨_, rfl⟩
    have hR3 : Hid (R = (s, 0)) := by show _ = _; rw [unhide hR2, hs]; rfl
    rw [← hs] at ho2 ⊢
    clear hs hR2
    have S2 := hide (((unhide S1).below hw2).below (box_below (.cells #[.bool s.miss, .bool s.no, .bool s.num, v2, .int .i64 s.lo, .int .i64 s.hi] 42)))
    have B2 := hide (chain (chain (unhide B1) hw2) (box_below (.cells #[.bool s.miss, .bool s.no, .bool s.num, v2, .int .i64 s.lo, .int .i64 s.hi] 42)))
    have O2 := hide (ho2.below (box_below (.cells #[.bool s.miss, .bool s.no, .bool s.num, v2, .int .i64 s.lo, .int .i64 s.hi] 42)))
    obtain ⟨pa, pc, hpe⟩ := ho2.strs.val
    obtain ⟨pn, hpn⟩ : ∃ m, m = s.vals.length := ⟨_, rfl⟩
    rw [← hpn] at hpe
    clear hpn hw2 ho2
    subst hpe
    obtain ⟨⟨k0, k1, k2, k3, k4, k5⟩, hfz, _⟩ := unhide S2
    go_wp2_with fail
    exact bodyPost_ret (v := .tuple #[.agg #[.bool s.miss, .bool s.no, .bool s.num, .slice pa pn pc, .int .i64 s.lo, .int .i64 s.hi], .int .i64 0]) (by simp [results, Tryz.results32, go_sem, k0, k1, k2, k3, k4, k5]) rfl
      (setPost_is (s := s) (unhide hR3) rfl (((unhide O2).grown (put6_grown _ (w.heap.size + 1) _ _ _ _ _ _) (by have := unhide Z1; omega)).mono (unhide B1).size) (put6_below _ _ _ _ _ _ (unhide B2) (by omega)))

end Go.Proofs.YtnkcbmlobikjkaaGreatDoor
