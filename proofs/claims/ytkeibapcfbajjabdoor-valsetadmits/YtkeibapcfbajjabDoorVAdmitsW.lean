/- The walk of ValsetAdmits. -/
import Derived.Test.YtkeibapcfbajjabDoorV3U
namespace Go.Proofs.YtkeibapcfbajjabDoor.valsetAdmits
open Go.RowKit Suf Val Go.Maps

theorem any_next (l : List Txt) (v : Txt) (k : Nat) (h : k < l.length) : (l.take (k + 1)).contains v = ((l.take k).contains v || (l[k] == v)) := by
  rw [take_next l k h, Bool.eq_iff_iff, Bool.or_eq_true, List.contains_iff_mem, List.contains_iff_mem, List.mem_append, List.mem_singleton, beq_iff_eq]
  exact or_congr_right ⟨fun h => h.symm, fun h => h.symm⟩
def wantOf (op : Int) (inn value num : Bool) (n z : Int) : Bool :=
  if op = 1 then inn else if op = 2 then value && !inn else if op = 3 then value else if op = 5 then (num && decide (z < n)) else if op = 6 then (num && decide (n < z)) else false
theorem want_eq (key v : Txt) (op : Int) (l : List Txt) (z : Int) : wantR ⟨key, op, l, z⟩ v = wantOf op (l.contains v) (valueB v) (numR v).2 (numR v).1 z := by
  unfold wantR wantOf numR
  simp only
  cases numO v <;> simp
theorem eq_txt (s : Txt) (v : ByteArray) : ((bytesT s).toList == v.toList) = (s == v.data.toList) := by rw [Lib.toList_data, Lib.toList_data]; rfl

set_option maxRecDepth 100000 in
set_option maxHeartbeats 8000000 in
theorem walk (key : ByteArray) (op : Int) (u : Value) (l : List Txt) (z : Int) (v : ByteArray) (w : World) (hu : Strs w u l) (hkey : key.size ≤ maxLen) (hv : v.size ≤ 281474976710656) (hL : Laid w) :
    Calls Tryd.prog 4 #[.agg #[.string key, .int .i64 op, u, .int .i64 z], .string v] w fun e w' => e = .returned (.bool true) ∧ Below w.heap.size w w' := by
  have HL := hide hL
  have U0 := hide hu
  have HK := hide hkey
  have HV := hide1 hv
  have hlen := hu.len
  obtain ⟨a, c, rfl⟩ := hu.val
  have hopen := hu.open
  clear hL hkey hv hu
  obtain ⟨k, hk⟩ : ∃ n, n = l.length := ⟨_, rfl⟩
  rw [← hk] at U0 hlen ⊢
  have HN := hide hk
  have B0 := hide (box_below (w := w) (.cells #[.string key, .int .i64 op, .slice a k c, .int .i64 z] 34))
  have F0 := hide (four_new w (.string key) (.int .i64 op) (.slice a k c) (.int .i64 z) 34)
  obtain ⟨R, hR⟩ : ∃ r, r = ofR ⟨key.data.toList, op, l, z⟩ := ⟨_, rfl⟩
  have GR := hide hR
  have HOP := hide hopen
  clear hk hR hopen
  obtain ⟨⟨sm, sn, sq, sv, slo, shi⟩, se⟩ := R
  go_enter Tryd.func4, Tryd.ntmps4
  go_wp2_with fail
  refine (of_any key op _ l z _ ((unhide HL).below (unhide B0)) ((unhide U0).below (unhide B0)) (unhide HK)).mono ?_
  rintro e w1 ⟨x1, y1, he, ho1, hw1⟩
  rw [← unhide GR] at he ho1
  unfold tells at he
  simp only at he ho1
  obtain ⟨g1, hg1⟩ : ∃ n, n = sv.length := ⟨_, rfl⟩
  rw [← hg1] at he ho1
  clear hg1
  subst he
  have V1 := hide (show Strs (w1.alloc (.cells #[.bool sm, .bool sn, .bool sq, .slice x1 g1 y1, .int .i64 slo, .int .i64 shi] 24)) (.slice x1 g1 y1) sv from (Own.strs ho1).below (box_below _))
  have B1 := hide (chain (chain (unhide B0) hw1) (box_below (.cells #[.bool sm, .bool sn, .bool sq, .slice x1 g1 y1, .int .i64 slo, .int .i64 shi] 24)))
  have X1 := hide (six_new w1 (.bool sm) (.bool sn) (.bool sq) (.slice x1 g1 y1) (.int .i64 slo) (.int .i64 shi) 24)
  have F1 := hide (((unhide F0).below hw1).below (box_below (.cells #[.bool sm, .bool sn, .bool sq, .slice x1 g1 y1, .int .i64 slo, .int .i64 shi] 24)))
  clear hw1 ho1 B0 F0
  by_cases hse : se = 0
  rotate_left
  · have ht : (se != 0) = true := bne_iff_ne.2 hse
    have hzero : Hid ((⟨sm, sn, sq, sv, slo, shi⟩ : VSet) = zeroS) := by
      show _ = _
      by_cases hw0 : wrongR ⟨key.data.toList, op, l, z⟩ = 0
      · have := unhide GR
        rw [ofR_good hw0] at this
        exact absurd (congrArg Prod.snd this) hse
      · have := unhide GR
        rw [ofR_bad hw0] at this
        exact congrArg Prod.fst this
    clear hse
    go_wp2_with fail
    refine (live_any _ ((unhide HL).below (unhide B1))).mono ?_
    rintro e w2 ⟨rfl, hw2⟩
    have B2 := hide (chain (unhide B1) hw2)
    have X2 := hide ((unhide X1).below hw2)
    have V2 := hide ((unhide V1).below hw2)
    clear hw2 B1 X1 V1
    obtain ⟨b0, b1, b2, b3, b4, b5⟩ := unhide X2
    go_wp2_with fail
    refine (same_any sm sn sq _ sv slo shi false false false _ [] 0 0 _ (unhide V2) (strs_nil _)).mono ?_
    clear b0 b1 b2 b3 b4 b5
    rintro e w3 ⟨he, hw3⟩
    rw [unhide hzero, (same_iff zeroS ⟨false, false, false, [], 0, 0⟩).2 rfl] at he
    subst he
    have B3 := hide (chain (unhide B2) hw3)
    clear hw3 B2
    go_wp2_with fail
    go_ret
    exact ⟨rfl, unhide B3⟩
  subst hse
  have hw0 : Hid (wrongR ⟨key.data.toList, op, l, z⟩ = 0) := by
    show _ = _
    apply Classical.byContradiction
    intro hw0
    have := unhide GR
    rw [ofR_bad hw0] at this
    exact hw0 (congrArg Prod.snd this).symm
  have hset : Hid ((⟨sm, sn, sq, sv, slo, shi⟩ : VSet) = ofSet ⟨key.data.toList, op, l, z⟩) := by
    have := unhide GR
    rw [ofR_good (unhide hw0)] at this
    exact congrArg Prod.fst this
  obtain ⟨hck, hmi, hhas⟩ := of_spec (unhide hw0)
  rw [← unhide hset] at hck hmi hhas
  have HCK := hide hck
  have HMI := hide hmi
  have HHAS := hide hhas
  have hop6 : 1 ≤ op ∧ op ≤ 6 := ⟨(wrong_ok (unhide hw0)).1, (wrong_ok (unhide hw0)).2.1⟩
  clear hck hmi hhas hset hw0 GR
  obtain ⟨inn, hin⟩ : ∃ q, q = l.contains v.data.toList := ⟨_, rfl⟩
  have HIN := hide hin
  clear hin
  obtain ⟨W1, hW1⟩ : ∃ W, W = w1.alloc (.cells #[.bool sm, .bool sn, .bool sq, .slice x1 g1 y1, .int .i64 slo, .int .i64 shi] 24) := ⟨_, rfl⟩
  rw [← hW1] at V1 B1 X1 F1
  have GW := hide hW1
  clear hW1
  go_wp2_with fail
  rw [← unhide GW]
  go_loop [7, 8] (fun t i => ∃ j : Nat, j ≤ k ∧ i = .int .i64 j ∧ t = .bool ((l.take j).contains v.data.toList)) (fun _ i => k - (intOf i).toNat)
  case atStart => exact ⟨0, Nat.zero_le _, rfl, rfl⟩
  case round =>
    obtain ⟨j, hj, rfl, rfl⟩ := hrel
    obtain ⟨f0, f1, f2, f3⟩ := unhide F1
    by_cases hlt : j < k
    · have hlj : j < l.length := by rw [← unhide HN]; exact hlt
      obtain ⟨bb, oo, ha, hcell⟩ : ∃ b o, a = some ⟨b, o, none⟩ ∧ w.cell? ⟨b, o + j, none⟩ = some (.string (bytesT l[j])) := by
        rcases unhide HOP with ⟨_, _, hnil, _⟩ | ⟨bb, oo, _, _, hslice, hcell⟩
        · rw [hnil] at hlj; exact absurd hlj (Nat.not_lt_zero _)
        · exact ⟨bb, oo, by injection hslice, hcell j hlj⟩
      subst ha
      have hc := cell_kept (unhide B1) hcell
      have hnx := hide (any_next l v.data.toList j hlj)
      have hq := eq_txt l[j] v
      obtain ⟨X, hX⟩ : ∃ X, X = bytesT l[j] := ⟨_, rfl⟩
      rw [← hX] at hc hq
      obtain ⟨p, hp⟩ : ∃ p, p = (l.take j).contains v.data.toList := ⟨_, rfl⟩
      obtain ⟨q, hqq⟩ : ∃ q, q = (l[j] == v.data.toList) := ⟨_, rfl⟩
      rw [← hp, ← hqq] at hnx
      rw [← hqq] at hq
      rw [← hp]
      clear hX hp hqq hlj hcell
      cases p
      · go_wp2_with fail
        go_round
        case rel => exact ⟨j + 1, by omega, by go_num, by rw [unhide hnx]; simp⟩
        case measure => simp [intOf]; omega
      · go_wp2_with fail
        go_round
        case rel => exact ⟨j + 1, by omega, by go_num, by rw [unhide hnx]; simp⟩
        case measure => simp [intOf]; omega
    · obtain rfl : j = k := by omega
      rw [List.take_of_length_le (by rw [← unhide HN]; exact Nat.le_refl _), ← unhide HIN]
      clear HOP
      go_wp2_with fail
      refine (number_any v _ (unhide1 HV) ((unhide HL).below (unhide B1))).mono ?_
      rintro e w2 ⟨he, hw2⟩
      obtain ⟨nn, hnn⟩ : ∃ r, r = numR v.data.toList := ⟨_, rfl⟩
      rw [← hnn] at he
      have GN := hide hnn
      clear hnn
      subst he
      have B2 := hide (chain (unhide B1) hw2)
      have X2 := hide ((unhide X1).below hw2)
      have V2 := hide ((unhide V1).below hw2)
      have F2 := hide ((unhide F1).below hw2)
      clear hw2 B1 X1 V1 F1 f0 f1 f2 f3
      obtain ⟨zn, zb⟩ := nn
      go_wp2_with fail
      refine (value_any v _ (unhide1 HV) ((unhide HL).below (unhide B2))).mono ?_
      rintro e w3 ⟨he, hw3⟩
      obtain ⟨vb, hvb⟩ : ∃ r, r = valueB v.data.toList := ⟨_, rfl⟩
      rw [← hvb] at he
      have GV := hide hvb
      clear hvb
      subst he
      have B3 := hide (chain (unhide B2) hw3)
      have X3 := hide ((unhide X2).below hw3)
      have V3 := hide ((unhide V2).below hw3)
      have F3 := hide ((unhide F2).below hw3)
      clear hw3 B2 X2 V2 F2
      have hwant : Hid (hasB ⟨sm, sn, sq, sv, slo, shi⟩ v.data.toList = wantOf op inn vb zb zn z) := by
        show _ = _
        rw [unhide HHAS, want_eq, ← unhide GN, ← unhide GV, ← unhide HIN]
      obtain ⟨f0, f1, f2, f3⟩ := unhide F3
      have hsm : Hid (sm = decide (op = 2 ∨ op = 4)) := unhide HMI
      have hcases : op = 1 ∨ op = 2 ∨ op = 3 ∨ op = 4 ∨ op = 5 ∨ op = 6 := by omega
      clear hop6
      rcases hcases with rfl | rfl | rfl | rfl | rfl | rfl
      · obtain rfl : sm = false := (unhide hsm).trans (by decide)
        have hw2 : Hid (hasB ⟨false, sn, sq, sv, slo, shi⟩ v.data.toList = inn) := (unhide hwant).trans (by first | rfl | simp [wantOf])
        clear hwant hsm
        go_wp2_with fail
        refine (live_any _ ((unhide HL).below (unhide B3))).mono ?_
        rintro e w4 ⟨rfl, hw4⟩
        have B4 := hide (chain (unhide B3) hw4)
        have X4 := hide ((unhide X3).below hw4)
        have V4 := hide ((unhide V3).below hw4)
        clear hw4 f0 f1 f2 f3 B3 X3 V3 F3
        obtain ⟨b0, b1, b2, b3, b4, b5⟩ := unhide X4
        go_wp2_with fail
        rw [show v = bytesT v.data.toList from (bytes_ext rfl)]
        refine (has_any false sn sq _ sv slo shi v.data.toList _ ((unhide HL).below (unhide B4)) (unhide V4) (by have := unhide1 HV; rw [size_list] at this; exact this)).mono ?_
        clear b0 b1 b2 b3 b4 b5
        rintro e w5 ⟨he, hw5⟩
        rw [unhide hw2] at he
        subst he
        have B5 := hide (chain (unhide B4) hw5)
        have X5 := hide ((unhide X4).below hw5)
        have V5 := hide ((unhide V4).below hw5)
        clear hw5 B4 X4 V4
        obtain ⟨b0, b1, b2, b3, b4, b5⟩ := unhide X5
        go_wp2_with fail
        refine (check_any false sn sq _ sv slo shi _ ((unhide HL).below (unhide B5)) (unhide V5)).mono ?_
        clear b0 b1 b2 b3 b4 b5
        rintro e w6 ⟨he, hw6⟩
        rw [unhide HCK, show errC true = 0 from rfl] at he
        subst he
        have B6 := hide (chain (unhide B5) hw6)
        clear hw6 B5 X5 V5
        go_wp2_with fail
        go_ret
        exact ⟨by first | rfl | simp, unhide B6⟩
      · cases vb
        · obtain rfl : sm = true := (unhide hsm).trans (by decide)
          have hw2 : Hid (hasB ⟨true, sn, sq, sv, slo, shi⟩ v.data.toList = false) := (unhide hwant).trans (by first | rfl | simp [wantOf])
          clear hwant hsm
          go_wp2_with fail
          refine (live_any _ ((unhide HL).below (unhide B3))).mono ?_
          rintro e w4 ⟨rfl, hw4⟩
          have B4 := hide (chain (unhide B3) hw4)
          have X4 := hide ((unhide X3).below hw4)
          have V4 := hide ((unhide V3).below hw4)
          clear hw4 f0 f1 f2 f3 B3 X3 V3 F3
          obtain ⟨b0, b1, b2, b3, b4, b5⟩ := unhide X4
          go_wp2_with fail
          rw [show v = bytesT v.data.toList from (bytes_ext rfl)]
          refine (has_any true sn sq _ sv slo shi v.data.toList _ ((unhide HL).below (unhide B4)) (unhide V4) (by have := unhide1 HV; rw [size_list] at this; exact this)).mono ?_
          clear b0 b1 b2 b3 b4 b5
          rintro e w5 ⟨he, hw5⟩
          rw [unhide hw2] at he
          subst he
          have B5 := hide (chain (unhide B4) hw5)
          have X5 := hide ((unhide X4).below hw5)
          have V5 := hide ((unhide V4).below hw5)
          clear hw5 B4 X4 V4
          obtain ⟨b0, b1, b2, b3, b4, b5⟩ := unhide X5
          go_wp2_with fail
          refine (check_any true sn sq _ sv slo shi _ ((unhide HL).below (unhide B5)) (unhide V5)).mono ?_
          clear b0 b1 b2 b3 b4 b5
          rintro e w6 ⟨he, hw6⟩
          rw [unhide HCK, show errC true = 0 from rfl] at he
          subst he
          have B6 := hide (chain (unhide B5) hw6)
          clear hw6 B5 X5 V5
          go_wp2_with fail
          go_ret
          exact ⟨by first | rfl | simp, unhide B6⟩
        · obtain rfl : sm = true := (unhide hsm).trans (by decide)
          have hw2 : Hid (hasB ⟨true, sn, sq, sv, slo, shi⟩ v.data.toList = !inn) := (unhide hwant).trans (by first | rfl | simp [wantOf])
          clear hwant hsm
          go_wp2_with fail
          refine (live_any _ ((unhide HL).below (unhide B3))).mono ?_
          rintro e w4 ⟨rfl, hw4⟩
          have B4 := hide (chain (unhide B3) hw4)
          have X4 := hide ((unhide X3).below hw4)
          have V4 := hide ((unhide V3).below hw4)
          clear hw4 f0 f1 f2 f3 B3 X3 V3 F3
          obtain ⟨b0, b1, b2, b3, b4, b5⟩ := unhide X4
          go_wp2_with fail
          rw [show v = bytesT v.data.toList from (bytes_ext rfl)]
          refine (has_any true sn sq _ sv slo shi v.data.toList _ ((unhide HL).below (unhide B4)) (unhide V4) (by have := unhide1 HV; rw [size_list] at this; exact this)).mono ?_
          clear b0 b1 b2 b3 b4 b5
          rintro e w5 ⟨he, hw5⟩
          rw [unhide hw2] at he
          subst he
          have B5 := hide (chain (unhide B4) hw5)
          have X5 := hide ((unhide X4).below hw5)
          have V5 := hide ((unhide V4).below hw5)
          clear hw5 B4 X4 V4
          obtain ⟨b0, b1, b2, b3, b4, b5⟩ := unhide X5
          go_wp2_with fail
          refine (check_any true sn sq _ sv slo shi _ ((unhide HL).below (unhide B5)) (unhide V5)).mono ?_
          clear b0 b1 b2 b3 b4 b5
          rintro e w6 ⟨he, hw6⟩
          rw [unhide HCK, show errC true = 0 from rfl] at he
          subst he
          have B6 := hide (chain (unhide B5) hw6)
          clear hw6 B5 X5 V5
          go_wp2_with fail
          go_ret
          exact ⟨by first | rfl | simp, unhide B6⟩
      · obtain rfl : sm = false := (unhide hsm).trans (by decide)
        have hw2 : Hid (hasB ⟨false, sn, sq, sv, slo, shi⟩ v.data.toList = vb) := (unhide hwant).trans (by first | rfl | simp [wantOf])
        clear hwant hsm
        go_wp2_with fail
        refine (live_any _ ((unhide HL).below (unhide B3))).mono ?_
        rintro e w4 ⟨rfl, hw4⟩
        have B4 := hide (chain (unhide B3) hw4)
        have X4 := hide ((unhide X3).below hw4)
        have V4 := hide ((unhide V3).below hw4)
        clear hw4 f0 f1 f2 f3 B3 X3 V3 F3
        obtain ⟨b0, b1, b2, b3, b4, b5⟩ := unhide X4
        go_wp2_with fail
        rw [show v = bytesT v.data.toList from (bytes_ext rfl)]
        refine (has_any false sn sq _ sv slo shi v.data.toList _ ((unhide HL).below (unhide B4)) (unhide V4) (by have := unhide1 HV; rw [size_list] at this; exact this)).mono ?_
        clear b0 b1 b2 b3 b4 b5
        rintro e w5 ⟨he, hw5⟩
        rw [unhide hw2] at he
        subst he
        have B5 := hide (chain (unhide B4) hw5)
        have X5 := hide ((unhide X4).below hw5)
        have V5 := hide ((unhide V4).below hw5)
        clear hw5 B4 X4 V4
        obtain ⟨b0, b1, b2, b3, b4, b5⟩ := unhide X5
        go_wp2_with fail
        refine (check_any false sn sq _ sv slo shi _ ((unhide HL).below (unhide B5)) (unhide V5)).mono ?_
        clear b0 b1 b2 b3 b4 b5
        rintro e w6 ⟨he, hw6⟩
        rw [unhide HCK, show errC true = 0 from rfl] at he
        subst he
        have B6 := hide (chain (unhide B5) hw6)
        clear hw6 B5 X5 V5
        go_wp2_with fail
        go_ret
        exact ⟨by first | rfl | simp, unhide B6⟩
      · obtain rfl : sm = true := (unhide hsm).trans (by decide)
        have hw2 : Hid (hasB ⟨true, sn, sq, sv, slo, shi⟩ v.data.toList = false) := (unhide hwant).trans (by first | rfl | simp [wantOf])
        clear hwant hsm
        go_wp2_with fail
        refine (live_any _ ((unhide HL).below (unhide B3))).mono ?_
        rintro e w4 ⟨rfl, hw4⟩
        have B4 := hide (chain (unhide B3) hw4)
        have X4 := hide ((unhide X3).below hw4)
        have V4 := hide ((unhide V3).below hw4)
        clear hw4 f0 f1 f2 f3 B3 X3 V3 F3
        obtain ⟨b0, b1, b2, b3, b4, b5⟩ := unhide X4
        go_wp2_with fail
        rw [show v = bytesT v.data.toList from (bytes_ext rfl)]
        refine (has_any true sn sq _ sv slo shi v.data.toList _ ((unhide HL).below (unhide B4)) (unhide V4) (by have := unhide1 HV; rw [size_list] at this; exact this)).mono ?_
        clear b0 b1 b2 b3 b4 b5
        rintro e w5 ⟨he, hw5⟩
        rw [unhide hw2] at he
        subst he
        have B5 := hide (chain (unhide B4) hw5)
        have X5 := hide ((unhide X4).below hw5)
        have V5 := hide ((unhide V4).below hw5)
        clear hw5 B4 X4 V4
        obtain ⟨b0, b1, b2, b3, b4, b5⟩ := unhide X5
        go_wp2_with fail
        refine (check_any true sn sq _ sv slo shi _ ((unhide HL).below (unhide B5)) (unhide V5)).mono ?_
        clear b0 b1 b2 b3 b4 b5
        rintro e w6 ⟨he, hw6⟩
        rw [unhide HCK, show errC true = 0 from rfl] at he
        subst he
        have B6 := hide (chain (unhide B5) hw6)
        clear hw6 B5 X5 V5
        go_wp2_with fail
        go_ret
        exact ⟨by first | rfl | simp, unhide B6⟩
      · cases zb
        · obtain rfl : sm = false := (unhide hsm).trans (by decide)
          have hw2 : Hid (hasB ⟨false, sn, sq, sv, slo, shi⟩ v.data.toList = false) := (unhide hwant).trans (by first | rfl | simp [wantOf])
          clear hwant hsm
          go_wp2_with fail
          refine (live_any _ ((unhide HL).below (unhide B3))).mono ?_
          rintro e w4 ⟨rfl, hw4⟩
          have B4 := hide (chain (unhide B3) hw4)
          have X4 := hide ((unhide X3).below hw4)
          have V4 := hide ((unhide V3).below hw4)
          clear hw4 f0 f1 f2 f3 B3 X3 V3 F3
          obtain ⟨b0, b1, b2, b3, b4, b5⟩ := unhide X4
          go_wp2_with fail
          rw [show v = bytesT v.data.toList from (bytes_ext rfl)]
          refine (has_any false sn sq _ sv slo shi v.data.toList _ ((unhide HL).below (unhide B4)) (unhide V4) (by have := unhide1 HV; rw [size_list] at this; exact this)).mono ?_
          clear b0 b1 b2 b3 b4 b5
          rintro e w5 ⟨he, hw5⟩
          rw [unhide hw2] at he
          subst he
          have B5 := hide (chain (unhide B4) hw5)
          have X5 := hide ((unhide X4).below hw5)
          have V5 := hide ((unhide V4).below hw5)
          clear hw5 B4 X4 V4
          obtain ⟨b0, b1, b2, b3, b4, b5⟩ := unhide X5
          go_wp2_with fail
          refine (check_any false sn sq _ sv slo shi _ ((unhide HL).below (unhide B5)) (unhide V5)).mono ?_
          clear b0 b1 b2 b3 b4 b5
          rintro e w6 ⟨he, hw6⟩
          rw [unhide HCK, show errC true = 0 from rfl] at he
          subst he
          have B6 := hide (chain (unhide B5) hw6)
          clear hw6 B5 X5 V5
          go_wp2_with fail
          go_ret
          exact ⟨by first | rfl | simp, unhide B6⟩
        · obtain rfl : sm = false := (unhide hsm).trans (by decide)
          have hw2 : Hid (hasB ⟨false, sn, sq, sv, slo, shi⟩ v.data.toList = decide (z < zn)) := (unhide hwant).trans (by first | rfl | simp [wantOf])
          clear hwant hsm
          go_wp2_with fail
          refine (live_any _ ((unhide HL).below (unhide B3))).mono ?_
          rintro e w4 ⟨rfl, hw4⟩
          have B4 := hide (chain (unhide B3) hw4)
          have X4 := hide ((unhide X3).below hw4)
          have V4 := hide ((unhide V3).below hw4)
          clear hw4 f0 f1 f2 f3 B3 X3 V3 F3
          obtain ⟨b0, b1, b2, b3, b4, b5⟩ := unhide X4
          go_wp2_with fail
          rw [show v = bytesT v.data.toList from (bytes_ext rfl)]
          refine (has_any false sn sq _ sv slo shi v.data.toList _ ((unhide HL).below (unhide B4)) (unhide V4) (by have := unhide1 HV; rw [size_list] at this; exact this)).mono ?_
          clear b0 b1 b2 b3 b4 b5
          rintro e w5 ⟨he, hw5⟩
          rw [unhide hw2] at he
          subst he
          have B5 := hide (chain (unhide B4) hw5)
          have X5 := hide ((unhide X4).below hw5)
          have V5 := hide ((unhide V4).below hw5)
          clear hw5 B4 X4 V4
          obtain ⟨b0, b1, b2, b3, b4, b5⟩ := unhide X5
          go_wp2_with fail
          refine (check_any false sn sq _ sv slo shi _ ((unhide HL).below (unhide B5)) (unhide V5)).mono ?_
          clear b0 b1 b2 b3 b4 b5
          rintro e w6 ⟨he, hw6⟩
          rw [unhide HCK, show errC true = 0 from rfl] at he
          subst he
          have B6 := hide (chain (unhide B5) hw6)
          clear hw6 B5 X5 V5
          go_wp2_with fail
          go_ret
          exact ⟨by first | rfl | simp, unhide B6⟩
      · cases zb
        · obtain rfl : sm = false := (unhide hsm).trans (by decide)
          have hw2 : Hid (hasB ⟨false, sn, sq, sv, slo, shi⟩ v.data.toList = false) := (unhide hwant).trans (by first | rfl | simp [wantOf])
          clear hwant hsm
          go_wp2_with fail
          refine (live_any _ ((unhide HL).below (unhide B3))).mono ?_
          rintro e w4 ⟨rfl, hw4⟩
          have B4 := hide (chain (unhide B3) hw4)
          have X4 := hide ((unhide X3).below hw4)
          have V4 := hide ((unhide V3).below hw4)
          clear hw4 f0 f1 f2 f3 B3 X3 V3 F3
          obtain ⟨b0, b1, b2, b3, b4, b5⟩ := unhide X4
          go_wp2_with fail
          rw [show v = bytesT v.data.toList from (bytes_ext rfl)]
          refine (has_any false sn sq _ sv slo shi v.data.toList _ ((unhide HL).below (unhide B4)) (unhide V4) (by have := unhide1 HV; rw [size_list] at this; exact this)).mono ?_
          clear b0 b1 b2 b3 b4 b5
          rintro e w5 ⟨he, hw5⟩
          rw [unhide hw2] at he
          subst he
          have B5 := hide (chain (unhide B4) hw5)
          have X5 := hide ((unhide X4).below hw5)
          have V5 := hide ((unhide V4).below hw5)
          clear hw5 B4 X4 V4
          obtain ⟨b0, b1, b2, b3, b4, b5⟩ := unhide X5
          go_wp2_with fail
          refine (check_any false sn sq _ sv slo shi _ ((unhide HL).below (unhide B5)) (unhide V5)).mono ?_
          clear b0 b1 b2 b3 b4 b5
          rintro e w6 ⟨he, hw6⟩
          rw [unhide HCK, show errC true = 0 from rfl] at he
          subst he
          have B6 := hide (chain (unhide B5) hw6)
          clear hw6 B5 X5 V5
          go_wp2_with fail
          go_ret
          exact ⟨by first | rfl | simp, unhide B6⟩
        · obtain rfl : sm = false := (unhide hsm).trans (by decide)
          have hw2 : Hid (hasB ⟨false, sn, sq, sv, slo, shi⟩ v.data.toList = decide (zn < z)) := (unhide hwant).trans (by first | rfl | simp [wantOf])
          clear hwant hsm
          go_wp2_with fail
          refine (live_any _ ((unhide HL).below (unhide B3))).mono ?_
          rintro e w4 ⟨rfl, hw4⟩
          have B4 := hide (chain (unhide B3) hw4)
          have X4 := hide ((unhide X3).below hw4)
          have V4 := hide ((unhide V3).below hw4)
          clear hw4 f0 f1 f2 f3 B3 X3 V3 F3
          obtain ⟨b0, b1, b2, b3, b4, b5⟩ := unhide X4
          go_wp2_with fail
          rw [show v = bytesT v.data.toList from (bytes_ext rfl)]
          refine (has_any false sn sq _ sv slo shi v.data.toList _ ((unhide HL).below (unhide B4)) (unhide V4) (by have := unhide1 HV; rw [size_list] at this; exact this)).mono ?_
          clear b0 b1 b2 b3 b4 b5
          rintro e w5 ⟨he, hw5⟩
          rw [unhide hw2] at he
          subst he
          have B5 := hide (chain (unhide B4) hw5)
          have X5 := hide ((unhide X4).below hw5)
          have V5 := hide ((unhide V4).below hw5)
          clear hw5 B4 X4 V4
          obtain ⟨b0, b1, b2, b3, b4, b5⟩ := unhide X5
          go_wp2_with fail
          refine (check_any false sn sq _ sv slo shi _ ((unhide HL).below (unhide B5)) (unhide V5)).mono ?_
          clear b0 b1 b2 b3 b4 b5
          rintro e w6 ⟨he, hw6⟩
          rw [unhide HCK, show errC true = 0 from rfl] at he
          subst he
          have B6 := hide (chain (unhide B5) hw6)
          clear hw6 B5 X5 V5
          go_wp2_with fail
          go_ret
          exact ⟨by first | rfl | simp, unhide B6⟩

end Go.Proofs.YtkeibapcfbajjabDoor.valsetAdmits
