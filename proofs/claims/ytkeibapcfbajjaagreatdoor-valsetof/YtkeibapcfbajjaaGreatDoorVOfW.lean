/- The walk of ValsetOf. -/
import Derived.Test.YtkeibapcfbajjaaGreatDoorV3RO
import Derived.Test.YtkeibapcfbajjaaGreatDoorV3OW
import Derived.Test.YtkeibapcfbajjaaGreatDoorV3UB
namespace Go.Proofs.YtkeibapcfbajjaaGreatDoor.valsetOf
open Go.RowKit Suf Val Go.Maps

theorem c3_next {V W W' : World} {p0 p1 p2 : Addr} {v0 v1 v2 : Value} (h : Hid (Below V.heap.size V W) ∧ W.cell? p0 = some v0 ∧ W.cell? p1 = some v1 ∧ W.cell? p2 = some v2) (hb : Below W.heap.size W W') : Hid (Below V.heap.size V W') ∧ W'.cell? p0 = some v0 ∧ W'.cell? p1 = some v1 ∧ W'.cell? p2 = some v2 :=
  ⟨chain (unhide h.1) hb, cell_kept hb (h.2.1), cell_kept hb (h.2.2.1), cell_kept hb (h.2.2.2)⟩
theorem c3_drew {V W : World} {p0 p1 p2 : Addr} {v0 v1 v2 : Value} (h : Hid (Below V.heap.size V W) ∧ W.cell? p0 = some v0 ∧ W.cell? p1 = some v1 ∧ W.cell? p2 = some v2) : Hid (Below V.heap.size V W.drew) ∧ W.drew.cell? p0 = some v0 ∧ W.drew.cell? p1 = some v1 ∧ W.drew.cell? p2 = some v2 :=
  ⟨(unhide h.1).drew, h.2.1, h.2.2.1, h.2.2.2⟩

theorem Four.other {w w' : World} {r : Option Nat} {B : Nat} {a b c d : Value} (h : Four w B a b c d) (hg : w.grownBy w' r) (hne : ∀ k, r = some k → B ≠ k) : Four w' B a b c d :=
  ⟨cell_other hg h.1 hne, cell_other hg h.2.1 hne, cell_other hg h.2.2.1 hne, cell_other hg h.2.2.2 hne⟩
theorem eq_txts (s t : Txt) : ((bytesT s).toList == (bytesT t).toList) = (s == t) := by rw [Lib.toList_data, Lib.toList_data]; rfl
set_option maxRecDepth 100000 in
set_option maxHeartbeats 8000000 in
theorem walk (key : ByteArray) (op : Int) (u : Value) (l : List Txt) (z : Int) (w : World) (hu : Strs w u l) (hl : l.length ≤ 8796093022208) (hkey : key.size ≤ maxLen) (hL : Laid w) :
    Calls Tryz.prog 3 #[.agg #[.string key, .int .i64 op, u, .int .i64 z]] w fun e w' => e = .returned (.bool true) ∧ Below w.heap.size w w' := by
  have HL := hide hL
  have U := hide hu
  have HK := hide hkey
  have HLL := hide hl
  obtain ⟨a, c, rfl⟩ := hu.val
  have hlen := hu.len
  clear hL hkey hu hl
  obtain ⟨k, hk⟩ : ∃ n, n = l.length := ⟨_, rfl⟩
  rw [← hk] at U hlen ⊢
  have HN := hide hk
  clear hk
  obtain ⟨W0, hW0⟩ : ∃ W0, W0 = w.alloc (.cells #[.string key, .int .i64 op, .slice a k c, .int .i64 z] 24) := ⟨_, rfl⟩
  have B0 : Hid (Below w.heap.size w W0) := by rw [hW0]; exact box_below _
  have F0 : Hid (Four W0 w.heap.size (.string key) (.int .i64 op) (.slice a k c) (.int .i64 z)) := by rw [hW0]; exact four_new _ _ _ _ _ _
  have Z0 : Hid (W0.heap.size = w.heap.size + 1) := by rw [hW0]; show _ = _; simp
  have GW := hide hW0
  clear hW0
  obtain ⟨R, hR⟩ : ∃ r, r = ofR ⟨key.data.toList, op, l, z⟩ := ⟨_, rfl⟩
  have GR := hide hR
  clear hR
  obtain ⟨⟨sm, sn, sq, sv, slo, shi⟩, se⟩ := R
  obtain ⟨f0, f1, f2, f3⟩ := unhide F0
  go_enter Tryz.func3, Tryz.ntmps3
  rw [unhide GW] at f0 f1 f2 f3
  go_wp2_with (at_builtin; (rw [← unhide GW] at f0 f1 f2 f3 ⊢; refine wpList_append_strs rfl _ _ rfl (w.heap.size + 1) (.slice (some ⟨w.heap.size + 1, 0, none⟩) 0 0) [] rfl (by have := own_empty W0; rw [unhide Z0] at this; exact this) _ l rfl (((unhide U).below (unhide B0)).below (box_below _)) (by have := unhide HLL; simp; omega) (by have := unhide Z0; simp; omega) ?_; intro v1 w1 hown1 hg1; have OW1 := hide hown1; have hbl := (own_block (show Own (W0.alloc (.cells #[] 9)) (w.heap.size + 1) (.slice (some ⟨w.heap.size + 1, 0, none⟩) 0 0) [] from (by have := own_empty W0; rw [unhide Z0] at this; exact this))); have B1 := hide ((chain (unhide B0) (box_below (.cells #[] 9))).grown hg1 (chain (unhide B0) (box_below (.cells #[] 9))).size (fun k hk => Nat.le_trans (Nat.le_succ _) (hbl k hk).1)); have F1 := hide (Four.other ((unhide F0).below (box_below (.cells #[] 9))) hg1 (fun k hk e => by have := (hbl k hk).1; omega)); clear hown1 hg1 hbl f0 f1 f2 f3; obtain ⟨g0, g1, g2, g3⟩ := unhide F1))
  rw [List.nil_append] at OW1
  refine (of_any key op _ l z _ ((unhide HL).below (unhide B1)) ((unhide U).below (unhide B1)) (unhide HK)).mono ?_
  rintro e w2 ⟨x2, y2, he, ho2, hw2⟩
  rw [← unhide GR] at he ho2
  unfold tells at he
  simp only at he ho2
  obtain ⟨n2, hn2⟩ : ∃ n, n = sv.length := ⟨_, rfl⟩
  rw [← hn2] at he ho2
  have HN2 := hide hn2
  have hn2b : n2 ≤ 17592186044416 := by rw [hn2]; exact ho2.2.2
  clear hn2
  subst he
  obtain ⟨W2, hW2⟩ : ∃ W, W = w2.alloc (.cells #[.bool sm, .bool sn, .bool sq, .slice x2 n2 y2, .int .i64 slo, .int .i64 shi] 26) := ⟨_, rfl⟩
  have bV2 : Hid (Below w1.heap.size w1 W2) := by rw [hW2]; exact chain hw2 (box_below _)
  have O2 : Hid (Own W2 w1.heap.size (.slice x2 n2 y2) sv) := by rw [hW2]; exact ho2.below (box_below _)
  have X2 : Hid (Six W2 w2.heap.size (.bool sm) (.bool sn) (.bool sq) (.slice x2 n2 y2) (.int .i64 slo) (.int .i64 shi)) := by rw [hW2]; exact six_new _ _ _ _ _ _ _ _
  have Z2 : Hid (∀ k, (Value.slice x2 n2 y2).ownBlock = some k → k < w2.heap.size) := fun k hk => (own_block ho2 k hk).2
  have GW2 := hide hW2
  clear hW2 hw2 ho2
  have B2 := hide (chain (unhide B1) (unhide bV2))
  have F2 := hide ((unhide F1).below (unhide bV2))
  have OW2 := hide ((unhide OW1).below (unhide bV2))
  clear g0 g1 g2 g3
  obtain ⟨g0, g1, g2, g3⟩ := unhide F2
  rw [unhide GW2] at g0 g1 g2 g3
  have hcap1 := hide (unhide OW1).capd
  have hst1 := hide (unhide OW2).strs
  obtain ⟨va, vc, hve⟩ := (unhide OW1).strs.val
  rw [← unhide HN] at hve
  subst hve
  go_wp2_with fail
  rw [← unhide GW2] at g0 g1 g2 g3 ⊢
  refine (rof_any key op _ l z _ (unhide hst1) (unhide hcap1) (unhide HK)).mono ?_
  rintro e w3 ⟨x3, y3, he, ho3, hw3⟩
  rw [← unhide GR] at he ho3
  unfold tells at he
  simp only at he ho3
  rw [← unhide HN2] at he ho3
  subst he
  obtain ⟨W3, hW3⟩ : ∃ W, W = w3.alloc (.cells #[.bool sm, .bool sn, .bool sq, .slice x3 n2 y3, .int .i64 slo, .int .i64 shi] 26) := ⟨_, rfl⟩
  have bV3 : Hid (Below W2.heap.size W2 W3) := by rw [hW3]; exact chain hw3 (box_below _)
  have O3 : Hid (Strs W3 (.slice x3 n2 y3) sv) := by rw [hW3]; exact (Own.strs ho3).below (box_below _)
  have X3 : Hid (Six W3 w3.heap.size (.bool sm) (.bool sn) (.bool sq) (.slice x3 n2 y3) (.int .i64 slo) (.int .i64 shi)) := by rw [hW3]; exact six_new _ _ _ _ _ _ _ _
  have GW3 := hide hW3
  clear hW3 hw3 ho3 g0 g1 g2 g3
  have XA := hide ((unhide X2).below (unhide bV3))
  have OA := hide ((unhide O2).below (unhide bV3))
  obtain ⟨a0, a1, a2, a3, a4, a5⟩ := unhide XA
  obtain ⟨b0, b1, b2, b3, b4, b5⟩ := unhide X3
  rw [unhide GW3] at a0 a1 a2 a3 a4 a5 b0 b1 b2 b3 b4 b5
  go_wp2_with fail
  rw [← unhide GW3]
  refine (same_any sm sn sq _ sv slo shi sm sn sq _ sv slo shi _ (Own.strs (unhide OA)) (unhide O3)).mono ?_
  clear a0 a1 a2 a3 a4 a5 b0 b1 b2 b3 b4 b5
  rintro e w4 ⟨he, hw4⟩
  rw [(same_iff ⟨sm, sn, sq, sv, slo, shi⟩ ⟨sm, sn, sq, sv, slo, shi⟩).2 rfl] at he
  subst he
  have bV4 := hide (chain (chain (unhide bV2) (unhide bV3)) hw4)
  have O4 := hide ((unhide OA).below hw4)
  have X4 := hide ((unhide XA).below hw4)
  clear hw4 OA XA X3 O3 bV2 bV3 X2 O2 F2 OW2 hst1 hcap1 GW2 GW3 B2 GR
  go_wp2_with fail
  go_loopw [9] (fun i W => ∃ (j : Nat) (l' : List Txt), j ≤ n2 ∧ i = .int .i64 j ∧ Hid (l'.length = n2) ∧ Hid (Own W w1.heap.size (.slice x2 n2 y2) l') ∧ Hid (Six W w2.heap.size (.bool sm) (.bool sn) (.bool sq) (.slice x2 n2 y2) (.int .i64 slo) (.int .i64 shi)) ∧ Hid (Below w1.heap.size w1 W)) (fun i _ => n2 - (intOf i).toNat)
  case atStart => exact ⟨0, sv, Nat.zero_le _, rfl, (unhide HN2).symm, O4, X4, bV4⟩
  case round =>
    obtain ⟨j, l', hj, rfl, hl', hown, hsix, hbel⟩ := hrel
    clear O4 X4 bV4
    by_cases hlt : j < n2
    · obtain ⟨g, hx2⟩ : ∃ g, x2 = some ⟨g, 0, none⟩ := by
        rcases (unhide hown).val with ⟨_, h⟩ | ⟨g, c, h, _⟩
        · rw [h] at hl'; have := unhide hl'; simp at this; omega
        · injection h with h; exact ⟨g, h⟩
      subst hx2
      have hgb := own_block (unhide hown) g rfl
      have hg2 := unhide Z2 g rfl
      have hc : wr.cell? ⟨g, j, none⟩ = some (.string (bytesT (l'[j]'(by rw [unhide hl']; exact hlt)))) := by
        have := unhide hown
        rw [← unhide hl'] at this
        exact this.cellAt (by rw [unhide hl']; exact hlt)
      have hf : wr.frozen? ⟨g, j, none⟩ = false := by
        have := unhide hown
        rw [← unhide hl'] at this
        exact this.frozenAt j
      have O5 := hide ((unhide hown).stored j (t := [64]) (show short [64] by unfold short; simp))
      have X5 := hide ((unhide hsix).other (set_grown wr g j (.string (bytesT [64]))) (fun k hk e => by injection hk with hk; omega))
      have B5 := hide (grown_below (unhide hbel) (set_grown wr g j (.string (bytesT [64]))) hgb.1)
      have HG := hide hgb
      have HG2 := hide hg2
      obtain ⟨a0, a1, a2, a3, a4, a5⟩ := unhide hsix
      clear hgb hg2
      generalize (l'[j]'(by rw [unhide hl']; exact hlt)) = old at hc
      go_wp2_with fail
      go_roundw
      case rel => exact ⟨j + 1, l'.set j [64], by omega, by go_num, by show _ = _; rw [List.length_set]; exact unhide hl', O5, X5, B5⟩
      case measure => simp [intOf]; omega
    · obtain rfl : j = n2 := by omega
      clear hown hl' Z2
      obtain ⟨a0, a1, a2, a3, a4, a5⟩ := unhide hsix
      obtain ⟨W5, hW5⟩ : ∃ W, W = wr := ⟨_, rfl⟩
      have B5 : Hid (Below w1.heap.size w1 W5) := by rw [hW5]; exact unhide hbel
      have GW5 := hide hW5
      clear hW5 hbel
      go_wp2_with fail
      rw [← unhide GW5]
      clear a0 a1 a2 a3 a4 a5 hsix GW5
      go_loopw [10] (fun i W => ∃ j : Nat, j ≤ k ∧ i = .int .i64 j ∧ Hid (Below w1.heap.size w1 W)) (fun i _ => k - (intOf i).toNat)
      case atStart => exact ⟨0, Nat.zero_le _, rfl, B5⟩
      case round =>
        obtain ⟨j, hj, rfl, hbel⟩ := hrel
        by_cases hlt : j < k
        · have hlj : j < l.length := by rw [← unhide HN]; exact hlt
          obtain ⟨b1, o1, ha1, hd1⟩ : ∃ b o, va = some ⟨b, o, none⟩ ∧ w1.cell? ⟨b, o + j, none⟩ = some (.string (bytesT l[j])) := by
            rcases (unhide OW1).strs.open with ⟨_, _, hnil, _⟩ | ⟨bb, oo, _, _, hslice, hcell⟩
            · rw [hnil] at hlj; exact absurd hlj (Nat.not_lt_zero _)
            · exact ⟨bb, oo, by injection hslice, hcell j hlj⟩
          obtain ⟨b2, o2, ha2, hd2⟩ : ∃ b o, a = some ⟨b, o, none⟩ ∧ w1.cell? ⟨b, o + j, none⟩ = some (.string (bytesT l[j])) := by
            rcases ((unhide U).below (unhide B1)).open with ⟨_, _, hnil, _⟩ | ⟨bb, oo, _, _, hslice, hcell⟩
            · rw [hnil] at hlj; exact absurd hlj (Nat.not_lt_zero _)
            · exact ⟨bb, oo, by injection hslice, hcell j hlj⟩
          subst ha1 ha2
          have hc1 := cell_kept (unhide hbel) hd1
          have hc2 := cell_kept (unhide hbel) hd2
          have hc3 := cell_kept (unhide hbel) (unhide F1).2.2.1
          obtain ⟨X, hX⟩ : ∃ X, X = bytesT l[j] := ⟨_, rfl⟩
          rw [← hX] at hc1 hc2
          clear hX hd1 hd2 hlj
          have hS := And.intro (show Hid (Below wr.heap.size wr wr) from Below.refl _ _) (And.intro hc3 (And.intro hc1 hc2))
          have i0 : (0 : Int) ≤ (j : Int) := by omega
          have i1 : (j : Int) < (k : Int) := by omega
          clear hc1 hc2 hc3
          go_wp2_with fail
          go_region_held3 (fun W => Hid (Below wr.heap.size wr W) ∧ W.cell? ⟨w.heap.size, 2, none⟩ = some (.slice (some ⟨b2, o2, none⟩) k c) ∧ W.cell? ⟨b1, o1 + j, none⟩ = some (.string X) ∧ W.cell? ⟨b2, o2 + j, none⟩ = some (.string X))
            (first | (with_reducible exact hS) | (with_reducible assumption) | (with_reducible refine c3_drew ?_; with_reducible assumption))
            (fail)
          rename_i hH
          have B6 := hide (chain (unhide hbel) (unhide hH.1))
          clear hH hS
          go_wp2_with fail
          go_roundw
          case rel => exact ⟨j + 1, by omega, by go_num, B6⟩
          case measure => simp [intOf]; omega
        · obtain rfl : j = k := by omega
          have B6 := hide (chain (unhide B1) (unhide hbel))
          go_wp2_with fail
          refine (live_any _ ((unhide HL).below (unhide B6))).mono ?_
          rintro e w6 ⟨rfl, hw6⟩
          have B7 := hide (chain (unhide B6) hw6)
          clear hw6
          go_wp2_with fail
          go_ret
          exact ⟨rfl, unhide B7⟩

end Go.Proofs.YtkeibapcfbajjaaGreatDoor.valsetOf
