/- Layer 3: contract of the document's Meet. -/
import Derived.Test.YtnkcbmlobikjkaaGreatDoorV3LIG
import Derived.Test.YtnkcbmlobikjkaaGreatDoorV3QG
import Derived.Test.YtnkcbmlobikjkaaGreatDoorV3WRG
import Derived.Deep.DeepCutAuto
import Derived.Deep.CutRange
namespace Go.Proofs.YtnkcbmlobikjkaaGreatDoor
open Go.RowKit Suf Val Go.Maps

theorem Box6.set0' {w : World} {B : Nat} {a b c d e f : Value} (h : Box6 w B a b c d e f) (x : Value) : Box6 (w.setCell ⟨B, 0, none⟩ x) B x b c d e f := by
  obtain ⟨⟨h0, h1, h2, h3, h4, h5⟩, hf, hl⟩ := h
  refine ⟨⟨World.cell?_setCell_same _ _ _ h0, ?_, ?_, ?_, ?_, ?_⟩, fun o => by rw [World.frozen?_setCell]; exact hf o, by simpa using hl⟩
  all_goals
    rw [World.cell?_setCell_other _ _ _ _ (by simp)]; assumption
theorem Box6.set1' {w : World} {B : Nat} {a b c d e f : Value} (h : Box6 w B a b c d e f) (x : Value) : Box6 (w.setCell ⟨B, 1, none⟩ x) B a x c d e f := by
  obtain ⟨⟨h0, h1, h2, h3, h4, h5⟩, hf, hl⟩ := h
  refine ⟨⟨?_, World.cell?_setCell_same _ _ _ h1, ?_, ?_, ?_, ?_⟩, fun o => by rw [World.frozen?_setCell]; exact hf o, by simpa using hl⟩
  all_goals
    rw [World.cell?_setCell_other _ _ _ _ (by simp)]; assumption
theorem Box6.set2' {w : World} {B : Nat} {a b c d e f : Value} (h : Box6 w B a b c d e f) (x : Value) : Box6 (w.setCell ⟨B, 2, none⟩ x) B a b x d e f := by
  obtain ⟨⟨h0, h1, h2, h3, h4, h5⟩, hf, hl⟩ := h
  refine ⟨⟨?_, ?_, World.cell?_setCell_same _ _ _ h2, ?_, ?_, ?_⟩, fun o => by rw [World.frozen?_setCell]; exact hf o, by simpa using hl⟩
  all_goals
    rw [World.cell?_setCell_other _ _ _ _ (by simp)]; assumption
theorem Box6.set3' {w : World} {B : Nat} {a b c d e f : Value} (h : Box6 w B a b c d e f) (x : Value) : Box6 (w.setCell ⟨B, 3, none⟩ x) B a b c x e f := by
  obtain ⟨⟨h0, h1, h2, h3, h4, h5⟩, hf, hl⟩ := h
  refine ⟨⟨?_, ?_, ?_, World.cell?_setCell_same _ _ _ h3, ?_, ?_⟩, fun o => by rw [World.frozen?_setCell]; exact hf o, by simpa using hl⟩
  all_goals
    rw [World.cell?_setCell_other _ _ _ _ (by simp)]; assumption
theorem Box6.set4' {w : World} {B : Nat} {a b c d e f : Value} (h : Box6 w B a b c d e f) (x : Value) : Box6 (w.setCell ⟨B, 4, none⟩ x) B a b c d x f := by
  obtain ⟨⟨h0, h1, h2, h3, h4, h5⟩, hf, hl⟩ := h
  refine ⟨⟨?_, ?_, ?_, ?_, World.cell?_setCell_same _ _ _ h4, ?_⟩, fun o => by rw [World.frozen?_setCell]; exact hf o, by simpa using hl⟩
  all_goals
    rw [World.cell?_setCell_other _ _ _ _ (by simp)]; assumption
theorem Box6.set5' {w : World} {B : Nat} {a b c d e f : Value} (h : Box6 w B a b c d e f) (x : Value) : Box6 (w.setCell ⟨B, 5, none⟩ x) B a b c d e x := by
  obtain ⟨⟨h0, h1, h2, h3, h4, h5⟩, hf, hl⟩ := h
  refine ⟨⟨?_, ?_, ?_, ?_, ?_, World.cell?_setCell_same _ _ _ h5⟩, fun o => by rw [World.frozen?_setCell]; exact hf o, by simpa using hl⟩
  all_goals
    rw [World.cell?_setCell_other _ _ _ _ (by simp)]; assumption

theorem Box6.put {w : World} {B : Nat} {a b c d e f : Value} (h : Box6 w B a b c d e f) (a' b' c' d' e' f' : Value) : Box6 (put6 w B a' b' c' d' e' f') B a' b' c' d' e' f' :=
  (((((h.set0' a').set1' b').set2' c').set3' d').set4' e').set5' f'

set_option maxRecDepth 100000 in
set_option maxHeartbeats 16000000 in
theorem rmeet_any (am an aq : Bool) (u : Value) (l : List Txt) (alo ahi : Int) (bm bn bq : Bool) (v : Value) (m : List Txt) (blo bhi : Int) (w : World) (hu : Strs w u l) (hv : Strs w v m) :
    Calls Tryz.prog 34 #[.agg #[.bool am, .bool an, .bool aq, u, .int .i64 alo, .int .i64 ahi], .agg #[.bool bm, .bool bn, .bool bq, v, .int .i64 blo, .int .i64 bhi]] w fun e w' => setPost (meetR ⟨am, an, aq, l, alo, ahi⟩ ⟨bm, bn, bq, m, blo, bhi⟩) w e w' := by
  have HU := hide hu
  have HV := hide hv
  obtain ⟨a1, c1, rfl⟩ := hu.val
  obtain ⟨a2, c2, rfl⟩ := hv.val
  clear hu hv
  obtain ⟨n1, hn1⟩ : ∃ n, n = l.length := ⟨_, rfl⟩
  obtain ⟨n2, hn2⟩ : ∃ n, n = m.length := ⟨_, rfl⟩
  rw [← hn1] at HU ⊢
  rw [← hn2] at HV ⊢
  clear hn1 hn2
  obtain ⟨R, hR⟩ : ∃ R, R = meetR ⟨am, an, aq, l, alo, ahi⟩ ⟨bm, bn, bq, m, blo, bhi⟩ := ⟨_, rfl⟩
  rw [← hR]
  have HR := hide hR
  clear hR
  obtain ⟨qa, hqa⟩ : ∃ q, q = checkB ⟨am, an, aq, l, alo, ahi⟩ := ⟨_, rfl⟩
  obtain ⟨qb, hqb⟩ : ∃ q, q = checkB ⟨bm, bn, bq, m, blo, bhi⟩ := ⟨_, rfl⟩
  have QA := hide hqa
  have QB := hide hqb
  clear hqa hqb
  obtain ⟨W0, hW0⟩ : ∃ W0, W0 = (((w.alloc (.cells #[.bool am, .bool an, .bool aq, .slice a1 n1 c1, .int .i64 alo, .int .i64 ahi] 42)).alloc (.cells #[.bool bm, .bool bn, .bool bq, .slice a2 n2 c2, .int .i64 blo, .int .i64 bhi] 42)).alloc (.cells #[.bool false, .bool false, .bool false, .slice none 0 0, .int .i64 0, .int .i64 0] 42)) := ⟨_, rfl⟩
  have B0 : Hid (Below w.heap.size w W0) := by rw [hW0]; exact (((box_below _).alloc (by simp) _).alloc (by simp; omega) _)
  have A0 : Hid (Six W0 w.heap.size (.bool am) (.bool an) (.bool aq) (.slice a1 n1 c1) (.int .i64 alo) (.int .i64 ahi)) := by
    rw [hW0]; exact ((six_new w _ _ _ _ _ _ _).below (box_below _)).below (box_below _)
  have C0 : Hid (Six W0 (w.heap.size + 1) (.bool bm) (.bool bn) (.bool bq) (.slice a2 n2 c2) (.int .i64 blo) (.int .i64 bhi)) := by
    have := six_new (w.alloc (.cells #[.bool am, .bool an, .bool aq, .slice a1 n1 c1, .int .i64 alo, .int .i64 ahi] 42)) (.bool bm) (.bool bn) (.bool bq) (.slice a2 n2 c2) (.int .i64 blo) (.int .i64 bhi) 42
    rw [show (w.alloc (.cells #[.bool am, .bool an, .bool aq, .slice a1 n1 c1, .int .i64 alo, .int .i64 ahi] 42)).heap.size = w.heap.size + 1 by simp] at this
    rw [hW0]; exact this.below (box_below _)
  have L0 : Hid (Slot W0 (w.heap.size + 1 + 1)) := by
    have := slot_new ((w.alloc (.cells #[.bool am, .bool an, .bool aq, .slice a1 n1 c1, .int .i64 alo, .int .i64 ahi] 42)).alloc (.cells #[.bool bm, .bool bn, .bool bq, .slice a2 n2 c2, .int .i64 blo, .int .i64 bhi] 42)) 42
    rw [show ((w.alloc (.cells #[.bool am, .bool an, .bool aq, .slice a1 n1 c1, .int .i64 alo, .int .i64 ahi] 42)).alloc (.cells #[.bool bm, .bool bn, .bool bq, .slice a2 n2 c2, .int .i64 blo, .int .i64 bhi] 42)).heap.size = w.heap.size + 1 + 1 by simp] at this
    rw [hW0]; exact this
  have Z0 : Hid (W0.heap.size = w.heap.size + 3) := by rw [hW0]; show _ = _; simp
  have GW := hide hW0
  clear hW0
  go_enter Tryz.func34, Tryz.ntmps34
  go_wp2_with fail
  rw [← unhide GW]
  refine (rcheck_any am an aq _ l alo ahi _ ((unhide HU).below (unhide B0))).mono ?_
  rintro e w1 ⟨he, hw1⟩
  rw [← unhide QA] at he
  subst he
  have B1 := hide (chain (unhide B0) hw1)
  have A1 := hide ((unhide A0).below hw1)
  have C1 := hide ((unhide C0).below hw1)
  have L1 := hide ((unhide L0).below hw1)
  have Z1 : Hid (w.heap.size + 3 ≤ w1.heap.size) := by rw [← unhide Z0]; exact hw1.size
  clear hw1 B0 A0 C0 L0 Z0 GW
  cases qa
  · rw [show errC false = 1 from rfl]
    have hans : Hid (R = (zeroS, 1)) := by show _ = _; rw [unhide HR]; exact meet_bad1 (unhide QA).symm
    obtain ⟨⟨k0, k1, k2, k3, k4, k5⟩, hf, _⟩ := unhide L1
    go_wp2_with fail
    exact bodyPost_ret (v := .tuple #[.agg #[.bool false, .bool false, .bool false, .slice none 0 0, .int .i64 0, .int .i64 0], .int .i64 1]) (by simp [results, Tryz.results34, go_sem, k0, k1, k2, k3, k4, k5]) rfl
      (setPost_is (s := zeroS) (unhide hans) rfl (own_nil _ _) (put6_below _ _ _ _ _ _ (unhide B1) (by omega)))
  rw [show errC true = 0 from rfl]
  obtain ⟨d0, d1, d2, d3, d4, d5⟩ := unhide C1
  go_wp2_with fail
  refine (rcheck_any bm bn bq _ m blo bhi _ ((unhide HV).below (unhide B1))).mono ?_
  clear d0 d1 d2 d3 d4 d5
  rintro e w2 ⟨he, hw2⟩
  rw [← unhide QB] at he
  subst he
  have B2 := hide (chain (unhide B1) hw2)
  have A2 := hide ((unhide A1).below hw2)
  have C2 := hide ((unhide C1).below hw2)
  have L2 := hide ((unhide L1).below hw2)
  have Z2b : Hid (w.heap.size + 3 ≤ w2.heap.size) := Nat.le_trans (unhide Z1) hw2.size
  clear hw2 B1 A1 C1 L1 Z1
  cases qb
  · rw [show errC false = 1 from rfl]
    have hans : Hid (R = (zeroS, 1)) := by show _ = _; rw [unhide HR]; exact meet_bad2 (unhide QA).symm (unhide QB).symm
    obtain ⟨⟨k0, k1, k2, k3, k4, k5⟩, hf, _⟩ := unhide L2
    go_wp2_with fail
    exact bodyPost_ret (v := .tuple #[.agg #[.bool false, .bool false, .bool false, .slice none 0 0, .int .i64 0, .int .i64 0], .int .i64 1]) (by simp [results, Tryz.results34, go_sem, k0, k1, k2, k3, k4, k5]) rfl
      (setPost_is (s := zeroS) (unhide hans) rfl (own_nil _ _) (put6_below _ _ _ _ _ _ (unhide B2) (by omega)))
  rw [show errC true = 0 from rfl]
  have hlenA := hide (check_len (unhide QA).symm)
  have hlenB := hide (check_len (unhide QB).symm)
  have Z2 : Hid (w.heap.size ≤ w2.heap.size) := (unhide B2).size
  obtain ⟨W3, hW3⟩ : ∃ W3, W3 = w2.alloc (.cells #[.bool false, .bool false, .bool false, .slice none 0 0, .int .i64 0, .int .i64 0] 42) := ⟨_, rfl⟩
  have ZW3 : Hid (W3.heap.size = w2.heap.size + 1) := by rw [hW3]; show _ = _; simp
  have B3 : Hid (Below w.heap.size w W3) := by rw [hW3]; exact chain (unhide B2) (box_below _)
  have A3 : Hid (Six W3 w.heap.size (.bool am) (.bool an) (.bool aq) (.slice a1 n1 c1) (.int .i64 alo) (.int .i64 ahi)) := by rw [hW3]; exact (unhide A2).below (box_below _)
  have C3 : Hid (Six W3 (w.heap.size + 1) (.bool bm) (.bool bn) (.bool bq) (.slice a2 n2 c2) (.int .i64 blo) (.int .i64 bhi)) := by rw [hW3]; exact (unhide C2).below (box_below _)
  have L3 : Hid (Slot W3 (w.heap.size + 1 + 1)) := by rw [hW3]; exact (unhide L2).below (box_below _)
  have X3 : Hid (Box6 W3 w2.heap.size (.bool false) (.bool false) (.bool false) (.slice none 0 0) (.int .i64 0) (.int .i64 0)) := by rw [hW3]; exact box6_new _ _ _ _ _ _ _ _
  have U3 : Hid (Strs W3 (.slice a1 n1 c1) l) := (unhide HU).below (unhide B3)
  have V3 : Hid (Strs W3 (.slice a2 n2 c2) m) := (unhide HV).below (unhide B3)
  have GW3 := hide hW3
  clear hW3 B2 A2 C2 L2
  obtain ⟨e0, e1, e2, e3, e4, e5⟩ := unhide A3
  obtain ⟨d0, d1, d2, d3, d4, d5⟩ := unhide C3
  rw [unhide GW3] at e0 e1 e2 e3 e4 e5 d0 d1 d2 d3 d4 d5
  go_wp2_with (first
    | (at_builtin; rw [← unhide GW3] at e0 e1 e2 e3 e4 e5 d0 d1 d2 d3 d4 d5 ⊢; refine wpList_append_strs rfl _ _ rfl (w2.heap.size + 1) (.slice none 0 0) [] rfl (own_nil _ _) (.slice a1 n1 c1) l rfl (unhide U3) (by have := unhide hlenA; simp at this ⊢; omega) (by have := unhide ZW3; omega) ?_; intro v4 w4 hown4 hg4; have OW4 := hide hown4; have H4 := hide (none_below hg4); clear hown4 hg4; have e3' := cell_kept (unhide H4) e3; have d3' := cell_kept (unhide H4) d3; clear e3 d3)
    | (at_builtin; refine wpList_append_strs rfl _ _ rfl (w2.heap.size + 1) v4 ([] ++ l) rfl (unhide OW4) (.slice a2 n2 c2) m rfl ((unhide V3).below (unhide H4)) (by have := unhide hlenA; have := unhide hlenB; simp at *; omega) (by have := unhide ZW3; have := (unhide H4).size; omega) ?_; intro v5 w5 hown5 hg5; have OW5 := hide hown5; have G5 := hide hg5; have BL5 := hide (own_block (unhide OW4)); clear hown5 hg5 e3' d3' e0 e1 e2 e4 e5 d0 d1 d2 d4 d5))
  rw [List.nil_append] at OW5
  have hlm : Hid ((l ++ m).length ≤ 128) := by
    show _ ≤ _
    have h1 : l.length ≤ 64 := unhide hlenA
    have h2 : m.length ≤ 64 := unhide hlenB
    rw [List.length_append]; omega
  have H5 := hide ((chain (unhide B3) (unhide H4)).grown (unhide G5) (chain (unhide B3) (unhide H4)).size (fun k hk => Nat.le_trans (Nat.le_trans (unhide Z2) (Nat.le_succ _)) ((unhide BL5) k hk).1))
  have A4 := hide (((unhide A3).below (unhide H4)).other (unhide G5) (fun k hk e => by have := ((unhide BL5) k hk).1; have := unhide Z2b; omega))
  have C4 := hide (((unhide C3).below (unhide H4)).other (unhide G5) (fun k hk e => by have := ((unhide BL5) k hk).1; have := unhide Z2b; omega))
  have L4 := hide (((unhide L3).below (unhide H4)).other (unhide G5) (fun k hk e => by have := ((unhide BL5) k hk).1; have := unhide Z2b; omega))
  have X4 := hide (((unhide X3).below (unhide H4)).other (unhide G5) (fun k hk e => by have := ((unhide BL5) k hk).1; omega))
  have Z4 : Hid (w2.heap.size + 1 ≤ w5.heap.size) := by have h1 := unhide ZW3; have h2 := (unhide H4).size; have h3 := (unhide G5).size; show _ ≤ _; omega
  clear A3 C3 L3 X3 H4 G5 BL5 OW4 B3 ZW3 U3 V3 GW3
  obtain ⟨ua, uc, hue⟩ := (unhide OW5).strs.val
  obtain ⟨un, hun⟩ : ∃ k, k = (l ++ m).length := ⟨_, rfl⟩
  rw [← hun] at hue
  clear hun
  subst hue
  refine (rrising_any _ (l ++ m) _ (unhide OW5).strs (Nat.le_trans (unhide hlm) (by decide))).mono ?_
  rintro e wb ⟨vb, rfl, hob, hwb⟩
  have B5 := hide (chain (unhide H5) hwb)
  have A5 := hide ((unhide A4).below hwb)
  have C5 := hide ((unhide C4).below hwb)
  have L5 := hide ((unhide L4).below hwb)
  have X5 := hide ((unhide X4).below hwb)
  have Z5 : Hid (w2.heap.size + 1 ≤ wb.heap.size) := Nat.le_trans (unhide Z4) hwb.size
  have ST5 := hide hob.strs
  have OB5 := hide (hob.mono (unhide Z4))
  have h9 : Hid ((Val.rising (l ++ m)).length ≤ 900) := Nat.le_trans (rising_le _) (Nat.le_trans (unhide hlm) (by decide))
  obtain ⟨ra, rc, hre⟩ := hob.strs.val
  obtain ⟨rn, hrn⟩ : ∃ k, k = (Val.rising (l ++ m)).length := ⟨_, rfl⟩
  rw [← hrn] at hre
  have HRN := hide hrn
  clear hrn hob hwb A4 C4 L4 X4 H5 OW5
  subst hre
  cases an
  · obtain ⟨e0, e1, e2, e3, e4, e5⟩ := unhide A5
    obtain ⟨d0, d1, d2, d3, d4, d5⟩ := unhide C5
    obtain ⟨⟨x0, x1, x2, x3, x4, x5⟩, xf, _⟩ := unhide X5
    go_wp2_with fail
    refine (rlisted_any _ l bm bn bq _ m blo bhi _ ((unhide HU).below (unhide B5)) ((unhide HV).below (unhide B5)) (Nat.le_trans (unhide hlenA) (by decide))).mono ?_
    clear e0 e1 e2 e3 e4 e5 d0 d1 d2 d3 d4 d5 x0 x1 x2 x3 x4 x5 xf
    rintro e w6 ⟨v6, rfl, ho6, hw6⟩
    obtain ⟨ls, hls⟩ : ∃ ls : List Txt, ls = (l.filter (hasB ⟨bm, bn, bq, m, blo, bhi⟩)) := ⟨_, rfl⟩
    rw [← hls] at ho6
    have hm2 : Hid (meetO ⟨am, false, aq, l, alo, ahi⟩ ⟨bm, bn, bq, m, blo, bhi⟩ = some ⟨false, false, false, ls, 0, 0⟩) := by show _ = _; rw [hls]; unfold meetO; rw [if_pos rfl]; rfl
    clear hls
    have B6 := hide (chain (unhide B5) hw6)
    have A6 := hide ((unhide A5).below hw6)
    have C6 := hide ((unhide C5).below hw6)
    have L6 := hide ((unhide L5).below hw6)
    have X6 := hide ((unhide X5).below hw6)
    have O6 := hide (ho6.mono (unhide Z5))
    obtain ⟨pa, pc, hpe⟩ := ho6.strs.val
    obtain ⟨pn, hpn⟩ : ∃ k, k = (show List Txt from ls).length := ⟨_, rfl⟩
    rw [← hpn] at hpe
    clear hpn hw6 ho6 B5 A5 C5 L5 X5
    subst hpe
    obtain ⟨⟨x0, x1, x2, x3, x4, x5⟩, xf, _⟩ := unhide X6
    go_upto_region 31 with (fail)
    obtain ⟨W7, hW7⟩ : ∃ W, W = ((((((w6.setCell ⟨w2.heap.size, 0, none⟩ (.bool false)).setCell ⟨w2.heap.size, 1, none⟩ (.bool false)).setCell ⟨w2.heap.size, 2, none⟩ (.bool false)).setCell ⟨w2.heap.size, 3, none⟩ (.slice pa pn pc)).setCell ⟨w2.heap.size, 4, none⟩ (.int .i64 0)).setCell ⟨w2.heap.size, 5, none⟩ (.int .i64 0)) := ⟨_, rfl⟩
    have X7 : Hid (Box6 W7 w2.heap.size (.bool false) (.bool false) (.bool false) (.slice pa pn pc) (.int .i64 0) (.int .i64 0)) := by rw [hW7]; exact (unhide X6).put _ _ _ _ _ _
    have O7 : Hid (Own W7 (w2.heap.size + 1) (.slice pa pn pc) ls) := by rw [hW7]; exact (unhide O6).grown (put6_grown _ _ _ _ _ _ _ _) (Nat.lt_succ_self _)
    have B7 : Hid (Below w.heap.size w W7) := by rw [hW7]; exact grown_below (unhide B6) (put6_grown _ _ _ _ _ _ _ _) (unhide Z2)
    have A7 : Hid (Six W7 w.heap.size (.bool am) (.bool false) (.bool aq) (.slice a1 n1 c1) (.int .i64 alo) (.int .i64 ahi)) := by rw [hW7]; exact (unhide A6).other (put6_grown _ _ _ _ _ _ _ _) (fun k hk e => by have := unhide Z2b; injection hk with hk; omega)
    have C7 : Hid (Six W7 (w.heap.size + 1) (.bool bm) (.bool bn) (.bool bq) (.slice a2 n2 c2) (.int .i64 blo) (.int .i64 bhi)) := by rw [hW7]; exact (unhide C6).other (put6_grown _ _ _ _ _ _ _ _) (fun k hk e => by have := unhide Z2b; injection hk with hk; omega)
    have L7 : Hid (Slot W7 (w.heap.size + 1 + 1)) := by rw [hW7]; exact (unhide L6).other (put6_grown _ _ _ _ _ _ _ _) (fun k hk e => by have := unhide Z2b; injection hk with hk; omega)
    have GW7 := hide hW7
    rw [← hW7]
    clear hW7 x0 x1 x2 x3 x4 x5 xf B6 A6 C6 L6 X6 O6 GW7
    cases am
    · have hans : Hid (R = (⟨false, false, false, ls, 0, 0⟩, 0)) := by show _ = _; rw [unhide HR, meet_good (unhide QA).symm (unhide QB).symm, unhide hm2]; rfl
      obtain ⟨⟨k0, k1, k2, k3, k4, k5⟩, hf, _⟩ := unhide L7
      obtain ⟨⟨x0, x1, x2, x3, x4, x5⟩, xf, _⟩ := unhide X7
      have a0 := (unhide A7).1
      have c0 := (unhide C7).1
      have K8 := hide ((unhide L7).set w2.heap.size 0 (.bool false) (by have := unhide Z2b; omega))
      obtain ⟨⟨j0, j1, j2, j3, j4, j5⟩, jf, _⟩ := unhide K8
      go_wp2_with fail
      exact bodyPost_ret (v := .tuple #[.agg #[.bool false, .bool false, .bool false, .slice pa pn pc, .int .i64 0, .int .i64 0], .int .i64 0]) (by simp [results, Tryz.results34, go_sem, j0, j1, j2, j3, j4, j5]) rfl
        (setPost_is (s := ⟨false, false, false, ls, 0, 0⟩) (unhide hans) rfl ((((unhide O7).grown (set_grown W7 w2.heap.size 0 (.bool false)) (Nat.lt_succ_self _)).grown (put6_grown _ (w.heap.size + 1 + 1) _ _ _ _ _ _) (by have := unhide Z2b; omega)).mono (by have := unhide Z2b; omega)) (put6_below _ _ _ _ _ _ (grown_below (unhide B7) (set_grown W7 w2.heap.size 0 (.bool false)) (unhide Z2)) (by omega)))
    · have hans : Hid (R = (⟨bm, false, false, ls, 0, 0⟩, 0)) := by show _ = _; rw [unhide HR, meet_good (unhide QA).symm (unhide QB).symm, unhide hm2]; rfl
      obtain ⟨⟨k0, k1, k2, k3, k4, k5⟩, hf, _⟩ := unhide L7
      obtain ⟨⟨x0, x1, x2, x3, x4, x5⟩, xf, _⟩ := unhide X7
      have a0 := (unhide A7).1
      have c0 := (unhide C7).1
      have K8 := hide ((unhide L7).set w2.heap.size 0 (.bool bm) (by have := unhide Z2b; omega))
      obtain ⟨⟨j0, j1, j2, j3, j4, j5⟩, jf, _⟩ := unhide K8
      go_wp2_with fail
      exact bodyPost_ret (v := .tuple #[.agg #[.bool bm, .bool false, .bool false, .slice pa pn pc, .int .i64 0, .int .i64 0], .int .i64 0]) (by simp [results, Tryz.results34, go_sem, j0, j1, j2, j3, j4, j5]) rfl
        (setPost_is (s := ⟨bm, false, false, ls, 0, 0⟩) (unhide hans) rfl ((((unhide O7).grown (set_grown W7 w2.heap.size 0 (.bool bm)) (Nat.lt_succ_self _)).grown (put6_grown _ (w.heap.size + 1 + 1) _ _ _ _ _ _) (by have := unhide Z2b; omega)).mono (by have := unhide Z2b; omega)) (put6_below _ _ _ _ _ _ (grown_below (unhide B7) (set_grown W7 w2.heap.size 0 (.bool bm)) (unhide Z2)) (by omega)))
  cases bn
  · obtain ⟨e0, e1, e2, e3, e4, e5⟩ := unhide A5
    obtain ⟨d0, d1, d2, d3, d4, d5⟩ := unhide C5
    obtain ⟨⟨x0, x1, x2, x3, x4, x5⟩, xf, _⟩ := unhide X5
    go_wp2_with fail
    refine (rlisted_any _ m am true aq _ l alo ahi _ ((unhide HV).below (unhide B5)) ((unhide HU).below (unhide B5)) (Nat.le_trans (unhide hlenB) (by decide))).mono ?_
    clear e0 e1 e2 e3 e4 e5 d0 d1 d2 d3 d4 d5 x0 x1 x2 x3 x4 x5 xf
    rintro e w6 ⟨v6, rfl, ho6, hw6⟩
    obtain ⟨ls, hls⟩ : ∃ ls : List Txt, ls = (m.filter (hasB ⟨am, true, aq, l, alo, ahi⟩)) := ⟨_, rfl⟩
    rw [← hls] at ho6
    have hm2 : Hid (meetO ⟨am, true, aq, l, alo, ahi⟩ ⟨bm, false, bq, m, blo, bhi⟩ = some ⟨false, false, false, ls, 0, 0⟩) := by show _ = _; rw [hls]; unfold meetO; rw [if_neg (fun h => by cases h), if_pos rfl]; rfl
    clear hls
    have B6 := hide (chain (unhide B5) hw6)
    have A6 := hide ((unhide A5).below hw6)
    have C6 := hide ((unhide C5).below hw6)
    have L6 := hide ((unhide L5).below hw6)
    have X6 := hide ((unhide X5).below hw6)
    have O6 := hide (ho6.mono (unhide Z5))
    obtain ⟨pa, pc, hpe⟩ := ho6.strs.val
    obtain ⟨pn, hpn⟩ : ∃ k, k = (show List Txt from ls).length := ⟨_, rfl⟩
    rw [← hpn] at hpe
    clear hpn hw6 ho6 B5 A5 C5 L5 X5
    subst hpe
    obtain ⟨⟨x0, x1, x2, x3, x4, x5⟩, xf, _⟩ := unhide X6
    go_upto_region 31 with (fail)
    obtain ⟨W7, hW7⟩ : ∃ W, W = ((((((w6.setCell ⟨w2.heap.size, 0, none⟩ (.bool false)).setCell ⟨w2.heap.size, 1, none⟩ (.bool false)).setCell ⟨w2.heap.size, 2, none⟩ (.bool false)).setCell ⟨w2.heap.size, 3, none⟩ (.slice pa pn pc)).setCell ⟨w2.heap.size, 4, none⟩ (.int .i64 0)).setCell ⟨w2.heap.size, 5, none⟩ (.int .i64 0)) := ⟨_, rfl⟩
    have X7 : Hid (Box6 W7 w2.heap.size (.bool false) (.bool false) (.bool false) (.slice pa pn pc) (.int .i64 0) (.int .i64 0)) := by rw [hW7]; exact (unhide X6).put _ _ _ _ _ _
    have O7 : Hid (Own W7 (w2.heap.size + 1) (.slice pa pn pc) ls) := by rw [hW7]; exact (unhide O6).grown (put6_grown _ _ _ _ _ _ _ _) (Nat.lt_succ_self _)
    have B7 : Hid (Below w.heap.size w W7) := by rw [hW7]; exact grown_below (unhide B6) (put6_grown _ _ _ _ _ _ _ _) (unhide Z2)
    have A7 : Hid (Six W7 w.heap.size (.bool am) (.bool true) (.bool aq) (.slice a1 n1 c1) (.int .i64 alo) (.int .i64 ahi)) := by rw [hW7]; exact (unhide A6).other (put6_grown _ _ _ _ _ _ _ _) (fun k hk e => by have := unhide Z2b; injection hk with hk; omega)
    have C7 : Hid (Six W7 (w.heap.size + 1) (.bool bm) (.bool false) (.bool bq) (.slice a2 n2 c2) (.int .i64 blo) (.int .i64 bhi)) := by rw [hW7]; exact (unhide C6).other (put6_grown _ _ _ _ _ _ _ _) (fun k hk e => by have := unhide Z2b; injection hk with hk; omega)
    have L7 : Hid (Slot W7 (w.heap.size + 1 + 1)) := by rw [hW7]; exact (unhide L6).other (put6_grown _ _ _ _ _ _ _ _) (fun k hk e => by have := unhide Z2b; injection hk with hk; omega)
    have GW7 := hide hW7
    rw [← hW7]
    clear hW7 x0 x1 x2 x3 x4 x5 xf B6 A6 C6 L6 X6 O6 GW7
    cases am
    · have hans : Hid (R = (⟨false, false, false, ls, 0, 0⟩, 0)) := by show _ = _; rw [unhide HR, meet_good (unhide QA).symm (unhide QB).symm, unhide hm2]; rfl
      obtain ⟨⟨k0, k1, k2, k3, k4, k5⟩, hf, _⟩ := unhide L7
      obtain ⟨⟨x0, x1, x2, x3, x4, x5⟩, xf, _⟩ := unhide X7
      have a0 := (unhide A7).1
      have c0 := (unhide C7).1
      have K8 := hide ((unhide L7).set w2.heap.size 0 (.bool false) (by have := unhide Z2b; omega))
      obtain ⟨⟨j0, j1, j2, j3, j4, j5⟩, jf, _⟩ := unhide K8
      go_wp2_with fail
      exact bodyPost_ret (v := .tuple #[.agg #[.bool false, .bool false, .bool false, .slice pa pn pc, .int .i64 0, .int .i64 0], .int .i64 0]) (by simp [results, Tryz.results34, go_sem, j0, j1, j2, j3, j4, j5]) rfl
        (setPost_is (s := ⟨false, false, false, ls, 0, 0⟩) (unhide hans) rfl ((((unhide O7).grown (set_grown W7 w2.heap.size 0 (.bool false)) (Nat.lt_succ_self _)).grown (put6_grown _ (w.heap.size + 1 + 1) _ _ _ _ _ _) (by have := unhide Z2b; omega)).mono (by have := unhide Z2b; omega)) (put6_below _ _ _ _ _ _ (grown_below (unhide B7) (set_grown W7 w2.heap.size 0 (.bool false)) (unhide Z2)) (by omega)))
    · have hans : Hid (R = (⟨bm, false, false, ls, 0, 0⟩, 0)) := by show _ = _; rw [unhide HR, meet_good (unhide QA).symm (unhide QB).symm, unhide hm2]; rfl
      obtain ⟨⟨k0, k1, k2, k3, k4, k5⟩, hf, _⟩ := unhide L7
      obtain ⟨⟨x0, x1, x2, x3, x4, x5⟩, xf, _⟩ := unhide X7
      have a0 := (unhide A7).1
      have c0 := (unhide C7).1
      have K8 := hide ((unhide L7).set w2.heap.size 0 (.bool bm) (by have := unhide Z2b; omega))
      obtain ⟨⟨j0, j1, j2, j3, j4, j5⟩, jf, _⟩ := unhide K8
      go_wp2_with fail
      exact bodyPost_ret (v := .tuple #[.agg #[.bool bm, .bool false, .bool false, .slice pa pn pc, .int .i64 0, .int .i64 0], .int .i64 0]) (by simp [results, Tryz.results34, go_sem, j0, j1, j2, j3, j4, j5]) rfl
        (setPost_is (s := ⟨bm, false, false, ls, 0, 0⟩) (unhide hans) rfl ((((unhide O7).grown (set_grown W7 w2.heap.size 0 (.bool bm)) (Nat.lt_succ_self _)).grown (put6_grown _ (w.heap.size + 1 + 1) _ _ _ _ _ _) (by have := unhide Z2b; omega)).mono (by have := unhide Z2b; omega)) (put6_below _ _ _ _ _ _ (grown_below (unhide B7) (set_grown W7 w2.heap.size 0 (.bool bm)) (unhide Z2)) (by omega)))
  by_cases hnn : aq = false ∧ bq = false
  · obtain ⟨rfl, rfl⟩ := hnn
    have hbs : Hid (meetO ⟨am, true, false, l, alo, ahi⟩ ⟨bm, true, false, m, blo, bhi⟩ = if rn ≤ 64 then some ⟨false, true, false, Val.rising (l ++ m), 0, 0⟩ else none) := by
      show butS (Val.rising (l ++ m)) = _
      unfold butS
      rw [← unhide HRN]
    obtain ⟨rs, hrs⟩ : ∃ rs : List Txt, rs = Val.rising (l ++ m) := ⟨_, rfl⟩
    rw [← hrs] at hbs OB5
    clear hrs
    obtain ⟨e0, e1, e2, e3, e4, e5⟩ := unhide A5
    obtain ⟨d0, d1, d2, d3, d4, d5⟩ := unhide C5
    obtain ⟨⟨x0, x1, x2, x3, x4, x5⟩, xf, _⟩ := unhide X5
    by_cases hr : rn ≤ 64
    · have hm2 : Hid (meetO ⟨am, true, false, l, alo, ahi⟩ ⟨bm, true, false, m, blo, bhi⟩ = some ⟨false, true, false, rs, 0, 0⟩) := by show _ = _; rw [unhide hbs, if_pos hr]
      have B6 := B5
      have A6 := A5
      have C6 := C5
      have L6 := L5
      have X6 := X5
      have O6 := OB5
      go_upto_region 31 with (fail)
      rw [show decide ((rn : Int) ≤ 64) = true from decide_eq_true (by omega)]
      obtain ⟨W7, hW7⟩ : ∃ W, W = ((((((wb.setCell ⟨w2.heap.size, 0, none⟩ (.bool false)).setCell ⟨w2.heap.size, 1, none⟩ (.bool true)).setCell ⟨w2.heap.size, 2, none⟩ (.bool false)).setCell ⟨w2.heap.size, 3, none⟩ (.slice ra rn rc)).setCell ⟨w2.heap.size, 4, none⟩ (.int .i64 0)).setCell ⟨w2.heap.size, 5, none⟩ (.int .i64 0)) := ⟨_, rfl⟩
      have X7 : Hid (Box6 W7 w2.heap.size (.bool false) (.bool true) (.bool false) (.slice ra rn rc) (.int .i64 0) (.int .i64 0)) := by rw [hW7]; exact (unhide X6).put _ _ _ _ _ _
      have O7 : Hid (Own W7 (w2.heap.size + 1) (.slice ra rn rc) rs) := by rw [hW7]; exact (unhide O6).grown (put6_grown _ _ _ _ _ _ _ _) (Nat.lt_succ_self _)
      have B7 : Hid (Below w.heap.size w W7) := by rw [hW7]; exact grown_below (unhide B6) (put6_grown _ _ _ _ _ _ _ _) (unhide Z2)
      have A7 : Hid (Six W7 w.heap.size (.bool am) (.bool true) (.bool false) (.slice a1 n1 c1) (.int .i64 alo) (.int .i64 ahi)) := by rw [hW7]; exact (unhide A6).other (put6_grown _ _ _ _ _ _ _ _) (fun k hk e => by have := unhide Z2b; injection hk with hk; omega)
      have C7 : Hid (Six W7 (w.heap.size + 1) (.bool bm) (.bool true) (.bool false) (.slice a2 n2 c2) (.int .i64 blo) (.int .i64 bhi)) := by rw [hW7]; exact (unhide C6).other (put6_grown _ _ _ _ _ _ _ _) (fun k hk e => by have := unhide Z2b; injection hk with hk; omega)
      have L7 : Hid (Slot W7 (w.heap.size + 1 + 1)) := by rw [hW7]; exact (unhide L6).other (put6_grown _ _ _ _ _ _ _ _) (fun k hk e => by have := unhide Z2b; injection hk with hk; omega)
      have GW7 := hide hW7
      rw [← hW7]
      clear hW7 x0 x1 x2 x3 x4 x5 xf B6 A6 C6 L6 X6 O6 GW7
      cases am
      · have hans : Hid (R = (⟨false, true, false, rs, 0, 0⟩, 0)) := by show _ = _; rw [unhide HR, meet_good (unhide QA).symm (unhide QB).symm, unhide hm2]; rfl
        obtain ⟨⟨k0, k1, k2, k3, k4, k5⟩, hf, _⟩ := unhide L7
        obtain ⟨⟨x0, x1, x2, x3, x4, x5⟩, xf, _⟩ := unhide X7
        have a0 := (unhide A7).1
        have c0 := (unhide C7).1
        have K8 := hide ((unhide L7).set w2.heap.size 0 (.bool false) (by have := unhide Z2b; omega))
        obtain ⟨⟨j0, j1, j2, j3, j4, j5⟩, jf, _⟩ := unhide K8
        go_wp2_with fail
        exact bodyPost_ret (v := .tuple #[.agg #[.bool false, .bool true, .bool false, .slice ra rn rc, .int .i64 0, .int .i64 0], .int .i64 0]) (by simp [results, Tryz.results34, go_sem, j0, j1, j2, j3, j4, j5]) rfl
          (setPost_is (s := ⟨false, true, false, rs, 0, 0⟩) (unhide hans) rfl ((((unhide O7).grown (set_grown W7 w2.heap.size 0 (.bool false)) (Nat.lt_succ_self _)).grown (put6_grown _ (w.heap.size + 1 + 1) _ _ _ _ _ _) (by have := unhide Z2b; omega)).mono (by have := unhide Z2b; omega)) (put6_below _ _ _ _ _ _ (grown_below (unhide B7) (set_grown W7 w2.heap.size 0 (.bool false)) (unhide Z2)) (by omega)))
      · have hans : Hid (R = (⟨bm, true, false, rs, 0, 0⟩, 0)) := by show _ = _; rw [unhide HR, meet_good (unhide QA).symm (unhide QB).symm, unhide hm2]; rfl
        obtain ⟨⟨k0, k1, k2, k3, k4, k5⟩, hf, _⟩ := unhide L7
        obtain ⟨⟨x0, x1, x2, x3, x4, x5⟩, xf, _⟩ := unhide X7
        have a0 := (unhide A7).1
        have c0 := (unhide C7).1
        have K8 := hide ((unhide L7).set w2.heap.size 0 (.bool bm) (by have := unhide Z2b; omega))
        obtain ⟨⟨j0, j1, j2, j3, j4, j5⟩, jf, _⟩ := unhide K8
        go_wp2_with fail
        exact bodyPost_ret (v := .tuple #[.agg #[.bool bm, .bool true, .bool false, .slice ra rn rc, .int .i64 0, .int .i64 0], .int .i64 0]) (by simp [results, Tryz.results34, go_sem, j0, j1, j2, j3, j4, j5]) rfl
          (setPost_is (s := ⟨bm, true, false, rs, 0, 0⟩) (unhide hans) rfl ((((unhide O7).grown (set_grown W7 w2.heap.size 0 (.bool bm)) (Nat.lt_succ_self _)).grown (put6_grown _ (w.heap.size + 1 + 1) _ _ _ _ _ _) (by have := unhide Z2b; omega)).mono (by have := unhide Z2b; omega)) (put6_below _ _ _ _ _ _ (grown_below (unhide B7) (set_grown W7 w2.heap.size 0 (.bool bm)) (unhide Z2)) (by omega)))
    · have hm2 : Hid (meetO ⟨am, true, false, l, alo, ahi⟩ ⟨bm, true, false, m, blo, bhi⟩ = none) := by show _ = _; rw [unhide hbs, if_neg hr]
      have B6 := B5
      have A6 := A5
      have C6 := C5
      have L6 := L5
      have X6 := X5
      have O6 := OB5
      go_upto_region 31 with (fail)
      rw [show decide ((rn : Int) ≤ 64) = false from decide_eq_false (by omega)]
      obtain ⟨W7, hW7⟩ : ∃ W, W = ((((((wb.setCell ⟨w2.heap.size, 0, none⟩ (.bool false)).setCell ⟨w2.heap.size, 1, none⟩ (.bool true)).setCell ⟨w2.heap.size, 2, none⟩ (.bool false)).setCell ⟨w2.heap.size, 3, none⟩ (.slice ra rn rc)).setCell ⟨w2.heap.size, 4, none⟩ (.int .i64 0)).setCell ⟨w2.heap.size, 5, none⟩ (.int .i64 0)) := ⟨_, rfl⟩
      have X7 : Hid (Box6 W7 w2.heap.size (.bool false) (.bool true) (.bool false) (.slice ra rn rc) (.int .i64 0) (.int .i64 0)) := by rw [hW7]; exact (unhide X6).put _ _ _ _ _ _
      have O7 : Hid (Own W7 (w2.heap.size + 1) (.slice ra rn rc) rs) := by rw [hW7]; exact (unhide O6).grown (put6_grown _ _ _ _ _ _ _ _) (Nat.lt_succ_self _)
      have B7 : Hid (Below w.heap.size w W7) := by rw [hW7]; exact grown_below (unhide B6) (put6_grown _ _ _ _ _ _ _ _) (unhide Z2)
      have A7 : Hid (Six W7 w.heap.size (.bool am) (.bool true) (.bool false) (.slice a1 n1 c1) (.int .i64 alo) (.int .i64 ahi)) := by rw [hW7]; exact (unhide A6).other (put6_grown _ _ _ _ _ _ _ _) (fun k hk e => by have := unhide Z2b; injection hk with hk; omega)
      have C7 : Hid (Six W7 (w.heap.size + 1) (.bool bm) (.bool true) (.bool false) (.slice a2 n2 c2) (.int .i64 blo) (.int .i64 bhi)) := by rw [hW7]; exact (unhide C6).other (put6_grown _ _ _ _ _ _ _ _) (fun k hk e => by have := unhide Z2b; injection hk with hk; omega)
      have L7 : Hid (Slot W7 (w.heap.size + 1 + 1)) := by rw [hW7]; exact (unhide L6).other (put6_grown _ _ _ _ _ _ _ _) (fun k hk e => by have := unhide Z2b; injection hk with hk; omega)
      have GW7 := hide hW7
      rw [← hW7]
      clear hW7 x0 x1 x2 x3 x4 x5 xf B6 A6 C6 L6 X6 O6 GW7
      obtain ⟨⟨k0, k1, k2, k3, k4, k5⟩, hf, _⟩ := unhide L7
      have hans : Hid (R = (zeroS, 3)) := by show _ = _; rw [unhide HR, meet_good (unhide QA).symm (unhide QB).symm, unhide hm2]; rfl
      go_wp2_with fail
      exact bodyPost_ret (v := .tuple #[.agg #[.bool false, .bool false, .bool false, .slice none 0 0, .int .i64 0, .int .i64 0], .int .i64 3]) (by simp [results, Tryz.results34, go_sem, k0, k1, k2, k3, k4, k5]) rfl
        (setPost_is (s := zeroS) (unhide hans) rfl (own_nil _ _) (put6_below _ _ _ _ _ _ (unhide B7) (by omega)))
  cases aq
  · obtain rfl : bq = true := by
      cases bq
      · exact absurd ⟨rfl, rfl⟩ hnn
      · rfl
    clear hnn
    have hrb := hide1 (check_range (unhide QB).symm rfl)
    obtain ⟨e0, e1, e2, e3, e4, e5⟩ := unhide A5
    obtain ⟨d0, d1, d2, d3, d4, d5⟩ := unhide C5
    obtain ⟨⟨x0, x1, x2, x3, x4, x5⟩, xf, _⟩ := unhide X5
    go_wp2_with fail
    refine (rnumbers_any blo bhi _ (Val.rising (l ++ m)) _ (unhide ST5) (unhide h9) (by have h6 := unhide1 hrb; omega) (by have h6 := unhide1 hrb; omega) (by have h6 := unhide1 hrb; omega) (by have h6 := unhide1 hrb; omega)).mono ?_
    clear e0 e1 e2 e3 e4 e5 d0 d1 d2 d3 d4 d5 x0 x1 x2 x3 x4 x5 xf
    rintro e w6 ⟨v6, rfl, ho6, hw6⟩
    obtain ⟨r, hr⟩ : ∃ r, r = numbersO blo bhi (Val.rising (l ++ m)) := ⟨_, rfl⟩
    rw [← hr] at ho6 ⊢
    have hmeq : Hid (meetO ⟨am, true, false, l, alo, ahi⟩ ⟨bm, true, true, m, blo, bhi⟩ = r) := by show _ = _; rw [hr]; rfl
    clear hr
    obtain ⟨s, hs⟩ : ∃ s, s = r.getD zeroS := ⟨_, rfl⟩
    obtain ⟨g, hg⟩ : ∃ g, g = r.isSome := ⟨_, rfl⟩
    rw [← hs] at ho6 ⊢
    rw [← hg]
    have hm2 : Hid (meetO ⟨am, true, false, l, alo, ahi⟩ ⟨bm, true, true, m, blo, bhi⟩ = if g = true then some s else none) := by
      show _ = _
      rw [unhide hmeq, hs, hg]; cases r <;> rfl
    clear hs hg hmeq
    have B6 := hide (chain (unhide B5) hw6)
    have A6 := hide ((unhide A5).below hw6)
    have C6 := hide ((unhide C5).below hw6)
    have L6 := hide ((unhide L5).below hw6)
    have X6 := hide ((unhide X5).below hw6)
    have O6 := hide (ho6.mono (unhide Z5))
    obtain ⟨pa, pc, hpe⟩ := ho6.strs.val
    obtain ⟨pn, hpn⟩ : ∃ k, k = (show List Txt from s.vals).length := ⟨_, rfl⟩
    rw [← hpn] at hpe
    clear hpn hw6 ho6 B5 A5 C5 L5 X5
    subst hpe
    obtain ⟨⟨x0, x1, x2, x3, x4, x5⟩, xf, _⟩ := unhide X6
    go_upto_region 31 with (fail)
    obtain ⟨W7, hW7⟩ : ∃ W, W = ((((((w6.setCell ⟨w2.heap.size, 0, none⟩ (.bool s.miss)).setCell ⟨w2.heap.size, 1, none⟩ (.bool s.no)).setCell ⟨w2.heap.size, 2, none⟩ (.bool s.num)).setCell ⟨w2.heap.size, 3, none⟩ (.slice pa pn pc)).setCell ⟨w2.heap.size, 4, none⟩ (.int .i64 s.lo)).setCell ⟨w2.heap.size, 5, none⟩ (.int .i64 s.hi)) := ⟨_, rfl⟩
    have X7 : Hid (Box6 W7 w2.heap.size (.bool s.miss) (.bool s.no) (.bool s.num) (.slice pa pn pc) (.int .i64 s.lo) (.int .i64 s.hi)) := by rw [hW7]; exact (unhide X6).put _ _ _ _ _ _
    have O7 : Hid (Own W7 (w2.heap.size + 1) (.slice pa pn pc) s.vals) := by rw [hW7]; exact (unhide O6).grown (put6_grown _ _ _ _ _ _ _ _) (Nat.lt_succ_self _)
    have B7 : Hid (Below w.heap.size w W7) := by rw [hW7]; exact grown_below (unhide B6) (put6_grown _ _ _ _ _ _ _ _) (unhide Z2)
    have A7 : Hid (Six W7 w.heap.size (.bool am) (.bool true) (.bool false) (.slice a1 n1 c1) (.int .i64 alo) (.int .i64 ahi)) := by rw [hW7]; exact (unhide A6).other (put6_grown _ _ _ _ _ _ _ _) (fun k hk e => by have := unhide Z2b; injection hk with hk; omega)
    have C7 : Hid (Six W7 (w.heap.size + 1) (.bool bm) (.bool true) (.bool true) (.slice a2 n2 c2) (.int .i64 blo) (.int .i64 bhi)) := by rw [hW7]; exact (unhide C6).other (put6_grown _ _ _ _ _ _ _ _) (fun k hk e => by have := unhide Z2b; injection hk with hk; omega)
    have L7 : Hid (Slot W7 (w.heap.size + 1 + 1)) := by rw [hW7]; exact (unhide L6).other (put6_grown _ _ _ _ _ _ _ _) (fun k hk e => by have := unhide Z2b; injection hk with hk; omega)
    have GW7 := hide hW7
    rw [← hW7]
    clear hW7 x0 x1 x2 x3 x4 x5 xf B6 A6 C6 L6 X6 O6 GW7
    cases g
    · obtain ⟨⟨k0, k1, k2, k3, k4, k5⟩, hf, _⟩ := unhide L7
      have hans : Hid (R = (zeroS, 3)) := by show _ = _; rw [unhide HR, meet_good (unhide QA).symm (unhide QB).symm, unhide hm2]; rfl
      go_wp2_with fail
      exact bodyPost_ret (v := .tuple #[.agg #[.bool false, .bool false, .bool false, .slice none 0 0, .int .i64 0, .int .i64 0], .int .i64 3]) (by simp [results, Tryz.results34, go_sem, k0, k1, k2, k3, k4, k5]) rfl
        (setPost_is (s := zeroS) (unhide hans) rfl (own_nil _ _) (put6_below _ _ _ _ _ _ (unhide B7) (by omega)))
    · cases am
      · have hans : Hid (R = (⟨false, s.no, s.num, s.vals, s.lo, s.hi⟩, 0)) := by show _ = _; rw [unhide HR, meet_good (unhide QA).symm (unhide QB).symm, unhide hm2]; rfl
        obtain ⟨⟨k0, k1, k2, k3, k4, k5⟩, hf, _⟩ := unhide L7
        obtain ⟨⟨x0, x1, x2, x3, x4, x5⟩, xf, _⟩ := unhide X7
        have a0 := (unhide A7).1
        have c0 := (unhide C7).1
        have K8 := hide ((unhide L7).set w2.heap.size 0 (.bool false) (by have := unhide Z2b; omega))
        obtain ⟨⟨j0, j1, j2, j3, j4, j5⟩, jf, _⟩ := unhide K8
        go_wp2_with fail
        exact bodyPost_ret (v := .tuple #[.agg #[.bool false, .bool s.no, .bool s.num, .slice pa pn pc, .int .i64 s.lo, .int .i64 s.hi], .int .i64 0]) (by simp [results, Tryz.results34, go_sem, j0, j1, j2, j3, j4, j5]) rfl
          (setPost_is (s := ⟨false, s.no, s.num, s.vals, s.lo, s.hi⟩) (unhide hans) rfl ((((unhide O7).grown (set_grown W7 w2.heap.size 0 (.bool false)) (Nat.lt_succ_self _)).grown (put6_grown _ (w.heap.size + 1 + 1) _ _ _ _ _ _) (by have := unhide Z2b; omega)).mono (by have := unhide Z2b; omega)) (put6_below _ _ _ _ _ _ (grown_below (unhide B7) (set_grown W7 w2.heap.size 0 (.bool false)) (unhide Z2)) (by omega)))
      · have hans : Hid (R = (⟨bm, s.no, s.num, s.vals, s.lo, s.hi⟩, 0)) := by show _ = _; rw [unhide HR, meet_good (unhide QA).symm (unhide QB).symm, unhide hm2]; rfl
        obtain ⟨⟨k0, k1, k2, k3, k4, k5⟩, hf, _⟩ := unhide L7
        obtain ⟨⟨x0, x1, x2, x3, x4, x5⟩, xf, _⟩ := unhide X7
        have a0 := (unhide A7).1
        have c0 := (unhide C7).1
        have K8 := hide ((unhide L7).set w2.heap.size 0 (.bool bm) (by have := unhide Z2b; omega))
        obtain ⟨⟨j0, j1, j2, j3, j4, j5⟩, jf, _⟩ := unhide K8
        go_wp2_with fail
        exact bodyPost_ret (v := .tuple #[.agg #[.bool bm, .bool s.no, .bool s.num, .slice pa pn pc, .int .i64 s.lo, .int .i64 s.hi], .int .i64 0]) (by simp [results, Tryz.results34, go_sem, j0, j1, j2, j3, j4, j5]) rfl
          (setPost_is (s := ⟨bm, s.no, s.num, s.vals, s.lo, s.hi⟩) (unhide hans) rfl ((((unhide O7).grown (set_grown W7 w2.heap.size 0 (.bool bm)) (Nat.lt_succ_self _)).grown (put6_grown _ (w.heap.size + 1 + 1) _ _ _ _ _ _) (by have := unhide Z2b; omega)).mono (by have := unhide Z2b; omega)) (put6_below _ _ _ _ _ _ (grown_below (unhide B7) (set_grown W7 w2.heap.size 0 (.bool bm)) (unhide Z2)) (by omega)))
  have hra := hide1 (check_range (unhide QA).symm rfl)
  cases bq
  · clear hnn
    obtain ⟨e0, e1, e2, e3, e4, e5⟩ := unhide A5
    obtain ⟨d0, d1, d2, d3, d4, d5⟩ := unhide C5
    obtain ⟨⟨x0, x1, x2, x3, x4, x5⟩, xf, _⟩ := unhide X5
    go_wp2_with fail
    refine (rnumbers_any alo ahi _ (Val.rising (l ++ m)) _ (unhide ST5) (unhide h9) (by have h5 := unhide1 hra; omega) (by have h5 := unhide1 hra; omega) (by have h5 := unhide1 hra; omega) (by have h5 := unhide1 hra; omega)).mono ?_
    clear e0 e1 e2 e3 e4 e5 d0 d1 d2 d3 d4 d5 x0 x1 x2 x3 x4 x5 xf
    rintro e w6 ⟨v6, rfl, ho6, hw6⟩
    obtain ⟨r, hr⟩ : ∃ r, r = numbersO alo ahi (Val.rising (l ++ m)) := ⟨_, rfl⟩
    rw [← hr] at ho6 ⊢
    have hmeq : Hid (meetO ⟨am, true, true, l, alo, ahi⟩ ⟨bm, true, false, m, blo, bhi⟩ = r) := by show _ = _; rw [hr]; rfl
    clear hr
    obtain ⟨s, hs⟩ : ∃ s, s = r.getD zeroS := ⟨_, rfl⟩
    obtain ⟨g, hg⟩ : ∃ g, g = r.isSome := ⟨_, rfl⟩
    rw [← hs] at ho6 ⊢
    rw [← hg]
    have hm2 : Hid (meetO ⟨am, true, true, l, alo, ahi⟩ ⟨bm, true, false, m, blo, bhi⟩ = if g = true then some s else none) := by
      show _ = _
      rw [unhide hmeq, hs, hg]; cases r <;> rfl
    clear hs hg hmeq
    have B6 := hide (chain (unhide B5) hw6)
    have A6 := hide ((unhide A5).below hw6)
    have C6 := hide ((unhide C5).below hw6)
    have L6 := hide ((unhide L5).below hw6)
    have X6 := hide ((unhide X5).below hw6)
    have O6 := hide (ho6.mono (unhide Z5))
    obtain ⟨pa, pc, hpe⟩ := ho6.strs.val
    obtain ⟨pn, hpn⟩ : ∃ k, k = (show List Txt from s.vals).length := ⟨_, rfl⟩
    rw [← hpn] at hpe
    clear hpn hw6 ho6 B5 A5 C5 L5 X5
    subst hpe
    obtain ⟨⟨x0, x1, x2, x3, x4, x5⟩, xf, _⟩ := unhide X6
    go_upto_region 31 with (fail)
    obtain ⟨W7, hW7⟩ : ∃ W, W = ((((((w6.setCell ⟨w2.heap.size, 0, none⟩ (.bool s.miss)).setCell ⟨w2.heap.size, 1, none⟩ (.bool s.no)).setCell ⟨w2.heap.size, 2, none⟩ (.bool s.num)).setCell ⟨w2.heap.size, 3, none⟩ (.slice pa pn pc)).setCell ⟨w2.heap.size, 4, none⟩ (.int .i64 s.lo)).setCell ⟨w2.heap.size, 5, none⟩ (.int .i64 s.hi)) := ⟨_, rfl⟩
    have X7 : Hid (Box6 W7 w2.heap.size (.bool s.miss) (.bool s.no) (.bool s.num) (.slice pa pn pc) (.int .i64 s.lo) (.int .i64 s.hi)) := by rw [hW7]; exact (unhide X6).put _ _ _ _ _ _
    have O7 : Hid (Own W7 (w2.heap.size + 1) (.slice pa pn pc) s.vals) := by rw [hW7]; exact (unhide O6).grown (put6_grown _ _ _ _ _ _ _ _) (Nat.lt_succ_self _)
    have B7 : Hid (Below w.heap.size w W7) := by rw [hW7]; exact grown_below (unhide B6) (put6_grown _ _ _ _ _ _ _ _) (unhide Z2)
    have A7 : Hid (Six W7 w.heap.size (.bool am) (.bool true) (.bool true) (.slice a1 n1 c1) (.int .i64 alo) (.int .i64 ahi)) := by rw [hW7]; exact (unhide A6).other (put6_grown _ _ _ _ _ _ _ _) (fun k hk e => by have := unhide Z2b; injection hk with hk; omega)
    have C7 : Hid (Six W7 (w.heap.size + 1) (.bool bm) (.bool true) (.bool false) (.slice a2 n2 c2) (.int .i64 blo) (.int .i64 bhi)) := by rw [hW7]; exact (unhide C6).other (put6_grown _ _ _ _ _ _ _ _) (fun k hk e => by have := unhide Z2b; injection hk with hk; omega)
    have L7 : Hid (Slot W7 (w.heap.size + 1 + 1)) := by rw [hW7]; exact (unhide L6).other (put6_grown _ _ _ _ _ _ _ _) (fun k hk e => by have := unhide Z2b; injection hk with hk; omega)
    have GW7 := hide hW7
    rw [← hW7]
    clear hW7 x0 x1 x2 x3 x4 x5 xf B6 A6 C6 L6 X6 O6 GW7
    cases g
    · obtain ⟨⟨k0, k1, k2, k3, k4, k5⟩, hf, _⟩ := unhide L7
      have hans : Hid (R = (zeroS, 3)) := by show _ = _; rw [unhide HR, meet_good (unhide QA).symm (unhide QB).symm, unhide hm2]; rfl
      go_wp2_with fail
      exact bodyPost_ret (v := .tuple #[.agg #[.bool false, .bool false, .bool false, .slice none 0 0, .int .i64 0, .int .i64 0], .int .i64 3]) (by simp [results, Tryz.results34, go_sem, k0, k1, k2, k3, k4, k5]) rfl
        (setPost_is (s := zeroS) (unhide hans) rfl (own_nil _ _) (put6_below _ _ _ _ _ _ (unhide B7) (by omega)))
    · cases am
      · have hans : Hid (R = (⟨false, s.no, s.num, s.vals, s.lo, s.hi⟩, 0)) := by show _ = _; rw [unhide HR, meet_good (unhide QA).symm (unhide QB).symm, unhide hm2]; rfl
        obtain ⟨⟨k0, k1, k2, k3, k4, k5⟩, hf, _⟩ := unhide L7
        obtain ⟨⟨x0, x1, x2, x3, x4, x5⟩, xf, _⟩ := unhide X7
        have a0 := (unhide A7).1
        have c0 := (unhide C7).1
        have K8 := hide ((unhide L7).set w2.heap.size 0 (.bool false) (by have := unhide Z2b; omega))
        obtain ⟨⟨j0, j1, j2, j3, j4, j5⟩, jf, _⟩ := unhide K8
        go_wp2_with fail
        exact bodyPost_ret (v := .tuple #[.agg #[.bool false, .bool s.no, .bool s.num, .slice pa pn pc, .int .i64 s.lo, .int .i64 s.hi], .int .i64 0]) (by simp [results, Tryz.results34, go_sem, j0, j1, j2, j3, j4, j5]) rfl
          (setPost_is (s := ⟨false, s.no, s.num, s.vals, s.lo, s.hi⟩) (unhide hans) rfl ((((unhide O7).grown (set_grown W7 w2.heap.size 0 (.bool false)) (Nat.lt_succ_self _)).grown (put6_grown _ (w.heap.size + 1 + 1) _ _ _ _ _ _) (by have := unhide Z2b; omega)).mono (by have := unhide Z2b; omega)) (put6_below _ _ _ _ _ _ (grown_below (unhide B7) (set_grown W7 w2.heap.size 0 (.bool false)) (unhide Z2)) (by omega)))
      · have hans : Hid (R = (⟨bm, s.no, s.num, s.vals, s.lo, s.hi⟩, 0)) := by show _ = _; rw [unhide HR, meet_good (unhide QA).symm (unhide QB).symm, unhide hm2]; rfl
        obtain ⟨⟨k0, k1, k2, k3, k4, k5⟩, hf, _⟩ := unhide L7
        obtain ⟨⟨x0, x1, x2, x3, x4, x5⟩, xf, _⟩ := unhide X7
        have a0 := (unhide A7).1
        have c0 := (unhide C7).1
        have K8 := hide ((unhide L7).set w2.heap.size 0 (.bool bm) (by have := unhide Z2b; omega))
        obtain ⟨⟨j0, j1, j2, j3, j4, j5⟩, jf, _⟩ := unhide K8
        go_wp2_with fail
        exact bodyPost_ret (v := .tuple #[.agg #[.bool bm, .bool s.no, .bool s.num, .slice pa pn pc, .int .i64 s.lo, .int .i64 s.hi], .int .i64 0]) (by simp [results, Tryz.results34, go_sem, j0, j1, j2, j3, j4, j5]) rfl
          (setPost_is (s := ⟨bm, s.no, s.num, s.vals, s.lo, s.hi⟩) (unhide hans) rfl ((((unhide O7).grown (set_grown W7 w2.heap.size 0 (.bool bm)) (Nat.lt_succ_self _)).grown (put6_grown _ (w.heap.size + 1 + 1) _ _ _ _ _ _) (by have := unhide Z2b; omega)).mono (by have := unhide Z2b; omega)) (put6_below _ _ _ _ _ _ (grown_below (unhide B7) (set_grown W7 w2.heap.size 0 (.bool bm)) (unhide Z2)) (by omega)))
  clear hnn
  have hrb := hide1 (check_range (unhide QB).symm rfl)
  by_cases h1 : alo < blo
  · by_cases h2 : bhi < ahi
    · obtain ⟨e0, e1, e2, e3, e4, e5⟩ := unhide A5
      obtain ⟨d0, d1, d2, d3, d4, d5⟩ := unhide C5
      obtain ⟨⟨x0, x1, x2, x3, x4, x5⟩, xf, _⟩ := unhide X5
      go_wp2_with fail
      refine (rnumbers_any blo bhi _ (Val.rising (l ++ m)) _ (unhide ST5) (unhide h9) (by have h5 := unhide1 hra; have h6 := unhide1 hrb; omega) (by have h5 := unhide1 hra; have h6 := unhide1 hrb; omega) (by have h5 := unhide1 hra; have h6 := unhide1 hrb; omega) (by have h5 := unhide1 hra; have h6 := unhide1 hrb; omega)).mono ?_
      clear e0 e1 e2 e3 e4 e5 d0 d1 d2 d3 d4 d5 x0 x1 x2 x3 x4 x5 xf
      rintro e w6 ⟨v6, rfl, ho6, hw6⟩
      obtain ⟨r, hr⟩ : ∃ r, r = numbersO blo bhi (Val.rising (l ++ m)) := ⟨_, rfl⟩
      rw [← hr] at ho6 ⊢
      have hmeq : Hid (meetO ⟨am, true, true, l, alo, ahi⟩ ⟨bm, true, true, m, blo, bhi⟩ = r) := by show _ = _; rw [hr]; show numbersO (bothLo alo blo) (bothHi ahi bhi) _ = _; unfold bothLo bothHi; rw [if_pos (by omega), if_pos (by omega)]
      clear hr
      obtain ⟨s, hs⟩ : ∃ s, s = r.getD zeroS := ⟨_, rfl⟩
      obtain ⟨g, hg⟩ : ∃ g, g = r.isSome := ⟨_, rfl⟩
      rw [← hs] at ho6 ⊢
      rw [← hg]
      have hm2 : Hid (meetO ⟨am, true, true, l, alo, ahi⟩ ⟨bm, true, true, m, blo, bhi⟩ = if g = true then some s else none) := by
        show _ = _
        rw [unhide hmeq, hs, hg]; cases r <;> rfl
      clear hs hg hmeq
      have B6 := hide (chain (unhide B5) hw6)
      have A6 := hide ((unhide A5).below hw6)
      have C6 := hide ((unhide C5).below hw6)
      have L6 := hide ((unhide L5).below hw6)
      have X6 := hide ((unhide X5).below hw6)
      have O6 := hide (ho6.mono (unhide Z5))
      obtain ⟨pa, pc, hpe⟩ := ho6.strs.val
      obtain ⟨pn, hpn⟩ : ∃ k, k = (show List Txt from s.vals).length := ⟨_, rfl⟩
      rw [← hpn] at hpe
      clear hpn hw6 ho6 B5 A5 C5 L5 X5
      subst hpe
      obtain ⟨⟨x0, x1, x2, x3, x4, x5⟩, xf, _⟩ := unhide X6
      go_upto_region 31 with (fail)
      obtain ⟨W7, hW7⟩ : ∃ W, W = ((((((w6.setCell ⟨w2.heap.size, 0, none⟩ (.bool s.miss)).setCell ⟨w2.heap.size, 1, none⟩ (.bool s.no)).setCell ⟨w2.heap.size, 2, none⟩ (.bool s.num)).setCell ⟨w2.heap.size, 3, none⟩ (.slice pa pn pc)).setCell ⟨w2.heap.size, 4, none⟩ (.int .i64 s.lo)).setCell ⟨w2.heap.size, 5, none⟩ (.int .i64 s.hi)) := ⟨_, rfl⟩
      have X7 : Hid (Box6 W7 w2.heap.size (.bool s.miss) (.bool s.no) (.bool s.num) (.slice pa pn pc) (.int .i64 s.lo) (.int .i64 s.hi)) := by rw [hW7]; exact (unhide X6).put _ _ _ _ _ _
      have O7 : Hid (Own W7 (w2.heap.size + 1) (.slice pa pn pc) s.vals) := by rw [hW7]; exact (unhide O6).grown (put6_grown _ _ _ _ _ _ _ _) (Nat.lt_succ_self _)
      have B7 : Hid (Below w.heap.size w W7) := by rw [hW7]; exact grown_below (unhide B6) (put6_grown _ _ _ _ _ _ _ _) (unhide Z2)
      have A7 : Hid (Six W7 w.heap.size (.bool am) (.bool true) (.bool true) (.slice a1 n1 c1) (.int .i64 alo) (.int .i64 ahi)) := by rw [hW7]; exact (unhide A6).other (put6_grown _ _ _ _ _ _ _ _) (fun k hk e => by have := unhide Z2b; injection hk with hk; omega)
      have C7 : Hid (Six W7 (w.heap.size + 1) (.bool bm) (.bool true) (.bool true) (.slice a2 n2 c2) (.int .i64 blo) (.int .i64 bhi)) := by rw [hW7]; exact (unhide C6).other (put6_grown _ _ _ _ _ _ _ _) (fun k hk e => by have := unhide Z2b; injection hk with hk; omega)
      have L7 : Hid (Slot W7 (w.heap.size + 1 + 1)) := by rw [hW7]; exact (unhide L6).other (put6_grown _ _ _ _ _ _ _ _) (fun k hk e => by have := unhide Z2b; injection hk with hk; omega)
      have GW7 := hide hW7
      rw [← hW7]
      clear hW7 x0 x1 x2 x3 x4 x5 xf B6 A6 C6 L6 X6 O6 GW7
      cases g
      · obtain ⟨⟨k0, k1, k2, k3, k4, k5⟩, hf, _⟩ := unhide L7
        have hans : Hid (R = (zeroS, 3)) := by show _ = _; rw [unhide HR, meet_good (unhide QA).symm (unhide QB).symm, unhide hm2]; rfl
        go_wp2_with fail
        exact bodyPost_ret (v := .tuple #[.agg #[.bool false, .bool false, .bool false, .slice none 0 0, .int .i64 0, .int .i64 0], .int .i64 3]) (by simp [results, Tryz.results34, go_sem, k0, k1, k2, k3, k4, k5]) rfl
          (setPost_is (s := zeroS) (unhide hans) rfl (own_nil _ _) (put6_below _ _ _ _ _ _ (unhide B7) (by omega)))
      · cases am
        · have hans : Hid (R = (⟨false, s.no, s.num, s.vals, s.lo, s.hi⟩, 0)) := by show _ = _; rw [unhide HR, meet_good (unhide QA).symm (unhide QB).symm, unhide hm2]; rfl
          obtain ⟨⟨k0, k1, k2, k3, k4, k5⟩, hf, _⟩ := unhide L7
          obtain ⟨⟨x0, x1, x2, x3, x4, x5⟩, xf, _⟩ := unhide X7
          have a0 := (unhide A7).1
          have c0 := (unhide C7).1
          have K8 := hide ((unhide L7).set w2.heap.size 0 (.bool false) (by have := unhide Z2b; omega))
          obtain ⟨⟨j0, j1, j2, j3, j4, j5⟩, jf, _⟩ := unhide K8
          go_wp2_with fail
          exact bodyPost_ret (v := .tuple #[.agg #[.bool false, .bool s.no, .bool s.num, .slice pa pn pc, .int .i64 s.lo, .int .i64 s.hi], .int .i64 0]) (by simp [results, Tryz.results34, go_sem, j0, j1, j2, j3, j4, j5]) rfl
            (setPost_is (s := ⟨false, s.no, s.num, s.vals, s.lo, s.hi⟩) (unhide hans) rfl ((((unhide O7).grown (set_grown W7 w2.heap.size 0 (.bool false)) (Nat.lt_succ_self _)).grown (put6_grown _ (w.heap.size + 1 + 1) _ _ _ _ _ _) (by have := unhide Z2b; omega)).mono (by have := unhide Z2b; omega)) (put6_below _ _ _ _ _ _ (grown_below (unhide B7) (set_grown W7 w2.heap.size 0 (.bool false)) (unhide Z2)) (by omega)))
        · have hans : Hid (R = (⟨bm, s.no, s.num, s.vals, s.lo, s.hi⟩, 0)) := by show _ = _; rw [unhide HR, meet_good (unhide QA).symm (unhide QB).symm, unhide hm2]; rfl
          obtain ⟨⟨k0, k1, k2, k3, k4, k5⟩, hf, _⟩ := unhide L7
          obtain ⟨⟨x0, x1, x2, x3, x4, x5⟩, xf, _⟩ := unhide X7
          have a0 := (unhide A7).1
          have c0 := (unhide C7).1
          have K8 := hide ((unhide L7).set w2.heap.size 0 (.bool bm) (by have := unhide Z2b; omega))
          obtain ⟨⟨j0, j1, j2, j3, j4, j5⟩, jf, _⟩ := unhide K8
          go_wp2_with fail
          exact bodyPost_ret (v := .tuple #[.agg #[.bool bm, .bool s.no, .bool s.num, .slice pa pn pc, .int .i64 s.lo, .int .i64 s.hi], .int .i64 0]) (by simp [results, Tryz.results34, go_sem, j0, j1, j2, j3, j4, j5]) rfl
            (setPost_is (s := ⟨bm, s.no, s.num, s.vals, s.lo, s.hi⟩) (unhide hans) rfl ((((unhide O7).grown (set_grown W7 w2.heap.size 0 (.bool bm)) (Nat.lt_succ_self _)).grown (put6_grown _ (w.heap.size + 1 + 1) _ _ _ _ _ _) (by have := unhide Z2b; omega)).mono (by have := unhide Z2b; omega)) (put6_below _ _ _ _ _ _ (grown_below (unhide B7) (set_grown W7 w2.heap.size 0 (.bool bm)) (unhide Z2)) (by omega)))
    · obtain ⟨e0, e1, e2, e3, e4, e5⟩ := unhide A5
      obtain ⟨d0, d1, d2, d3, d4, d5⟩ := unhide C5
      obtain ⟨⟨x0, x1, x2, x3, x4, x5⟩, xf, _⟩ := unhide X5
      go_wp2_with fail
      refine (rnumbers_any blo ahi _ (Val.rising (l ++ m)) _ (unhide ST5) (unhide h9) (by have h5 := unhide1 hra; have h6 := unhide1 hrb; omega) (by have h5 := unhide1 hra; have h6 := unhide1 hrb; omega) (by have h5 := unhide1 hra; have h6 := unhide1 hrb; omega) (by have h5 := unhide1 hra; have h6 := unhide1 hrb; omega)).mono ?_
      clear e0 e1 e2 e3 e4 e5 d0 d1 d2 d3 d4 d5 x0 x1 x2 x3 x4 x5 xf
      rintro e w6 ⟨v6, rfl, ho6, hw6⟩
      obtain ⟨r, hr⟩ : ∃ r, r = numbersO blo ahi (Val.rising (l ++ m)) := ⟨_, rfl⟩
      rw [← hr] at ho6 ⊢
      have hmeq : Hid (meetO ⟨am, true, true, l, alo, ahi⟩ ⟨bm, true, true, m, blo, bhi⟩ = r) := by show _ = _; rw [hr]; show numbersO (bothLo alo blo) (bothHi ahi bhi) _ = _; unfold bothLo bothHi; rw [if_pos (by omega), if_neg (by omega)]
      clear hr
      obtain ⟨s, hs⟩ : ∃ s, s = r.getD zeroS := ⟨_, rfl⟩
      obtain ⟨g, hg⟩ : ∃ g, g = r.isSome := ⟨_, rfl⟩
      rw [← hs] at ho6 ⊢
      rw [← hg]
      have hm2 : Hid (meetO ⟨am, true, true, l, alo, ahi⟩ ⟨bm, true, true, m, blo, bhi⟩ = if g = true then some s else none) := by
        show _ = _
        rw [unhide hmeq, hs, hg]; cases r <;> rfl
      clear hs hg hmeq
      have B6 := hide (chain (unhide B5) hw6)
      have A6 := hide ((unhide A5).below hw6)
      have C6 := hide ((unhide C5).below hw6)
      have L6 := hide ((unhide L5).below hw6)
      have X6 := hide ((unhide X5).below hw6)
      have O6 := hide (ho6.mono (unhide Z5))
      obtain ⟨pa, pc, hpe⟩ := ho6.strs.val
      obtain ⟨pn, hpn⟩ : ∃ k, k = (show List Txt from s.vals).length := ⟨_, rfl⟩
      rw [← hpn] at hpe
      clear hpn hw6 ho6 B5 A5 C5 L5 X5
      subst hpe
      obtain ⟨⟨x0, x1, x2, x3, x4, x5⟩, xf, _⟩ := unhide X6
      go_upto_region 31 with (fail)
      obtain ⟨W7, hW7⟩ : ∃ W, W = ((((((w6.setCell ⟨w2.heap.size, 0, none⟩ (.bool s.miss)).setCell ⟨w2.heap.size, 1, none⟩ (.bool s.no)).setCell ⟨w2.heap.size, 2, none⟩ (.bool s.num)).setCell ⟨w2.heap.size, 3, none⟩ (.slice pa pn pc)).setCell ⟨w2.heap.size, 4, none⟩ (.int .i64 s.lo)).setCell ⟨w2.heap.size, 5, none⟩ (.int .i64 s.hi)) := ⟨_, rfl⟩
      have X7 : Hid (Box6 W7 w2.heap.size (.bool s.miss) (.bool s.no) (.bool s.num) (.slice pa pn pc) (.int .i64 s.lo) (.int .i64 s.hi)) := by rw [hW7]; exact (unhide X6).put _ _ _ _ _ _
      have O7 : Hid (Own W7 (w2.heap.size + 1) (.slice pa pn pc) s.vals) := by rw [hW7]; exact (unhide O6).grown (put6_grown _ _ _ _ _ _ _ _) (Nat.lt_succ_self _)
      have B7 : Hid (Below w.heap.size w W7) := by rw [hW7]; exact grown_below (unhide B6) (put6_grown _ _ _ _ _ _ _ _) (unhide Z2)
      have A7 : Hid (Six W7 w.heap.size (.bool am) (.bool true) (.bool true) (.slice a1 n1 c1) (.int .i64 alo) (.int .i64 ahi)) := by rw [hW7]; exact (unhide A6).other (put6_grown _ _ _ _ _ _ _ _) (fun k hk e => by have := unhide Z2b; injection hk with hk; omega)
      have C7 : Hid (Six W7 (w.heap.size + 1) (.bool bm) (.bool true) (.bool true) (.slice a2 n2 c2) (.int .i64 blo) (.int .i64 bhi)) := by rw [hW7]; exact (unhide C6).other (put6_grown _ _ _ _ _ _ _ _) (fun k hk e => by have := unhide Z2b; injection hk with hk; omega)
      have L7 : Hid (Slot W7 (w.heap.size + 1 + 1)) := by rw [hW7]; exact (unhide L6).other (put6_grown _ _ _ _ _ _ _ _) (fun k hk e => by have := unhide Z2b; injection hk with hk; omega)
      have GW7 := hide hW7
      rw [← hW7]
      clear hW7 x0 x1 x2 x3 x4 x5 xf B6 A6 C6 L6 X6 O6 GW7
      cases g
      · obtain ⟨⟨k0, k1, k2, k3, k4, k5⟩, hf, _⟩ := unhide L7
        have hans : Hid (R = (zeroS, 3)) := by show _ = _; rw [unhide HR, meet_good (unhide QA).symm (unhide QB).symm, unhide hm2]; rfl
        go_wp2_with fail
        exact bodyPost_ret (v := .tuple #[.agg #[.bool false, .bool false, .bool false, .slice none 0 0, .int .i64 0, .int .i64 0], .int .i64 3]) (by simp [results, Tryz.results34, go_sem, k0, k1, k2, k3, k4, k5]) rfl
          (setPost_is (s := zeroS) (unhide hans) rfl (own_nil _ _) (put6_below _ _ _ _ _ _ (unhide B7) (by omega)))
      · cases am
        · have hans : Hid (R = (⟨false, s.no, s.num, s.vals, s.lo, s.hi⟩, 0)) := by show _ = _; rw [unhide HR, meet_good (unhide QA).symm (unhide QB).symm, unhide hm2]; rfl
          obtain ⟨⟨k0, k1, k2, k3, k4, k5⟩, hf, _⟩ := unhide L7
          obtain ⟨⟨x0, x1, x2, x3, x4, x5⟩, xf, _⟩ := unhide X7
          have a0 := (unhide A7).1
          have c0 := (unhide C7).1
          have K8 := hide ((unhide L7).set w2.heap.size 0 (.bool false) (by have := unhide Z2b; omega))
          obtain ⟨⟨j0, j1, j2, j3, j4, j5⟩, jf, _⟩ := unhide K8
          go_wp2_with fail
          exact bodyPost_ret (v := .tuple #[.agg #[.bool false, .bool s.no, .bool s.num, .slice pa pn pc, .int .i64 s.lo, .int .i64 s.hi], .int .i64 0]) (by simp [results, Tryz.results34, go_sem, j0, j1, j2, j3, j4, j5]) rfl
            (setPost_is (s := ⟨false, s.no, s.num, s.vals, s.lo, s.hi⟩) (unhide hans) rfl ((((unhide O7).grown (set_grown W7 w2.heap.size 0 (.bool false)) (Nat.lt_succ_self _)).grown (put6_grown _ (w.heap.size + 1 + 1) _ _ _ _ _ _) (by have := unhide Z2b; omega)).mono (by have := unhide Z2b; omega)) (put6_below _ _ _ _ _ _ (grown_below (unhide B7) (set_grown W7 w2.heap.size 0 (.bool false)) (unhide Z2)) (by omega)))
        · have hans : Hid (R = (⟨bm, s.no, s.num, s.vals, s.lo, s.hi⟩, 0)) := by show _ = _; rw [unhide HR, meet_good (unhide QA).symm (unhide QB).symm, unhide hm2]; rfl
          obtain ⟨⟨k0, k1, k2, k3, k4, k5⟩, hf, _⟩ := unhide L7
          obtain ⟨⟨x0, x1, x2, x3, x4, x5⟩, xf, _⟩ := unhide X7
          have a0 := (unhide A7).1
          have c0 := (unhide C7).1
          have K8 := hide ((unhide L7).set w2.heap.size 0 (.bool bm) (by have := unhide Z2b; omega))
          obtain ⟨⟨j0, j1, j2, j3, j4, j5⟩, jf, _⟩ := unhide K8
          go_wp2_with fail
          exact bodyPost_ret (v := .tuple #[.agg #[.bool bm, .bool s.no, .bool s.num, .slice pa pn pc, .int .i64 s.lo, .int .i64 s.hi], .int .i64 0]) (by simp [results, Tryz.results34, go_sem, j0, j1, j2, j3, j4, j5]) rfl
            (setPost_is (s := ⟨bm, s.no, s.num, s.vals, s.lo, s.hi⟩) (unhide hans) rfl ((((unhide O7).grown (set_grown W7 w2.heap.size 0 (.bool bm)) (Nat.lt_succ_self _)).grown (put6_grown _ (w.heap.size + 1 + 1) _ _ _ _ _ _) (by have := unhide Z2b; omega)).mono (by have := unhide Z2b; omega)) (put6_below _ _ _ _ _ _ (grown_below (unhide B7) (set_grown W7 w2.heap.size 0 (.bool bm)) (unhide Z2)) (by omega)))
  · by_cases h2 : bhi < ahi
    · obtain ⟨e0, e1, e2, e3, e4, e5⟩ := unhide A5
      obtain ⟨d0, d1, d2, d3, d4, d5⟩ := unhide C5
      obtain ⟨⟨x0, x1, x2, x3, x4, x5⟩, xf, _⟩ := unhide X5
      go_wp2_with fail
      refine (rnumbers_any alo bhi _ (Val.rising (l ++ m)) _ (unhide ST5) (unhide h9) (by have h5 := unhide1 hra; have h6 := unhide1 hrb; omega) (by have h5 := unhide1 hra; have h6 := unhide1 hrb; omega) (by have h5 := unhide1 hra; have h6 := unhide1 hrb; omega) (by have h5 := unhide1 hra; have h6 := unhide1 hrb; omega)).mono ?_
      clear e0 e1 e2 e3 e4 e5 d0 d1 d2 d3 d4 d5 x0 x1 x2 x3 x4 x5 xf
      rintro e w6 ⟨v6, rfl, ho6, hw6⟩
      obtain ⟨r, hr⟩ : ∃ r, r = numbersO alo bhi (Val.rising (l ++ m)) := ⟨_, rfl⟩
      rw [← hr] at ho6 ⊢
      have hmeq : Hid (meetO ⟨am, true, true, l, alo, ahi⟩ ⟨bm, true, true, m, blo, bhi⟩ = r) := by show _ = _; rw [hr]; show numbersO (bothLo alo blo) (bothHi ahi bhi) _ = _; unfold bothLo bothHi; rw [if_neg (by omega), if_pos (by omega)]
      clear hr
      obtain ⟨s, hs⟩ : ∃ s, s = r.getD zeroS := ⟨_, rfl⟩
      obtain ⟨g, hg⟩ : ∃ g, g = r.isSome := ⟨_, rfl⟩
      rw [← hs] at ho6 ⊢
      rw [← hg]
      have hm2 : Hid (meetO ⟨am, true, true, l, alo, ahi⟩ ⟨bm, true, true, m, blo, bhi⟩ = if g = true then some s else none) := by
        show _ = _
        rw [unhide hmeq, hs, hg]; cases r <;> rfl
      clear hs hg hmeq
      have B6 := hide (chain (unhide B5) hw6)
      have A6 := hide ((unhide A5).below hw6)
      have C6 := hide ((unhide C5).below hw6)
      have L6 := hide ((unhide L5).below hw6)
      have X6 := hide ((unhide X5).below hw6)
      have O6 := hide (ho6.mono (unhide Z5))
      obtain ⟨pa, pc, hpe⟩ := ho6.strs.val
      obtain ⟨pn, hpn⟩ : ∃ k, k = (show List Txt from s.vals).length := ⟨_, rfl⟩
      rw [← hpn] at hpe
      clear hpn hw6 ho6 B5 A5 C5 L5 X5
      subst hpe
      obtain ⟨⟨x0, x1, x2, x3, x4, x5⟩, xf, _⟩ := unhide X6
      go_upto_region 31 with (fail)
      obtain ⟨W7, hW7⟩ : ∃ W, W = ((((((w6.setCell ⟨w2.heap.size, 0, none⟩ (.bool s.miss)).setCell ⟨w2.heap.size, 1, none⟩ (.bool s.no)).setCell ⟨w2.heap.size, 2, none⟩ (.bool s.num)).setCell ⟨w2.heap.size, 3, none⟩ (.slice pa pn pc)).setCell ⟨w2.heap.size, 4, none⟩ (.int .i64 s.lo)).setCell ⟨w2.heap.size, 5, none⟩ (.int .i64 s.hi)) := ⟨_, rfl⟩
      have X7 : Hid (Box6 W7 w2.heap.size (.bool s.miss) (.bool s.no) (.bool s.num) (.slice pa pn pc) (.int .i64 s.lo) (.int .i64 s.hi)) := by rw [hW7]; exact (unhide X6).put _ _ _ _ _ _
      have O7 : Hid (Own W7 (w2.heap.size + 1) (.slice pa pn pc) s.vals) := by rw [hW7]; exact (unhide O6).grown (put6_grown _ _ _ _ _ _ _ _) (Nat.lt_succ_self _)
      have B7 : Hid (Below w.heap.size w W7) := by rw [hW7]; exact grown_below (unhide B6) (put6_grown _ _ _ _ _ _ _ _) (unhide Z2)
      have A7 : Hid (Six W7 w.heap.size (.bool am) (.bool true) (.bool true) (.slice a1 n1 c1) (.int .i64 alo) (.int .i64 ahi)) := by rw [hW7]; exact (unhide A6).other (put6_grown _ _ _ _ _ _ _ _) (fun k hk e => by have := unhide Z2b; injection hk with hk; omega)
      have C7 : Hid (Six W7 (w.heap.size + 1) (.bool bm) (.bool true) (.bool true) (.slice a2 n2 c2) (.int .i64 blo) (.int .i64 bhi)) := by rw [hW7]; exact (unhide C6).other (put6_grown _ _ _ _ _ _ _ _) (fun k hk e => by have := unhide Z2b; injection hk with hk; omega)
      have L7 : Hid (Slot W7 (w.heap.size + 1 + 1)) := by rw [hW7]; exact (unhide L6).other (put6_grown _ _ _ _ _ _ _ _) (fun k hk e => by have := unhide Z2b; injection hk with hk; omega)
      have GW7 := hide hW7
      rw [← hW7]
      clear hW7 x0 x1 x2 x3 x4 x5 xf B6 A6 C6 L6 X6 O6 GW7
      cases g
      · obtain ⟨⟨k0, k1, k2, k3, k4, k5⟩, hf, _⟩ := unhide L7
        have hans : Hid (R = (zeroS, 3)) := by show _ = _; rw [unhide HR, meet_good (unhide QA).symm (unhide QB).symm, unhide hm2]; rfl
        go_wp2_with fail
        exact bodyPost_ret (v := .tuple #[.agg #[.bool false, .bool false, .bool false, .slice none 0 0, .int .i64 0, .int .i64 0], .int .i64 3]) (by simp [results, Tryz.results34, go_sem, k0, k1, k2, k3, k4, k5]) rfl
          (setPost_is (s := zeroS) (unhide hans) rfl (own_nil _ _) (put6_below _ _ _ _ _ _ (unhide B7) (by omega)))
      · cases am
        · have hans : Hid (R = (⟨false, s.no, s.num, s.vals, s.lo, s.hi⟩, 0)) := by show _ = _; rw [unhide HR, meet_good (unhide QA).symm (unhide QB).symm, unhide hm2]; rfl
          obtain ⟨⟨k0, k1, k2, k3, k4, k5⟩, hf, _⟩ := unhide L7
          obtain ⟨⟨x0, x1, x2, x3, x4, x5⟩, xf, _⟩ := unhide X7
          have a0 := (unhide A7).1
          have c0 := (unhide C7).1
          have K8 := hide ((unhide L7).set w2.heap.size 0 (.bool false) (by have := unhide Z2b; omega))
          obtain ⟨⟨j0, j1, j2, j3, j4, j5⟩, jf, _⟩ := unhide K8
          go_wp2_with fail
          exact bodyPost_ret (v := .tuple #[.agg #[.bool false, .bool s.no, .bool s.num, .slice pa pn pc, .int .i64 s.lo, .int .i64 s.hi], .int .i64 0]) (by simp [results, Tryz.results34, go_sem, j0, j1, j2, j3, j4, j5]) rfl
            (setPost_is (s := ⟨false, s.no, s.num, s.vals, s.lo, s.hi⟩) (unhide hans) rfl ((((unhide O7).grown (set_grown W7 w2.heap.size 0 (.bool false)) (Nat.lt_succ_self _)).grown (put6_grown _ (w.heap.size + 1 + 1) _ _ _ _ _ _) (by have := unhide Z2b; omega)).mono (by have := unhide Z2b; omega)) (put6_below _ _ _ _ _ _ (grown_below (unhide B7) (set_grown W7 w2.heap.size 0 (.bool false)) (unhide Z2)) (by omega)))
        · have hans : Hid (R = (⟨bm, s.no, s.num, s.vals, s.lo, s.hi⟩, 0)) := by show _ = _; rw [unhide HR, meet_good (unhide QA).symm (unhide QB).symm, unhide hm2]; rfl
          obtain ⟨⟨k0, k1, k2, k3, k4, k5⟩, hf, _⟩ := unhide L7
          obtain ⟨⟨x0, x1, x2, x3, x4, x5⟩, xf, _⟩ := unhide X7
          have a0 := (unhide A7).1
          have c0 := (unhide C7).1
          have K8 := hide ((unhide L7).set w2.heap.size 0 (.bool bm) (by have := unhide Z2b; omega))
          obtain ⟨⟨j0, j1, j2, j3, j4, j5⟩, jf, _⟩ := unhide K8
          go_wp2_with fail
          exact bodyPost_ret (v := .tuple #[.agg #[.bool bm, .bool s.no, .bool s.num, .slice pa pn pc, .int .i64 s.lo, .int .i64 s.hi], .int .i64 0]) (by simp [results, Tryz.results34, go_sem, j0, j1, j2, j3, j4, j5]) rfl
            (setPost_is (s := ⟨bm, s.no, s.num, s.vals, s.lo, s.hi⟩) (unhide hans) rfl ((((unhide O7).grown (set_grown W7 w2.heap.size 0 (.bool bm)) (Nat.lt_succ_self _)).grown (put6_grown _ (w.heap.size + 1 + 1) _ _ _ _ _ _) (by have := unhide Z2b; omega)).mono (by have := unhide Z2b; omega)) (put6_below _ _ _ _ _ _ (grown_below (unhide B7) (set_grown W7 w2.heap.size 0 (.bool bm)) (unhide Z2)) (by omega)))
    · obtain ⟨e0, e1, e2, e3, e4, e5⟩ := unhide A5
      obtain ⟨d0, d1, d2, d3, d4, d5⟩ := unhide C5
      obtain ⟨⟨x0, x1, x2, x3, x4, x5⟩, xf, _⟩ := unhide X5
      go_wp2_with fail
      refine (rnumbers_any alo ahi _ (Val.rising (l ++ m)) _ (unhide ST5) (unhide h9) (by have h5 := unhide1 hra; have h6 := unhide1 hrb; omega) (by have h5 := unhide1 hra; have h6 := unhide1 hrb; omega) (by have h5 := unhide1 hra; have h6 := unhide1 hrb; omega) (by have h5 := unhide1 hra; have h6 := unhide1 hrb; omega)).mono ?_
      clear e0 e1 e2 e3 e4 e5 d0 d1 d2 d3 d4 d5 x0 x1 x2 x3 x4 x5 xf
      rintro e w6 ⟨v6, rfl, ho6, hw6⟩
      obtain ⟨r, hr⟩ : ∃ r, r = numbersO alo ahi (Val.rising (l ++ m)) := ⟨_, rfl⟩
      rw [← hr] at ho6 ⊢
      have hmeq : Hid (meetO ⟨am, true, true, l, alo, ahi⟩ ⟨bm, true, true, m, blo, bhi⟩ = r) := by show _ = _; rw [hr]; show numbersO (bothLo alo blo) (bothHi ahi bhi) _ = _; unfold bothLo bothHi; rw [if_neg (by omega), if_neg (by omega)]
      clear hr
      obtain ⟨s, hs⟩ : ∃ s, s = r.getD zeroS := ⟨_, rfl⟩
      obtain ⟨g, hg⟩ : ∃ g, g = r.isSome := ⟨_, rfl⟩
      rw [← hs] at ho6 ⊢
      rw [← hg]
      have hm2 : Hid (meetO ⟨am, true, true, l, alo, ahi⟩ ⟨bm, true, true, m, blo, bhi⟩ = if g = true then some s else none) := by
        show _ = _
        rw [unhide hmeq, hs, hg]; cases r <;> rfl
      clear hs hg hmeq
      have B6 := hide (chain (unhide B5) hw6)
      have A6 := hide ((unhide A5).below hw6)
      have C6 := hide ((unhide C5).below hw6)
      have L6 := hide ((unhide L5).below hw6)
      have X6 := hide ((unhide X5).below hw6)
      have O6 := hide (ho6.mono (unhide Z5))
      obtain ⟨pa, pc, hpe⟩ := ho6.strs.val
      obtain ⟨pn, hpn⟩ : ∃ k, k = (show List Txt from s.vals).length := ⟨_, rfl⟩
      rw [← hpn] at hpe
      clear hpn hw6 ho6 B5 A5 C5 L5 X5
      subst hpe
      obtain ⟨⟨x0, x1, x2, x3, x4, x5⟩, xf, _⟩ := unhide X6
      go_upto_region 31 with (fail)
      obtain ⟨W7, hW7⟩ : ∃ W, W = ((((((w6.setCell ⟨w2.heap.size, 0, none⟩ (.bool s.miss)).setCell ⟨w2.heap.size, 1, none⟩ (.bool s.no)).setCell ⟨w2.heap.size, 2, none⟩ (.bool s.num)).setCell ⟨w2.heap.size, 3, none⟩ (.slice pa pn pc)).setCell ⟨w2.heap.size, 4, none⟩ (.int .i64 s.lo)).setCell ⟨w2.heap.size, 5, none⟩ (.int .i64 s.hi)) := ⟨_, rfl⟩
      have X7 : Hid (Box6 W7 w2.heap.size (.bool s.miss) (.bool s.no) (.bool s.num) (.slice pa pn pc) (.int .i64 s.lo) (.int .i64 s.hi)) := by rw [hW7]; exact (unhide X6).put _ _ _ _ _ _
      have O7 : Hid (Own W7 (w2.heap.size + 1) (.slice pa pn pc) s.vals) := by rw [hW7]; exact (unhide O6).grown (put6_grown _ _ _ _ _ _ _ _) (Nat.lt_succ_self _)
      have B7 : Hid (Below w.heap.size w W7) := by rw [hW7]; exact grown_below (unhide B6) (put6_grown _ _ _ _ _ _ _ _) (unhide Z2)
      have A7 : Hid (Six W7 w.heap.size (.bool am) (.bool true) (.bool true) (.slice a1 n1 c1) (.int .i64 alo) (.int .i64 ahi)) := by rw [hW7]; exact (unhide A6).other (put6_grown _ _ _ _ _ _ _ _) (fun k hk e => by have := unhide Z2b; injection hk with hk; omega)
      have C7 : Hid (Six W7 (w.heap.size + 1) (.bool bm) (.bool true) (.bool true) (.slice a2 n2 c2) (.int .i64 blo) (.int .i64 bhi)) := by rw [hW7]; exact (unhide C6).other (put6_grown _ _ _ _ _ _ _ _) (fun k hk e => by have := unhide Z2b; injection hk with hk; omega)
      have L7 : Hid (Slot W7 (w.heap.size + 1 + 1)) := by rw [hW7]; exact (unhide L6).other (put6_grown _ _ _ _ _ _ _ _) (fun k hk e => by have := unhide Z2b; injection hk with hk; omega)
      have GW7 := hide hW7
      rw [← hW7]
      clear hW7 x0 x1 x2 x3 x4 x5 xf B6 A6 C6 L6 X6 O6 GW7
      cases g
      · obtain ⟨⟨k0, k1, k2, k3, k4, k5⟩, hf, _⟩ := unhide L7
        have hans : Hid (R = (zeroS, 3)) := by show _ = _; rw [unhide HR, meet_good (unhide QA).symm (unhide QB).symm, unhide hm2]; rfl
        go_wp2_with fail
        exact bodyPost_ret (v := .tuple #[.agg #[.bool false, .bool false, .bool false, .slice none 0 0, .int .i64 0, .int .i64 0], .int .i64 3]) (by simp [results, Tryz.results34, go_sem, k0, k1, k2, k3, k4, k5]) rfl
          (setPost_is (s := zeroS) (unhide hans) rfl (own_nil _ _) (put6_below _ _ _ _ _ _ (unhide B7) (by omega)))
      · cases am
        · have hans : Hid (R = (⟨false, s.no, s.num, s.vals, s.lo, s.hi⟩, 0)) := by show _ = _; rw [unhide HR, meet_good (unhide QA).symm (unhide QB).symm, unhide hm2]; rfl
          obtain ⟨⟨k0, k1, k2, k3, k4, k5⟩, hf, _⟩ := unhide L7
          obtain ⟨⟨x0, x1, x2, x3, x4, x5⟩, xf, _⟩ := unhide X7
          have a0 := (unhide A7).1
          have c0 := (unhide C7).1
          have K8 := hide ((unhide L7).set w2.heap.size 0 (.bool false) (by have := unhide Z2b; omega))
          obtain ⟨⟨j0, j1, j2, j3, j4, j5⟩, jf, _⟩ := unhide K8
          go_wp2_with fail
          exact bodyPost_ret (v := .tuple #[.agg #[.bool false, .bool s.no, .bool s.num, .slice pa pn pc, .int .i64 s.lo, .int .i64 s.hi], .int .i64 0]) (by simp [results, Tryz.results34, go_sem, j0, j1, j2, j3, j4, j5]) rfl
            (setPost_is (s := ⟨false, s.no, s.num, s.vals, s.lo, s.hi⟩) (unhide hans) rfl ((((unhide O7).grown (set_grown W7 w2.heap.size 0 (.bool false)) (Nat.lt_succ_self _)).grown (put6_grown _ (w.heap.size + 1 + 1) _ _ _ _ _ _) (by have := unhide Z2b; omega)).mono (by have := unhide Z2b; omega)) (put6_below _ _ _ _ _ _ (grown_below (unhide B7) (set_grown W7 w2.heap.size 0 (.bool false)) (unhide Z2)) (by omega)))
        · have hans : Hid (R = (⟨bm, s.no, s.num, s.vals, s.lo, s.hi⟩, 0)) := by show _ = _; rw [unhide HR, meet_good (unhide QA).symm (unhide QB).symm, unhide hm2]; rfl
          obtain ⟨⟨k0, k1, k2, k3, k4, k5⟩, hf, _⟩ := unhide L7
          obtain ⟨⟨x0, x1, x2, x3, x4, x5⟩, xf, _⟩ := unhide X7
          have a0 := (unhide A7).1
          have c0 := (unhide C7).1
          have K8 := hide ((unhide L7).set w2.heap.size 0 (.bool bm) (by have := unhide Z2b; omega))
          obtain ⟨⟨j0, j1, j2, j3, j4, j5⟩, jf, _⟩ := unhide K8
          go_wp2_with fail
          exact bodyPost_ret (v := .tuple #[.agg #[.bool bm, .bool s.no, .bool s.num, .slice pa pn pc, .int .i64 s.lo, .int .i64 s.hi], .int .i64 0]) (by simp [results, Tryz.results34, go_sem, j0, j1, j2, j3, j4, j5]) rfl
            (setPost_is (s := ⟨bm, s.no, s.num, s.vals, s.lo, s.hi⟩) (unhide hans) rfl ((((unhide O7).grown (set_grown W7 w2.heap.size 0 (.bool bm)) (Nat.lt_succ_self _)).grown (put6_grown _ (w.heap.size + 1 + 1) _ _ _ _ _ _) (by have := unhide Z2b; omega)).mono (by have := unhide Z2b; omega)) (put6_below _ _ _ _ _ _ (grown_below (unhide B7) (set_grown W7 w2.heap.size 0 (.bool bm)) (unhide Z2)) (by omega)))
end Go.Proofs.YtnkcbmlobikjkaaGreatDoor
