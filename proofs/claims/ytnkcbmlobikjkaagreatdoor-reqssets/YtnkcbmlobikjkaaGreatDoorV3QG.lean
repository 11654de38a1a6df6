/- Layer 3: contract of Meet. -/
import Derived.Test.YtnkcbmlobikjkaaGreatDoorV3NG
namespace Go.Proofs.YtnkcbmlobikjkaaGreatDoor
open Go.RowKit Suf Val Go.Maps

theorem meet_bad1 {a b : VSet} (h : checkB a = false) : meetR a b = (zeroS, 1) := by unfold meetR; rw [if_pos h]
theorem meet_bad2 {a b : VSet} (h0 : checkB a = true) (h : checkB b = false) : meetR a b = (zeroS, 1) := by unfold meetR; rw [if_neg (by rw [h0]; decide), if_pos h]
def met (o : Option VSet) (m : Bool) : VSet × Int := match o with | some s => (setMiss s m, 0) | none => (zeroS, 3)
theorem meet_good {a b : VSet} (h0 : checkB a = true) (h1 : checkB b = true) : meetR a b = met (meetO a b) (a.miss && b.miss) := by
  unfold meetR; rw [if_neg (by rw [h0]; decide), if_neg (by rw [h1]; decide)]; cases meetO a b <;> rfl
theorem rising_filter {l : List Txt} (p : Txt → Bool) (h : rises l = true) : rising (l.filter p) = l.filter p := rising_self (up_filter p ((up_iff l).1 h))
theorem filter_has {l : List Txt} {s : VSet} (hl : ∀ t ∈ l, valueB t = true) (hs : checkB s = true) : l.filter (hasP s.no s.num s.vals s.lo s.hi) = l.filter (hasB s) := by
  refine List.filter_congr fun t ht => ?_
  rw [hasP_in s hs t, has_in hs t (hl t ht)]
theorem check_len {s : VSet} (h : checkB s = true) : s.vals.length ≤ 64 := ((ordered_iff _).1 ((check_iff s).1 h).1).1
theorem check_vals {s : VSet} (h : checkB s = true) : ∀ t ∈ s.vals, valueB t = true := ((ordered_iff _).1 ((check_iff s).1 h).1).2.1
/-- Between which numbers a set's numbers lie. -/
def lowOf (s : VSet) : Int := if s.num = true then s.lo else -2147483648
def highOf (s : VSet) : Int := if s.num = true then s.hi else 2147483648
theorem meet_list1 {a b : VSet} (ha : checkB a = true) (hb : checkB b = true) (hn : a.no = false) : meetR a b = (⟨a.miss && b.miss, false, false, rising (a.vals.filter (hasP b.no b.num b.vals b.lo b.hi)), 0, 0⟩, 0) := by
  rw [meet_good ha hb, rising_filter _ (check_rises ha), filter_has (check_vals ha) hb]
  unfold meetO; rw [if_pos hn]; rfl
theorem meet_list2 {a b : VSet} (ha : checkB a = true) (hb : checkB b = true) (hn : a.no = true) (hm : b.no = false) : meetR a b = (⟨a.miss && b.miss, false, false, rising (b.vals.filter (hasP a.no a.num a.vals a.lo a.hi)), 0, 0⟩, 0) := by
  rw [meet_good ha hb, rising_filter _ (check_rises hb), filter_has (check_vals hb) ha]
  unfold meetO; rw [if_neg (by rw [hn]; decide), if_pos hm]; rfl
theorem meet_but {a b : VSet} (ha : checkB a = true) (hb : checkB b = true) (hn : a.no = true) (hm : b.no = true) (h1 : a.num = false) (h2 : b.num = false) :
    meetR a b = if (rising (a.vals ++ b.vals)).length ≤ 64 then (⟨a.miss && b.miss, true, false, rising (a.vals ++ b.vals), 0, 0⟩, 0) else (zeroS, 3) := by
  rw [meet_good ha hb]
  unfold meetO
  rw [if_neg (by rw [hn]; decide), if_neg (by rw [hm]; decide), if_pos ⟨h1, h2⟩]
  unfold butS
  by_cases hl : (rising (a.vals ++ b.vals)).length ≤ 64
  · rw [if_pos hl, if_pos hl]; rfl
  · rw [if_neg hl, if_neg hl]; rfl
theorem check_range {s : VSet} (h : checkB s = true) (hn : s.num = true) : -2147483648 ≤ s.lo ∧ s.hi ≤ 2147483648 ∧ s.lo ≤ s.hi := by
  have := no_nums h (by rw [hn]; decide)
  exact ⟨this.2.2.1, this.2.2.2.1, this.2.2.2.2.1⟩
theorem low_range {s : VSet} (h : checkB s = true) : -2147483648 ≤ lowOf s ∧ lowOf s ≤ 2147483648 ∧ -2147483648 ≤ highOf s ∧ highOf s ≤ 2147483648 := by
  unfold lowOf highOf
  cases hn : s.num with
  | false => simp
  | true => have := check_range h hn; simp; omega
theorem meet_nums {a b : VSet} (ha : checkB a = true) (hb : checkB b = true) (hn : a.no = true) (hm : b.no = true) (h : ¬ (a.num = false ∧ b.num = false)) :
    meetR a b = met (numbersO (max (lowOf a) (lowOf b)) (min (highOf a) (highOf b)) (a.vals ++ b.vals)) (a.miss && b.miss) := by
  rw [meet_good ha hb]
  unfold meetO
  rw [if_neg (by rw [hn]; decide), if_neg (by rw [hm]; decide), if_neg h]
  have hc : ∀ lo hi, numbersO lo hi (rising (a.vals ++ b.vals)) = numbersO lo hi (a.vals ++ b.vals) := fun lo hi => numbers_congr (fun x => mem_rising _ x) lo hi
  rw [hc, hc, hc]
  unfold lowOf highOf bothLo bothHi
  cases h1 : a.num
  · cases h2 : b.num
    · exact absurd ⟨h1, h2⟩ h
    · have := check_range hb h2
      simp only [if_true, Bool.false_eq_true, if_false]
      rw [show max (-2147483648) b.lo = b.lo by omega, show min 2147483648 b.hi = b.hi by omega]
  · have := check_range ha h1
    cases h2 : b.num
    · simp only [if_true, Bool.true_eq_false, Bool.false_eq_true, if_false]
      rw [show max a.lo (-2147483648) = a.lo by omega, show min a.hi 2147483648 = a.hi by omega]
    · simp only [if_true, Bool.true_eq_false, if_false]
      rw [show (if a.lo < b.lo then b.lo else a.lo) = max a.lo b.lo by split <;> omega, show (if b.hi < a.hi then b.hi else a.hi) = min a.hi b.hi by split <;> omega]

set_option maxRecDepth 100000 in
set_option maxHeartbeats 8000000 in
theorem meet_any (am an aq : Bool) (u : Value) (l : List Txt) (alo ahi : Int) (bm bn bq : Bool) (v : Value) (m : List Txt) (blo bhi : Int) (w : World) (hL : Laid w) (hu : Strs w u l) (hv : Strs w v m) :
    Calls Tryz.prog 47 #[.agg #[.bool am, .bool an, .bool aq, u, .int .i64 alo, .int .i64 ahi], .agg #[.bool bm, .bool bn, .bool bq, v, .int .i64 blo, .int .i64 bhi]] w fun e w' => setPost (meetR ⟨am, an, aq, l, alo, ahi⟩ ⟨bm, bn, bq, m, blo, bhi⟩) w e w' := by
  have HL := hide hL
  have HU := hide hu
  have HV := hide hv
  clear hL
  obtain ⟨a1, c1, rfl⟩ := hu.val
  obtain ⟨a2, c2, rfl⟩ := hv.val
  clear hu hv
  obtain ⟨n1, hn1⟩ : ∃ n, n = l.length := ⟨_, rfl⟩
  obtain ⟨n2, hn2⟩ : ∃ n, n = m.length := ⟨_, rfl⟩
  rw [← hn1] at HU ⊢
  rw [← hn2] at HV ⊢
  clear hn1 hn2
  obtain ⟨R, hR⟩ : ∃ R, R = setPost (meetR ⟨am, an, aq, l, alo, ahi⟩ ⟨bm, bn, bq, m, blo, bhi⟩) w := ⟨_, rfl⟩
  show Calls _ _ _ _ (fun e w' => setPost (meetR ⟨am, an, aq, l, alo, ahi⟩ ⟨bm, bn, bq, m, blo, bhi⟩) w e w')
  rw [← hR]
  have HR := hide hR
  clear hR
  obtain ⟨qa, hqa⟩ : ∃ q, q = checkB ⟨am, an, aq, l, alo, ahi⟩ := ⟨_, rfl⟩
  obtain ⟨qb, hqb⟩ : ∃ q, q = checkB ⟨bm, bn, bq, m, blo, bhi⟩ := ⟨_, rfl⟩
  have QA := hide hqa
  have QB := hide hqb
  clear hqa hqb
  obtain ⟨W0, hW0⟩ : ∃ W0, W0 = (((w.alloc (.cells #[.bool am, .bool an, .bool aq, .slice a1 n1 c1, .int .i64 alo, .int .i64 ahi] 42)).alloc (.cells #[.bool bm, .bool bn, .bool bq, .slice a2 n2 c2, .int .i64 blo, .int .i64 bhi] 42)).alloc (.cells #[.bool false, .bool false, .bool false, .slice none 0 0, .int .i64 0, .int .i64 0] 42)) := ⟨_, rfl⟩
  have hb0 : Hid (Below w.heap.size w W0) := by rw [hW0]; exact (((box_below _).alloc (by simp) _).alloc (by simp; omega) _)
  have hA0 : Hid (Six W0 w.heap.size (.bool am) (.bool an) (.bool aq) (.slice a1 n1 c1) (.int .i64 alo) (.int .i64 ahi)) := by
    rw [hW0]; exact ((six_new w _ _ _ _ _ _ _).below (box_below _)).below (box_below _)
  have hB0 : Hid (Six W0 (w.heap.size + 1) (.bool bm) (.bool bn) (.bool bq) (.slice a2 n2 c2) (.int .i64 blo) (.int .i64 bhi)) := by
    have := six_new (w.alloc (.cells #[.bool am, .bool an, .bool aq, .slice a1 n1 c1, .int .i64 alo, .int .i64 ahi] 42)) (.bool bm) (.bool bn) (.bool bq) (.slice a2 n2 c2) (.int .i64 blo) (.int .i64 bhi) 42
    rw [show (w.alloc (.cells #[.bool am, .bool an, .bool aq, .slice a1 n1 c1, .int .i64 alo, .int .i64 ahi] 42)).heap.size = w.heap.size + 1 by simp] at this
    rw [hW0]; exact this.below (box_below _)
  have hS0 : Hid (Slot W0 (w.heap.size + 1 + 1)) := by
    have := slot_new ((w.alloc (.cells #[.bool am, .bool an, .bool aq, .slice a1 n1 c1, .int .i64 alo, .int .i64 ahi] 42)).alloc (.cells #[.bool bm, .bool bn, .bool bq, .slice a2 n2 c2, .int .i64 blo, .int .i64 bhi] 42)) 42
    rw [show ((w.alloc (.cells #[.bool am, .bool an, .bool aq, .slice a1 n1 c1, .int .i64 alo, .int .i64 ahi] 42)).alloc (.cells #[.bool bm, .bool bn, .bool bq, .slice a2 n2 c2, .int .i64 blo, .int .i64 bhi] 42)).heap.size = w.heap.size + 1 + 1 by simp] at this
    rw [hW0]; exact this
  have GW := hide hW0
  clear hW0
  go_enter Tryz.func47, Tryz.ntmps47
  go_wp2_with fail
  rw [← unhide GW]
  refine (check_any am an aq _ l alo ahi _ ((unhide HL).below (unhide hb0)) ((unhide HU).below (unhide hb0))).mono ?_
  rintro e w1 ⟨he, hw1⟩
  rw [← unhide QA] at he
  subst he
  have B1 := hide (chain (unhide hb0) hw1)
  have A1 := hide ((unhide hA0).below hw1)
  have C1 := hide ((unhide hB0).below hw1)
  have S1 := hide ((unhide hS0).below hw1)
  clear hw1 hb0 hA0 hB0 hS0 GW
  cases qa
  · rw [show errC false = 1 from rfl]
    have hans := hide (meet_bad1 (b := ⟨bm, bn, bq, m, blo, bhi⟩) (unhide QA).symm)
    obtain ⟨⟨k0, k1, k2, k3, k4, k5⟩, hf, _⟩ := unhide S1
    go_wp2_with fail
    refine bodyPost_ret (v := .tuple #[.agg #[.bool false, .bool false, .bool false, .slice none 0 0, .int .i64 0, .int .i64 0], .int .i64 1]) (by simp [results, Tryz.results47, go_sem, k0, k1, k2, k3, k4, k5]) rfl ?_
    rw [unhide HR, unhide hans]
    exact setPost_zero rfl (put6_below _ _ _ _ _ _ (unhide B1) (by omega))
  rw [show errC true = 0 from rfl]
  obtain ⟨d0, d1, d2, d3, d4, d5⟩ := unhide C1
  go_wp2_with fail
  refine (check_any bm bn bq _ m blo bhi _ ((unhide HL).below (unhide B1)) ((unhide HV).below (unhide B1))).mono ?_
  clear d0 d1 d2 d3 d4 d5
  rintro e w2 ⟨he, hw2⟩
  rw [← unhide QB] at he
  subst he
  have B2 := hide (chain (unhide B1) hw2)
  have A2 := hide ((unhide A1).below hw2)
  have C2 := hide ((unhide C1).below hw2)
  have S2 := hide ((unhide S1).below hw2)
  clear hw2 B1 A1 C1 S1
  cases qb
  · rw [show errC false = 1 from rfl]
    have hans := hide (meet_bad2 (unhide QA).symm (unhide QB).symm)
    obtain ⟨⟨k0, k1, k2, k3, k4, k5⟩, hf, _⟩ := unhide S2
    go_wp2_with fail
    refine bodyPost_ret (v := .tuple #[.agg #[.bool false, .bool false, .bool false, .slice none 0 0, .int .i64 0, .int .i64 0], .int .i64 1]) (by simp [results, Tryz.results47, go_sem, k0, k1, k2, k3, k4, k5]) rfl ?_
    rw [unhide HR, unhide hans]
    exact setPost_zero rfl (put6_below _ _ _ _ _ _ (unhide B2) (by omega))
  rw [show errC true = 0 from rfl]
  have L2 := hide ((unhide HL).below (unhide B2))
  have U2 := hide ((unhide HU).below (unhide B2))
  have V2 := hide ((unhide HV).below (unhide B2))
  cases am
  · skip
    cases an
    · have hans := hide (meet_list1 (unhide QA).symm (unhide QB).symm rfl)
      have hlen : Hid ((rising (l.filter (hasP bn bq m blo bhi))).length ≤ 1000) := Nat.le_trans (rising_le _) (Nat.le_trans (List.length_filter_le _ _) (Nat.le_trans (check_len (unhide QA).symm) (by decide)))
      have hris := hide (check_rises (unhide QB).symm)
      obtain ⟨e0, e1, e2, e3, e4, e5⟩ := unhide A2
      obtain ⟨d0, d1, d2, d3, d4, d5⟩ := unhide C2
      go_wp2_with fail
      refine (shared_any false false aq _ l alo ahi bm bn bq _ m blo bhi _ (unhide L2) (unhide U2) (unhide V2) (unhide hris)).mono ?_
      clear e0 e1 e2 e3 e4 e5 d0 d1 d2 d3 d4 d5
      rintro e w3 ⟨b, rfl, hk3, hb3, hw3⟩
      have K3 := hide hk3
      have B3 := hide (chain (unhide B2) hw3)
      have S3 := hide ((unhide S2).below hw3)
      clear hk3 hb3 hw3 S2 B2
      go_wp2_with fail
      refine (list_any false b _ _ (unhide K3) (unhide hlen)).mono ?_
      rintro e w4 ⟨v4, rfl, hown, hw4⟩
      obtain ⟨a4, c4, rfl⟩ := hown.strs.val
      have B4 := hide (chain (unhide B3) hw4)
      have hlt4 := hide ((unhide S3).2.2)
      have hle4 := hide ((unhide B3).size)
      obtain ⟨⟨k0, k1, k2, k3, k4, k5⟩, hf, _⟩ := (unhide S3).below hw4
      have HO := hide hown
      obtain ⟨n4, hn4⟩ : ∃ n, n = (rising (l.filter (hasP bn bq m blo bhi))).length := ⟨_, rfl⟩
      rw [← hn4] at HO ⊢
      clear hw4 hown hn4 S3 K3
      go_wp2_with fail
      refine bodyPost_ret (v := .tuple #[.agg #[.bool false, .bool false, .bool false, .slice a4 n4 c4, .int .i64 0, .int .i64 0], .int .i64 0]) (by simp [results, Tryz.results47, go_sem, k0, k1, k2, k3, k4, k5]) rfl ?_
      rw [unhide HR, unhide hans]
      refine setPost_of (r := (⟨false, false, false, rising (l.filter (hasP bn bq m blo bhi)), 0, 0⟩, 0)) ?_ (((unhide HO).grown (put6_grown w4 (w.heap.size + 1 + 1) _ _ _ _ _ _) (unhide hlt4)).mono (unhide hle4)) (put6_below _ _ _ _ _ _ (unhide B4) (by omega))
      rfl
    cases bn
    · have hans := hide (meet_list2 (unhide QA).symm (unhide QB).symm rfl rfl)
      have hlen : Hid ((rising (m.filter (hasP true aq l alo ahi))).length ≤ 1000) := Nat.le_trans (rising_le _) (Nat.le_trans (List.length_filter_le _ _) (Nat.le_trans (check_len (unhide QB).symm) (by decide)))
      have hris := hide (check_rises (unhide QA).symm)
      obtain ⟨e0, e1, e2, e3, e4, e5⟩ := unhide A2
      obtain ⟨d0, d1, d2, d3, d4, d5⟩ := unhide C2
      go_wp2_with fail
      refine (shared_any bm false bq _ m blo bhi false true aq _ l alo ahi _ (unhide L2) (unhide V2) (unhide U2) (unhide hris)).mono ?_
      clear e0 e1 e2 e3 e4 e5 d0 d1 d2 d3 d4 d5
      rintro e w3 ⟨b, rfl, hk3, hb3, hw3⟩
      have K3 := hide hk3
      have B3 := hide (chain (unhide B2) hw3)
      have S3 := hide ((unhide S2).below hw3)
      clear hk3 hb3 hw3 S2 B2
      go_wp2_with fail
      refine (list_any false b _ _ (unhide K3) (unhide hlen)).mono ?_
      rintro e w4 ⟨v4, rfl, hown, hw4⟩
      obtain ⟨a4, c4, rfl⟩ := hown.strs.val
      have B4 := hide (chain (unhide B3) hw4)
      have hlt4 := hide ((unhide S3).2.2)
      have hle4 := hide ((unhide B3).size)
      obtain ⟨⟨k0, k1, k2, k3, k4, k5⟩, hf, _⟩ := (unhide S3).below hw4
      have HO := hide hown
      obtain ⟨n4, hn4⟩ : ∃ n, n = (rising (m.filter (hasP true aq l alo ahi))).length := ⟨_, rfl⟩
      rw [← hn4] at HO ⊢
      clear hw4 hown hn4 S3 K3
      go_wp2_with fail
      refine bodyPost_ret (v := .tuple #[.agg #[.bool false, .bool false, .bool false, .slice a4 n4 c4, .int .i64 0, .int .i64 0], .int .i64 0]) (by simp [results, Tryz.results47, go_sem, k0, k1, k2, k3, k4, k5]) rfl ?_
      rw [unhide HR, unhide hans]
      refine setPost_of (r := (⟨false, false, false, rising (m.filter (hasP true aq l alo ahi)), 0, 0⟩, 0)) ?_ (((unhide HO).grown (put6_grown w4 (w.heap.size + 1 + 1) _ _ _ _ _ _) (unhide hlt4)).mono (unhide hle4)) (put6_below _ _ _ _ _ _ (unhide B4) (by omega))
      rfl
    have hjl : Hid ((l ++ m).length ≤ 128) := by
      show _ ≤ _
      have h1 := check_len (unhide QA).symm
      have h2 := check_len (unhide QB).symm
      rw [List.length_append]; simp only at h1 h2; omega
    have hls := hide (lists_two (unhide U2) (unhide V2) 23)
    have hll : Hid ((joined [(Value.slice a1 n1 c1, l), (Value.slice a2 n2 c2, m)]).length ≤ 70368744177664) := by show _ ≤ _; rw [joined_two]; have := unhide hjl; omega
    have hr8 : Hid ((rising (l ++ m)).length ≤ 1000) := Nat.le_trans (rising_le _) (Nat.le_trans (unhide hjl) (by decide))
    obtain ⟨e0, e1, e2, e3, e4, e5⟩ := unhide A2
    obtain ⟨d0, d1, d2, d3, d4, d5⟩ := unhide C2
    by_cases hnn : aq = false ∧ bq = false
    · obtain ⟨rfl, rfl⟩ := hnn
      have hans := hide (meet_but (unhide QA).symm (unhide QB).symm rfl rfl rfl rfl)
      go_wp2_with fail
      refine (gathered_any _ [(.slice a1 n1 c1, l), (.slice a2 n2 c2, m)] _ (unhide hls) (unhide hll) (by simp)).mono ?_
      clear e0 e1 e2 e3 e4 e5 d0 d1 d2 d3 d4 d5
      rintro e w3 ⟨b, rfl, hk3, hb3, hw3⟩
      rw [joined_two] at hk3
      have K3 := hide hk3
      have B3 := hide (chain (chain (unhide B2) (box_below _)) hw3)
      have S3 := hide (((unhide S2).below (box_below _)).below hw3)
      clear hk3 hb3 hw3 S2 B2 hls hll
      go_wp2_with fail
      refine (allBut_any false b (l ++ m) _ (unhide K3) (unhide hr8)).mono ?_
      rintro e w4 h4
      rcases h4 with ⟨h64, rfl, hw4⟩ | ⟨h64, v4, rfl, hown, hw4⟩
      · have B4 := hide (chain (unhide B3) hw4)
        obtain ⟨⟨k0, k1, k2, k3, k4, k5⟩, hf, _⟩ := (unhide S3).below hw4
        have H64 := hide h64
        clear hw4 S3 K3 h64
        go_wp2_with fail
        refine bodyPost_ret (v := .tuple #[.agg #[.bool false, .bool false, .bool false, .slice none 0 0, .int .i64 0, .int .i64 0], .int .i64 3]) (by simp [results, Tryz.results47, go_sem, k0, k1, k2, k3, k4, k5]) rfl ?_
        rw [unhide HR, unhide hans, if_neg (by have := unhide H64; omega)]
        exact setPost_zero rfl (put6_below _ _ _ _ _ _ (unhide B4) (by omega))
      · obtain ⟨a4, c4, rfl⟩ := hown.strs.val
        have B4 := hide (chain (unhide B3) hw4)
        have hlt4 := hide ((unhide S3).2.2)
        have hle4 := hide ((unhide B3).size)
        obtain ⟨⟨k0, k1, k2, k3, k4, k5⟩, hf, _⟩ := (unhide S3).below hw4
        have HO := hide hown
        have H64 := hide h64
        obtain ⟨n4, hn4⟩ : ∃ n, n = (rising (l ++ m)).length := ⟨_, rfl⟩
        rw [← hn4] at HO ⊢
        clear hw4 hown hn4 S3 K3 h64
        go_wp2_with fail
        refine bodyPost_ret (v := .tuple #[.agg #[.bool false, .bool true, .bool false, .slice a4 n4 c4, .int .i64 0, .int .i64 0], .int .i64 0]) (by simp [results, Tryz.results47, go_sem, k0, k1, k2, k3, k4, k5]) rfl ?_
        rw [unhide HR, unhide hans, if_pos (by exact unhide H64)]
        refine setPost_of (r := (⟨false, true, false, rising (l ++ m), 0, 0⟩, 0)) ?_ (((unhide HO).grown (put6_grown w4 (w.heap.size + 1 + 1) _ _ _ _ _ _) (unhide hlt4)).mono (unhide hle4)) (put6_below _ _ _ _ _ _ (unhide B4) (by omega))
        rfl
    · have hans := hide (meet_nums (unhide QA).symm (unhide QB).symm rfl rfl hnn)
      have hra := hide1 (low_range (unhide QA).symm)
      have hrb := hide1 (low_range (unhide QB).symm)
      have hnq : aq = true ∨ (aq = false ∧ bq = true) := by
        cases aq
        · cases bq
          · exact absurd ⟨rfl, rfl⟩ hnn
          · exact Or.inr ⟨rfl, rfl⟩
        · exact Or.inl rfl
      clear hnn
      obtain ⟨la, hla⟩ : ∃ x, x = (if aq = true then alo else -2147483648) := ⟨_, rfl⟩
      obtain ⟨ha, hha⟩ : ∃ x, x = (if aq = true then ahi else 2147483648) := ⟨_, rfl⟩
      obtain ⟨lb, hlb⟩ : ∃ x, x = (if bq = true then blo else -2147483648) := ⟨_, rfl⟩
      obtain ⟨hb, hhb⟩ : ∃ x, x = (if bq = true then bhi else 2147483648) := ⟨_, rfl⟩
      have GLA := hide hla
      have GHA := hide hha
      have GLB := hide hlb
      have GHB := hide hhb
      clear hla hha hlb hhb
      have hans2 : Hid (meetR ⟨false, true, aq, l, alo, ahi⟩ ⟨bm, true, bq, m, blo, bhi⟩ = met (numbersO (max la lb) (min ha hb) (l ++ m)) false) := by
        show _ = _; rw [unhide hans, unhide GLA, unhide GHA, unhide GLB, unhide GHB]; rfl
      have hrange : Hid (Unit → (-2147483648 ≤ max la lb ∧ max la lb ≤ 2147483648 ∧ -2147483648 ≤ min ha hb ∧ min ha hb ≤ 2147483648)) := hide1 (by
        have h1 := unhide1 hra
        have h2 := unhide1 hrb
        unfold lowOf highOf at h1 h2
        simp only at h1 h2
        rw [← unhide GLA, ← unhide GHA] at h1
        rw [← unhide GLB, ← unhide GHB] at h2
        omega)
      have CA : Hid (∀ W, Strs W (.slice a1 n1 c1) l → Calls Tryz.prog 74 #[.agg #[.bool false, .bool true, .bool aq, .slice a1 n1 c1, .int .i64 alo, .int .i64 ahi]] W fun e w' => e = .returned (.tuple #[.int .i64 la, .int .i64 ha]) ∧ Below W.heap.size W w') := fun W h => by
        rw [unhide GLA, unhide GHA]; exact bounds_any _ _ _ _ l _ _ W h
      have CB : Hid (∀ W, Strs W (.slice a2 n2 c2) m → Calls Tryz.prog 74 #[.agg #[.bool bm, .bool true, .bool bq, .slice a2 n2 c2, .int .i64 blo, .int .i64 bhi]] W fun e w' => e = .returned (.tuple #[.int .i64 lb, .int .i64 hb]) ∧ Below W.heap.size W w') := fun W h => by
        rw [unhide GLB, unhide GHB]; exact bounds_any _ _ _ _ m _ _ W h
      clear hans hra hrb GLA GHA GLB GHB
      rcases hnq with rfl | ⟨rfl, rfl⟩
      all_goals
        go_wp2_with fail
        refine (unhide CA _ (unhide U2)).mono ?_
        rintro e w3 ⟨rfl, hw3⟩
        clear e0 e1 e2 e3 e4 e5 d0 d1 d2 d3 d4 d5
        have B3 := hide (chain (unhide B2) hw3)
        have S3 := hide ((unhide S2).below hw3)
        have A3 := hide ((unhide A2).below hw3)
        have C3 := hide ((unhide C2).below hw3)
        have U3 := hide ((unhide U2).below hw3)
        have V3 := hide ((unhide V2).below hw3)
        clear hw3 B2 S2 A2 C2 U2 V2 hls
        obtain ⟨d0, d1, d2, d3, d4, d5⟩ := unhide C3
        go_wp2_with fail
        refine (unhide CB _ (unhide V3)).mono ?_
        rintro e w4 ⟨rfl, hw4⟩
        clear d0 d1 d2 d3 d4 d5
        have B4 := hide (chain (unhide B3) hw4)
        have S4 := hide ((unhide S3).below hw4)
        have A4 := (unhide A3).below hw4
        have C4 := (unhide C3).below hw4
        have hls := hide (lists_two ((unhide U3).below hw4) ((unhide V3).below hw4) 23)
        clear hw4 B3 S3 A3 C3 U3 V3
        obtain ⟨e0, e1, e2, e3, e4, e5⟩ := A4
        obtain ⟨d0, d1, d2, d3, d4, d5⟩ := C4
        go_wp2_with fail
        refine (gathered_any _ [(.slice a1 n1 c1, l), (.slice a2 n2 c2, m)] _ (unhide hls) (unhide hll) (by simp)).mono ?_
        clear e0 e1 e2 e3 e4 e5 d0 d1 d2 d3 d4 d5
        rintro e w5 ⟨b, rfl, hk5, hb5, hw5⟩
        rw [joined_two] at hk5
        have K5 := hide hk5
        have B5 := hide (chain (chain (unhide B4) (box_below _)) hw5)
        have S5 := hide (((unhide S4).below (box_below _)).below hw5)
        have HB5 : Hid (w.heap.size ≤ b) := Nat.le_trans (unhide B4).size (Nat.le_trans (by simp) hb5)
        clear hk5 hb5 hw5 S4 B4 hls
        go_wp2_with fail
        refine (numbers_any false (max la lb) (min ha hb) b (l ++ m) _ (unhide K5) ((unhide HL).below (unhide B5)) (Nat.le_trans (unhide hjl) (by decide)) (by have := unhide1 hrange; omega) (by have := unhide1 hrange; omega) (by have := unhide1 hrange; omega) (by have := unhide1 hrange; omega)).mono ?_
        rintro e w6 ⟨hg6, h6⟩
        have B6 := hide (grown_below (unhide B5) hg6 (unhide HB5))
        have hlt6 := hide ((unhide S5).2.2)
        have hle6 := hide ((unhide B5).size)
        obtain ⟨⟨k0, k1, k2, k3, k4, k5⟩, hf, _⟩ := (unhide S5).turn (unhide K5) hg6
        clear hg6 S5 K5
        rcases h6 with ⟨hs, rfl⟩ | ⟨s, v6, hs, rfl, hown⟩
        · have HSS := hide hs
          clear hs
          go_wp2_with fail
          refine bodyPost_ret (v := .tuple #[.agg #[.bool false, .bool false, .bool false, .slice none 0 0, .int .i64 0, .int .i64 0], .int .i64 3]) (by simp [results, Tryz.results47, go_sem, k0, k1, k2, k3, k4, k5]) rfl ?_
          rw [unhide HR, unhide hans2, unhide HSS]
          exact setPost_zero rfl (put6_below _ _ _ _ _ _ (unhide B6) (by omega))
        · obtain ⟨a6, c6, rfl⟩ := hown.strs.val
          have HO := hide hown
          have HSS := hide hs
          obtain ⟨miss, no, num, vals, slo, shi⟩ := s
          simp only at HO ⊢
          obtain ⟨n6, hn6⟩ : ∃ n, n = vals.length := ⟨_, rfl⟩
          rw [← hn6] at HO ⊢
          clear hown hs hn6
          go_wp2_with fail
          refine bodyPost_ret (v := .tuple #[.agg #[.bool false, .bool no, .bool num, .slice a6 n6 c6, .int .i64 slo, .int .i64 shi], .int .i64 0]) (by simp [results, Tryz.results47, go_sem, k0, k1, k2, k3, k4, k5]) rfl ?_
          rw [unhide HR, unhide hans2, unhide HSS]
          exact setPost_of (r := (⟨false, no, num, vals, slo, shi⟩, 0)) rfl (((unhide HO).grown (put6_grown w6 (w.heap.size + 1 + 1) _ _ _ _ _ _) (unhide hlt6)).mono (unhide hle6)) (put6_below _ _ _ _ _ _ (unhide B6) (by omega))
  · skip
    cases an
    · have hans := hide (meet_list1 (unhide QA).symm (unhide QB).symm rfl)
      have hlen : Hid ((rising (l.filter (hasP bn bq m blo bhi))).length ≤ 1000) := Nat.le_trans (rising_le _) (Nat.le_trans (List.length_filter_le _ _) (Nat.le_trans (check_len (unhide QA).symm) (by decide)))
      have hris := hide (check_rises (unhide QB).symm)
      obtain ⟨e0, e1, e2, e3, e4, e5⟩ := unhide A2
      obtain ⟨d0, d1, d2, d3, d4, d5⟩ := unhide C2
      go_wp2_with fail
      refine (shared_any true false aq _ l alo ahi bm bn bq _ m blo bhi _ (unhide L2) (unhide U2) (unhide V2) (unhide hris)).mono ?_
      clear e0 e1 e2 e3 e4 e5 d0 d1 d2 d3 d4 d5
      rintro e w3 ⟨b, rfl, hk3, hb3, hw3⟩
      have K3 := hide hk3
      have B3 := hide (chain (unhide B2) hw3)
      have S3 := hide ((unhide S2).below hw3)
      clear hk3 hb3 hw3 S2 B2
      go_wp2_with fail
      refine (list_any bm b _ _ (unhide K3) (unhide hlen)).mono ?_
      rintro e w4 ⟨v4, rfl, hown, hw4⟩
      obtain ⟨a4, c4, rfl⟩ := hown.strs.val
      have B4 := hide (chain (unhide B3) hw4)
      have hlt4 := hide ((unhide S3).2.2)
      have hle4 := hide ((unhide B3).size)
      obtain ⟨⟨k0, k1, k2, k3, k4, k5⟩, hf, _⟩ := (unhide S3).below hw4
      have HO := hide hown
      obtain ⟨n4, hn4⟩ : ∃ n, n = (rising (l.filter (hasP bn bq m blo bhi))).length := ⟨_, rfl⟩
      rw [← hn4] at HO ⊢
      clear hw4 hown hn4 S3 K3
      go_wp2_with fail
      refine bodyPost_ret (v := .tuple #[.agg #[.bool bm, .bool false, .bool false, .slice a4 n4 c4, .int .i64 0, .int .i64 0], .int .i64 0]) (by simp [results, Tryz.results47, go_sem, k0, k1, k2, k3, k4, k5]) rfl ?_
      rw [unhide HR, unhide hans]
      refine setPost_of (r := (⟨bm, false, false, rising (l.filter (hasP bn bq m blo bhi)), 0, 0⟩, 0)) ?_ (((unhide HO).grown (put6_grown w4 (w.heap.size + 1 + 1) _ _ _ _ _ _) (unhide hlt4)).mono (unhide hle4)) (put6_below _ _ _ _ _ _ (unhide B4) (by omega))
      rfl
    cases bn
    · have hans := hide (meet_list2 (unhide QA).symm (unhide QB).symm rfl rfl)
      have hlen : Hid ((rising (m.filter (hasP true aq l alo ahi))).length ≤ 1000) := Nat.le_trans (rising_le _) (Nat.le_trans (List.length_filter_le _ _) (Nat.le_trans (check_len (unhide QB).symm) (by decide)))
      have hris := hide (check_rises (unhide QA).symm)
      obtain ⟨e0, e1, e2, e3, e4, e5⟩ := unhide A2
      obtain ⟨d0, d1, d2, d3, d4, d5⟩ := unhide C2
      go_wp2_with fail
      refine (shared_any bm false bq _ m blo bhi true true aq _ l alo ahi _ (unhide L2) (unhide V2) (unhide U2) (unhide hris)).mono ?_
      clear e0 e1 e2 e3 e4 e5 d0 d1 d2 d3 d4 d5
      rintro e w3 ⟨b, rfl, hk3, hb3, hw3⟩
      have K3 := hide hk3
      have B3 := hide (chain (unhide B2) hw3)
      have S3 := hide ((unhide S2).below hw3)
      clear hk3 hb3 hw3 S2 B2
      go_wp2_with fail
      refine (list_any bm b _ _ (unhide K3) (unhide hlen)).mono ?_
      rintro e w4 ⟨v4, rfl, hown, hw4⟩
      obtain ⟨a4, c4, rfl⟩ := hown.strs.val
      have B4 := hide (chain (unhide B3) hw4)
      have hlt4 := hide ((unhide S3).2.2)
      have hle4 := hide ((unhide B3).size)
      obtain ⟨⟨k0, k1, k2, k3, k4, k5⟩, hf, _⟩ := (unhide S3).below hw4
      have HO := hide hown
      obtain ⟨n4, hn4⟩ : ∃ n, n = (rising (m.filter (hasP true aq l alo ahi))).length := ⟨_, rfl⟩
      rw [← hn4] at HO ⊢
      clear hw4 hown hn4 S3 K3
      go_wp2_with fail
      refine bodyPost_ret (v := .tuple #[.agg #[.bool bm, .bool false, .bool false, .slice a4 n4 c4, .int .i64 0, .int .i64 0], .int .i64 0]) (by simp [results, Tryz.results47, go_sem, k0, k1, k2, k3, k4, k5]) rfl ?_
      rw [unhide HR, unhide hans]
      refine setPost_of (r := (⟨bm, false, false, rising (m.filter (hasP true aq l alo ahi)), 0, 0⟩, 0)) ?_ (((unhide HO).grown (put6_grown w4 (w.heap.size + 1 + 1) _ _ _ _ _ _) (unhide hlt4)).mono (unhide hle4)) (put6_below _ _ _ _ _ _ (unhide B4) (by omega))
      rfl
    have hjl : Hid ((l ++ m).length ≤ 128) := by
      show _ ≤ _
      have h1 := check_len (unhide QA).symm
      have h2 := check_len (unhide QB).symm
      rw [List.length_append]; simp only at h1 h2; omega
    have hls := hide (lists_two (unhide U2) (unhide V2) 23)
    have hll : Hid ((joined [(Value.slice a1 n1 c1, l), (Value.slice a2 n2 c2, m)]).length ≤ 70368744177664) := by show _ ≤ _; rw [joined_two]; have := unhide hjl; omega
    have hr8 : Hid ((rising (l ++ m)).length ≤ 1000) := Nat.le_trans (rising_le _) (Nat.le_trans (unhide hjl) (by decide))
    obtain ⟨e0, e1, e2, e3, e4, e5⟩ := unhide A2
    obtain ⟨d0, d1, d2, d3, d4, d5⟩ := unhide C2
    by_cases hnn : aq = false ∧ bq = false
    · obtain ⟨rfl, rfl⟩ := hnn
      have hans := hide (meet_but (unhide QA).symm (unhide QB).symm rfl rfl rfl rfl)
      go_wp2_with fail
      refine (gathered_any _ [(.slice a1 n1 c1, l), (.slice a2 n2 c2, m)] _ (unhide hls) (unhide hll) (by simp)).mono ?_
      clear e0 e1 e2 e3 e4 e5 d0 d1 d2 d3 d4 d5
      rintro e w3 ⟨b, rfl, hk3, hb3, hw3⟩
      rw [joined_two] at hk3
      have K3 := hide hk3
      have B3 := hide (chain (chain (unhide B2) (box_below _)) hw3)
      have S3 := hide (((unhide S2).below (box_below _)).below hw3)
      clear hk3 hb3 hw3 S2 B2 hls hll
      go_wp2_with fail
      refine (allBut_any bm b (l ++ m) _ (unhide K3) (unhide hr8)).mono ?_
      rintro e w4 h4
      rcases h4 with ⟨h64, rfl, hw4⟩ | ⟨h64, v4, rfl, hown, hw4⟩
      · have B4 := hide (chain (unhide B3) hw4)
        obtain ⟨⟨k0, k1, k2, k3, k4, k5⟩, hf, _⟩ := (unhide S3).below hw4
        have H64 := hide h64
        clear hw4 S3 K3 h64
        go_wp2_with fail
        refine bodyPost_ret (v := .tuple #[.agg #[.bool false, .bool false, .bool false, .slice none 0 0, .int .i64 0, .int .i64 0], .int .i64 3]) (by simp [results, Tryz.results47, go_sem, k0, k1, k2, k3, k4, k5]) rfl ?_
        rw [unhide HR, unhide hans, if_neg (by have := unhide H64; omega)]
        exact setPost_zero rfl (put6_below _ _ _ _ _ _ (unhide B4) (by omega))
      · obtain ⟨a4, c4, rfl⟩ := hown.strs.val
        have B4 := hide (chain (unhide B3) hw4)
        have hlt4 := hide ((unhide S3).2.2)
        have hle4 := hide ((unhide B3).size)
        obtain ⟨⟨k0, k1, k2, k3, k4, k5⟩, hf, _⟩ := (unhide S3).below hw4
        have HO := hide hown
        have H64 := hide h64
        obtain ⟨n4, hn4⟩ : ∃ n, n = (rising (l ++ m)).length := ⟨_, rfl⟩
        rw [← hn4] at HO ⊢
        clear hw4 hown hn4 S3 K3 h64
        go_wp2_with fail
        refine bodyPost_ret (v := .tuple #[.agg #[.bool bm, .bool true, .bool false, .slice a4 n4 c4, .int .i64 0, .int .i64 0], .int .i64 0]) (by simp [results, Tryz.results47, go_sem, k0, k1, k2, k3, k4, k5]) rfl ?_
        rw [unhide HR, unhide hans, if_pos (by exact unhide H64)]
        refine setPost_of (r := (⟨bm, true, false, rising (l ++ m), 0, 0⟩, 0)) ?_ (((unhide HO).grown (put6_grown w4 (w.heap.size + 1 + 1) _ _ _ _ _ _) (unhide hlt4)).mono (unhide hle4)) (put6_below _ _ _ _ _ _ (unhide B4) (by omega))
        rfl
    · have hans := hide (meet_nums (unhide QA).symm (unhide QB).symm rfl rfl hnn)
      have hra := hide1 (low_range (unhide QA).symm)
      have hrb := hide1 (low_range (unhide QB).symm)
      have hnq : aq = true ∨ (aq = false ∧ bq = true) := by
        cases aq
        · cases bq
          · exact absurd ⟨rfl, rfl⟩ hnn
          · exact Or.inr ⟨rfl, rfl⟩
        · exact Or.inl rfl
      clear hnn
      obtain ⟨la, hla⟩ : ∃ x, x = (if aq = true then alo else -2147483648) := ⟨_, rfl⟩
      obtain ⟨ha, hha⟩ : ∃ x, x = (if aq = true then ahi else 2147483648) := ⟨_, rfl⟩
      obtain ⟨lb, hlb⟩ : ∃ x, x = (if bq = true then blo else -2147483648) := ⟨_, rfl⟩
      obtain ⟨hb, hhb⟩ : ∃ x, x = (if bq = true then bhi else 2147483648) := ⟨_, rfl⟩
      have GLA := hide hla
      have GHA := hide hha
      have GLB := hide hlb
      have GHB := hide hhb
      clear hla hha hlb hhb
      have hans2 : Hid (meetR ⟨true, true, aq, l, alo, ahi⟩ ⟨bm, true, bq, m, blo, bhi⟩ = met (numbersO (max la lb) (min ha hb) (l ++ m)) bm) := by
        show _ = _; rw [unhide hans, unhide GLA, unhide GHA, unhide GLB, unhide GHB]; rfl
      have hrange : Hid (Unit → (-2147483648 ≤ max la lb ∧ max la lb ≤ 2147483648 ∧ -2147483648 ≤ min ha hb ∧ min ha hb ≤ 2147483648)) := hide1 (by
        have h1 := unhide1 hra
        have h2 := unhide1 hrb
        unfold lowOf highOf at h1 h2
        simp only at h1 h2
        rw [← unhide GLA, ← unhide GHA] at h1
        rw [← unhide GLB, ← unhide GHB] at h2
        omega)
      have CA : Hid (∀ W, Strs W (.slice a1 n1 c1) l → Calls Tryz.prog 74 #[.agg #[.bool true, .bool true, .bool aq, .slice a1 n1 c1, .int .i64 alo, .int .i64 ahi]] W fun e w' => e = .returned (.tuple #[.int .i64 la, .int .i64 ha]) ∧ Below W.heap.size W w') := fun W h => by
        rw [unhide GLA, unhide GHA]; exact bounds_any _ _ _ _ l _ _ W h
      have CB : Hid (∀ W, Strs W (.slice a2 n2 c2) m → Calls Tryz.prog 74 #[.agg #[.bool bm, .bool true, .bool bq, .slice a2 n2 c2, .int .i64 blo, .int .i64 bhi]] W fun e w' => e = .returned (.tuple #[.int .i64 lb, .int .i64 hb]) ∧ Below W.heap.size W w') := fun W h => by
        rw [unhide GLB, unhide GHB]; exact bounds_any _ _ _ _ m _ _ W h
      clear hans hra hrb GLA GHA GLB GHB
      rcases hnq with rfl | ⟨rfl, rfl⟩
      all_goals
        go_wp2_with fail
        refine (unhide CA _ (unhide U2)).mono ?_
        rintro e w3 ⟨rfl, hw3⟩
        clear e0 e1 e2 e3 e4 e5 d0 d1 d2 d3 d4 d5
        have B3 := hide (chain (unhide B2) hw3)
        have S3 := hide ((unhide S2).below hw3)
        have A3 := hide ((unhide A2).below hw3)
        have C3 := hide ((unhide C2).below hw3)
        have U3 := hide ((unhide U2).below hw3)
        have V3 := hide ((unhide V2).below hw3)
        clear hw3 B2 S2 A2 C2 U2 V2 hls
        obtain ⟨d0, d1, d2, d3, d4, d5⟩ := unhide C3
        go_wp2_with fail
        refine (unhide CB _ (unhide V3)).mono ?_
        rintro e w4 ⟨rfl, hw4⟩
        clear d0 d1 d2 d3 d4 d5
        have B4 := hide (chain (unhide B3) hw4)
        have S4 := hide ((unhide S3).below hw4)
        have A4 := (unhide A3).below hw4
        have C4 := (unhide C3).below hw4
        have hls := hide (lists_two ((unhide U3).below hw4) ((unhide V3).below hw4) 23)
        clear hw4 B3 S3 A3 C3 U3 V3
        obtain ⟨e0, e1, e2, e3, e4, e5⟩ := A4
        obtain ⟨d0, d1, d2, d3, d4, d5⟩ := C4
        go_wp2_with fail
        refine (gathered_any _ [(.slice a1 n1 c1, l), (.slice a2 n2 c2, m)] _ (unhide hls) (unhide hll) (by simp)).mono ?_
        clear e0 e1 e2 e3 e4 e5 d0 d1 d2 d3 d4 d5
        rintro e w5 ⟨b, rfl, hk5, hb5, hw5⟩
        rw [joined_two] at hk5
        have K5 := hide hk5
        have B5 := hide (chain (chain (unhide B4) (box_below _)) hw5)
        have S5 := hide (((unhide S4).below (box_below _)).below hw5)
        have HB5 : Hid (w.heap.size ≤ b) := Nat.le_trans (unhide B4).size (Nat.le_trans (by simp) hb5)
        clear hk5 hb5 hw5 S4 B4 hls
        go_wp2_with fail
        refine (numbers_any bm (max la lb) (min ha hb) b (l ++ m) _ (unhide K5) ((unhide HL).below (unhide B5)) (Nat.le_trans (unhide hjl) (by decide)) (by have := unhide1 hrange; omega) (by have := unhide1 hrange; omega) (by have := unhide1 hrange; omega) (by have := unhide1 hrange; omega)).mono ?_
        rintro e w6 ⟨hg6, h6⟩
        have B6 := hide (grown_below (unhide B5) hg6 (unhide HB5))
        have hlt6 := hide ((unhide S5).2.2)
        have hle6 := hide ((unhide B5).size)
        obtain ⟨⟨k0, k1, k2, k3, k4, k5⟩, hf, _⟩ := (unhide S5).turn (unhide K5) hg6
        clear hg6 S5 K5
        rcases h6 with ⟨hs, rfl⟩ | ⟨s, v6, hs, rfl, hown⟩
        · have HSS := hide hs
          clear hs
          go_wp2_with fail
          refine bodyPost_ret (v := .tuple #[.agg #[.bool false, .bool false, .bool false, .slice none 0 0, .int .i64 0, .int .i64 0], .int .i64 3]) (by simp [results, Tryz.results47, go_sem, k0, k1, k2, k3, k4, k5]) rfl ?_
          rw [unhide HR, unhide hans2, unhide HSS]
          exact setPost_zero rfl (put6_below _ _ _ _ _ _ (unhide B6) (by omega))
        · obtain ⟨a6, c6, rfl⟩ := hown.strs.val
          have HO := hide hown
          have HSS := hide hs
          obtain ⟨miss, no, num, vals, slo, shi⟩ := s
          simp only at HO ⊢
          obtain ⟨n6, hn6⟩ : ∃ n, n = vals.length := ⟨_, rfl⟩
          rw [← hn6] at HO ⊢
          clear hown hs hn6
          go_wp2_with fail
          refine bodyPost_ret (v := .tuple #[.agg #[.bool bm, .bool no, .bool num, .slice a6 n6 c6, .int .i64 slo, .int .i64 shi], .int .i64 0]) (by simp [results, Tryz.results47, go_sem, k0, k1, k2, k3, k4, k5]) rfl ?_
          rw [unhide HR, unhide hans2, unhide HSS]
          exact setPost_of (r := (⟨bm, no, num, vals, slo, shi⟩, 0)) rfl (((unhide HO).grown (put6_grown w6 (w.heap.size + 1 + 1) _ _ _ _ _ _) (unhide hlt6)).mono (unhide hle6)) (put6_below _ _ _ _ _ _ (unhide B6) (by omega))

end Go.Proofs.YtnkcbmlobikjkaaGreatDoor

/- Layer 3: contract of the document's Same, and of same. -/
namespace Go.Proofs.YtnkcbmlobikjkaaGreatDoor
open Go.RowKit Suf Val Go.Maps

/-- Whether two sets are written alike. -/
def sameB (a b : VSet) : Bool := (a.miss == b.miss) && (a.no == b.no) && (a.num == b.num) && (a.lo == b.lo) && (a.hi == b.hi) && (a.vals == b.vals)
theorem same_iff (a b : VSet) : sameB a b = true ↔ a = b := by
  obtain ⟨m1, n1, q1, v1, l1, h1⟩ := a
  obtain ⟨m2, n2, q2, v2, l2, h2⟩ := b
  unfold sameB
  simp [and_assoc]
  intro _ _ _
  constructor
  · rintro ⟨h3, h4, h5⟩; exact ⟨h5, h3, h4⟩
  · rintro ⟨h3, h4, h5⟩; exact ⟨h4, h5, h3⟩
theorem same_no {a b : VSet} (h : ¬ a = b) : sameB a b = false := by
  cases hs : sameB a b with
  | false => rfl
  | true => exact absurd ((same_iff a b).1 hs) h
theorem take_eq_next {l m : List Txt} {k : Nat} (h : l.take k = m.take k) (h1 : k < l.length) (h2 : k < m.length) (he : l[k] = m[k]) : l.take (k + 1) = m.take (k + 1) := by
  rw [take_next l k h1, take_next m k h2, h, he]

set_option maxRecDepth 100000 in
set_option maxHeartbeats 4000000 in
theorem rsame_any (am an aq : Bool) (u : Value) (l : List Txt) (alo ahi : Int) (bm bn bq : Bool) (v : Value) (m : List Txt) (blo bhi : Int) (w : World) (hu : Strs w u l) (hv : Strs w v m) :
    Calls Tryz.prog 16 #[.agg #[.bool am, .bool an, .bool aq, u, .int .i64 alo, .int .i64 ahi], .agg #[.bool bm, .bool bn, .bool bq, v, .int .i64 blo, .int .i64 bhi]] w fun e w' => e = .returned (.bool (sameB ⟨am, an, aq, l, alo, ahi⟩ ⟨bm, bn, bq, m, blo, bhi⟩)) ∧ Below w.heap.size w w' := by
  obtain ⟨r, hr⟩ : ∃ r, r = sameB ⟨am, an, aq, l, alo, ahi⟩ ⟨bm, bn, bq, m, blo, bhi⟩ := ⟨_, rfl⟩
  rw [← hr]
  have HR := hide hr
  have HU := hide hu
  have HV := hide hv
  have hl1 := hu.len
  have hl2 := hv.len
  obtain ⟨a1, c1, rfl⟩ := hu.val
  obtain ⟨a2, c2, rfl⟩ := hv.val
  clear hr hu hv
  obtain ⟨n1, hn1⟩ : ∃ n, n = l.length := ⟨_, rfl⟩
  obtain ⟨n2, hn2⟩ : ∃ n, n = m.length := ⟨_, rfl⟩
  rw [← hn1] at HU hl1 ⊢
  rw [← hn2] at HV hl2 ⊢
  have N1 := hide hn1
  have N2 := hide hn2
  clear hn1 hn2
  have hno : Hid (∀ P : Prop, P → (P → ¬ (⟨am, an, aq, l, alo, ahi⟩ : VSet) = ⟨bm, bn, bq, m, blo, bhi⟩) → r = false) := fun P hp h => (unhide HR).trans (same_no (h hp))
  by_cases h0 : am = bm
  rotate_left
  · have hf := hide (unhide hno _ h0 (fun h c => h (by have := congrArg VSet.miss c; simpa using this)))
    have hlit : (am = true ∧ bm = false) ∨ (am = false ∧ bm = true) := by
      cases am <;> cases bm <;> first | exact Or.inl ⟨rfl, rfl⟩ | exact Or.inr ⟨rfl, rfl⟩ | exact absurd rfl h0
    clear hno HR h0
    rcases hlit with ⟨rfl, rfl⟩ | ⟨rfl, rfl⟩
    all_goals
      go_enter Tryz.func16, Tryz.ntmps16
      go_wp2_with fail
      go_ret
      exact ⟨ret_bool (unhide hf).symm, (box_below _).alloc (by simp) _⟩
  subst h0
  by_cases h1 : an = bn
  rotate_left
  · have hf := hide (unhide hno _ h1 (fun h c => h (by have := congrArg VSet.no c; simpa using this)))
    have hlit : (an = true ∧ bn = false) ∨ (an = false ∧ bn = true) := by
      cases an <;> cases bn <;> first | exact Or.inl ⟨rfl, rfl⟩ | exact Or.inr ⟨rfl, rfl⟩ | exact absurd rfl h1
    clear hno HR h1
    rcases hlit with ⟨rfl, rfl⟩ | ⟨rfl, rfl⟩
    all_goals
      go_enter Tryz.func16, Tryz.ntmps16
      go_wp2_with fail
      go_ret
      exact ⟨ret_bool (unhide hf).symm, (box_below _).alloc (by simp) _⟩
  subst h1
  by_cases h2 : aq = bq
  rotate_left
  · have hf := hide (unhide hno _ h2 (fun h c => h (by have := congrArg VSet.num c; simpa using this)))
    have hlit : (aq = true ∧ bq = false) ∨ (aq = false ∧ bq = true) := by
      cases aq <;> cases bq <;> first | exact Or.inl ⟨rfl, rfl⟩ | exact Or.inr ⟨rfl, rfl⟩ | exact absurd rfl h2
    clear hno HR h2
    rcases hlit with ⟨rfl, rfl⟩ | ⟨rfl, rfl⟩
    all_goals
      go_enter Tryz.func16, Tryz.ntmps16
      go_wp2_with fail
      go_ret
      exact ⟨ret_bool (unhide hf).symm, (box_below _).alloc (by simp) _⟩
  subst h2
  by_cases h3 : alo = blo
  rotate_left
  · have hf := hide (unhide hno _ h3 (fun h c => h (by have := congrArg VSet.lo c; simpa using this)))
    have ht : (alo != blo) = true := bne_iff_ne.2 h3
    clear hno HR h3
    go_enter Tryz.func16, Tryz.ntmps16
    go_wp2_with fail
    go_ret
    exact ⟨ret_bool (unhide hf).symm, (box_below _).alloc (by simp) _⟩
  subst h3
  by_cases h4 : ahi = bhi
  rotate_left
  · have hf := hide (unhide hno _ h4 (fun h c => h (by have := congrArg VSet.hi c; simpa using this)))
    have ht : (ahi != bhi) = true := bne_iff_ne.2 h4
    clear hno HR h4
    go_enter Tryz.func16, Tryz.ntmps16
    go_wp2_with fail
    go_ret
    exact ⟨ret_bool (unhide hf).symm, (box_below _).alloc (by simp) _⟩
  subst h4
  by_cases h5 : n1 = n2
  rotate_left
  · have hf := hide (unhide hno _ h5 (fun h c => h (by have := congrArg VSet.vals c; simp only at this; rw [unhide N1, unhide N2, this])))
    have ht : ((n1 : Int) != (n2 : Int)) = true := bne_iff_ne.2 (fun c => h5 (by omega))
    clear hno HR h5
    go_enter Tryz.func16, Tryz.ntmps16
    go_wp2_with fail
    go_ret
    exact ⟨ret_bool (unhide hf).symm, (box_below _).alloc (by simp) _⟩
  subst h5
  have hr2 : Hid (r = (l == m)) := (unhide HR).trans (by unfold sameB; simp)
  clear hno HR
  obtain ⟨W0, hW0⟩ : ∃ W0, W0 = ((w.alloc (.cells #[.bool am, .bool an, .bool aq, .slice a1 n1 c1, .int .i64 alo, .int .i64 ahi] 42)).alloc (.cells #[.bool am, .bool an, .bool aq, .slice a2 n1 c2, .int .i64 alo, .int .i64 ahi] 42)) := ⟨_, rfl⟩
  have hb0 : Hid (Below w.heap.size w W0) := by rw [hW0]; exact ((box_below _).alloc (by simp) _)
  have hA0 : Hid (W0.cell? ⟨w.heap.size, 3, none⟩ = some (.slice a1 n1 c1)) := by rw [hW0]; exact ((six_new w _ _ _ _ _ _ _).below (box_below _)).2.2.2.1
  have hB0 : Hid (W0.cell? ⟨w.heap.size + 1, 3, none⟩ = some (.slice a2 n1 c2)) := by
    have := six_new (w.alloc (.cells #[.bool am, .bool an, .bool aq, .slice a1 n1 c1, .int .i64 alo, .int .i64 ahi] 42)) (.bool am) (.bool an) (.bool aq) (.slice a2 n1 c2) (.int .i64 alo) (.int .i64 ahi) 42
    rw [show (w.alloc (.cells #[.bool am, .bool an, .bool aq, .slice a1 n1 c1, .int .i64 alo, .int .i64 ahi] 42)).heap.size = w.heap.size + 1 by simp] at this
    rw [hW0]; exact this.2.2.2.1
  have GW := hide hW0
  clear hW0
  by_cases hz : n1 = 0
  · subst hz
    have hf : Hid (r = true) := (unhide hr2).trans (by
      have e1 : l = [] := List.eq_nil_of_length_eq_zero (unhide N1).symm
      have e2 : m = [] := List.eq_nil_of_length_eq_zero (unhide N2).symm
      rw [e1, e2]; rfl)
    go_enter Tryz.func16, Tryz.ntmps16
    go_wp2_with fail
    rw [← unhide GW]
    have c0 := unhide hA0
    have c1 := unhide hB0
    go_loop [5] (fun i => i = .int .i64 0) (fun _ => 0)
    case atStart => rfl
    case round =>
      subst hrel
      go_wp2_with fail
      go_ret
      exact ⟨ret_bool (unhide hf).symm, unhide hb0⟩
  · obtain ⟨b1, o1, x1, _, e1, hc1⟩ : ∃ b o c, 0 < l.length ∧ Value.slice a1 n1 c1 = .slice (some ⟨b, o, none⟩) l.length c ∧ ∀ j (hj : j < l.length), w.cell? ⟨b, o + j, none⟩ = some (.string (bytesT l[j])) := by
      rcases (unhide HU).open with ⟨_, _, h, _⟩ | h
      · exact absurd ((unhide N1).trans (by rw [h]; rfl)) hz
      · exact h
    obtain ⟨b2, o2, x2, _, e2, hc2⟩ : ∃ b o c, 0 < m.length ∧ Value.slice a2 n1 c2 = .slice (some ⟨b, o, none⟩) m.length c ∧ ∀ j (hj : j < m.length), w.cell? ⟨b, o + j, none⟩ = some (.string (bytesT m[j])) := by
      rcases (unhide HV).open with ⟨_, _, h, _⟩ | h
      · exact absurd ((unhide N2).trans (by rw [h]; rfl)) hz
      · exact h
    obtain rfl : a1 = some ⟨b1, o1, none⟩ := by injection e1
    obtain rfl : a2 = some ⟨b2, o2, none⟩ := by injection e2
    have HC1 := hide hc1
    have HC2 := hide hc2
    clear e1 e2 hc1 hc2 HU HV
    go_enter Tryz.func16, Tryz.ntmps16
    go_wp2_with fail
    rw [← unhide GW]
    go_loopw [5] (fun i W => ∃ k : Nat, k ≤ n1 ∧ i = .int .i64 k ∧ Hid (Below W0.heap.size W0 W) ∧ Hid (l.take k = m.take k)) (fun i _ => n1 - (intOf i).toNat)
    case atStart => exact ⟨0, Nat.zero_le _, rfl, Below.refl _ _, rfl⟩
    case round =>
      obtain ⟨k, hk, rfl, hbel, hall⟩ := hrel
      have c0 := cell_kept (unhide hbel) (unhide hA0)
      have c1 := cell_kept (unhide hbel) (unhide hB0)
      by_cases hlt : k < n1
      · have hk1 : k < l.length := by rw [← unhide N1]; exact hlt
        have hk2 : k < m.length := by rw [← unhide N2]; exact hlt
        have d1 := cell_kept (unhide hbel) (cell_kept (unhide hb0) (unhide HC1 k hk1))
        have d2 := cell_kept (unhide hbel) (cell_kept (unhide hb0) (unhide HC2 k hk2))
        obtain ⟨t, ht⟩ : ∃ t, t = bytesT l[k] := ⟨_, rfl⟩
        obtain ⟨u, hu⟩ : ∃ u, u = bytesT m[k] := ⟨_, rfl⟩
        rw [← ht] at d1
        rw [← hu] at d2
        by_cases he : l[k] = m[k]
        · have hq : (t.toList == u.toList) = true := by rw [ht, hu, he]; simp
          have hnx := hide (take_eq_next (unhide hall) hk1 hk2 he)
          clear ht hu he hk1 hk2
          go_wp2_with fail
          go_quiet (fail)
          go_wp2_with fail
          go_roundw
          case rel => exact ⟨k + 1, by omega, by go_num, below_drewN (unhide hbel) _, hnx⟩
          case measure => simp [intOf]; omega
        · have hq : (t.toList == u.toList) = false := by
            rw [ht, hu, Lib.toList_data, Lib.toList_data]; exact beq_eq_false_iff_ne.2 he
          have hf : Hid (r = false) := (unhide hr2).trans (beq_eq_false_iff_ne.2 fun c => he (by subst c; rfl))
          clear ht hu he hk1 hk2
          go_wp2_with fail
          go_quiet (fail)
          go_wp2_with fail
          go_ret
          exact ⟨ret_bool (unhide hf).symm, below_drewN (chain (unhide hb0) (unhide hbel)) _⟩
      · obtain rfl : k = n1 := by omega
        have hf : Hid (r = true) := (unhide hr2).trans (by
          have := unhide hall
          rw [List.take_of_length_le (by rw [← unhide N1]; exact Nat.le_refl _), List.take_of_length_le (by rw [← unhide N2]; exact Nat.le_refl _)] at this
          rw [this]; simp)
        go_wp2_with fail
        go_ret
        exact ⟨ret_bool (unhide hf).symm, chain (unhide hb0) (unhide hbel)⟩

end Go.Proofs.YtnkcbmlobikjkaaGreatDoor
