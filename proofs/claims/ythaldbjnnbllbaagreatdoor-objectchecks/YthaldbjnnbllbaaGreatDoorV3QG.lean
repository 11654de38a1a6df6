/- Layer 3: contract of Meet. -/
import Derived.Test.YthaldbjnnbllbaaGreatDoorV3NG
namespace Go.Proofs.YthaldbjnnbllbaaGreatDoor
open Go.RowKit Suf Val Go.Maps

theorem meet_bad1 {a b : VSet} (h : checkB a = false) : meetR a b = (zeroS, 1) := by unfold meetR; rw [if_pos h]
theorem meet_bad2 {a b : VSet} (h0 : checkB a = true) (h : checkB b = false) : meetR a b = (zeroS, 1) := by unfold meetR; rw [if_neg (by rw [h0]; decide), if_pos h]
def met (o : Option VSet) (m : Bool) : VSet × Int := match o with | some s => (setMiss s m, 0) | none => (zeroS, 3)
theorem meet_good {a b : VSet} (h0 : checkB a = true) (h1 : checkB b = true) : meetR a b = met (meetO a b) (a.miss && b.miss) := by
  unfold meetR; rw [if_neg (by rw [h0]; decide), if_neg (by rw [h1]; decide)]; cases meetO a b <;> rfl
theorem rising_filter {l : List Txt} (p : Txt → Bool) (h : rises l = true) : rising (l.filter p) = l.filter p := rising_self (up_filter p ((up_iff l).1 h))
theorem filter_has {l : List Txt} {s : VSet} (hl : ∀ t ∈ l, valueB t = true) (hs : checkB s = true) : l.filter (hasP s.no s.num s.vals s.lo s.hi) = l.filter (hasB s) := by
  refine List.filter_congr fun t ht => ?_
  rw [hasP_in s hs t, has_in hs t (hl t ht)]
theorem check_len {s : VSet} (h : checkB s = true) : s.vals.length ≤ 64 := ((ordered_iff _).1 ((check_iff s).1 h).1).1
theorem check_vals {s : VSet} (h : checkB s = true) : ∀ t ∈ s.vals, valueB t = true := ((ordered_iff _).1 ((check_iff s).1 h).1).2.1
/-- Between which numbers a set's numbers lie. -/
def lowOf (s : VSet) : Int := if s.num = true then s.lo else -2147483648
def highOf (s : VSet) : Int := if s.num = true then s.hi else 2147483648
theorem meet_list1 {a b : VSet} (ha : checkB a = true) (hb : checkB b = true) (hn : a.no = false) : meetR a b = (⟨a.miss && b.miss, false, false, rising (a.vals.filter (hasP b.no b.num b.vals b.lo b.hi)), 0, 0⟩, 0) := by
  rw [meet_good ha hb, rising_filter _ (check_rises ha), filter_has (check_vals ha) hb]
  unfold meetO; rw [if_pos hn]; rfl
theorem meet_list2 {a b : VSet} (ha : checkB a = true) (hb : checkB b = true) (hn : a.no = true) (hm : b.no = false) : meetR a b = (⟨a.miss && b.miss, false, false, rising (b.vals.filter (hasP a.no a.num a.vals a.lo a.hi)), 0, 0⟩, 0) := by
  rw [meet_good ha hb, rising_filter _ (check_rises hb), filter_has (check_vals hb) ha]
  unfold meetO; rw [if_neg (by rw [hn]; decide), if_pos hm]; rfl
theorem meet_but {a b : VSet} (ha : checkB a = true) (hb : checkB b = true) (hn : a.no = true) (hm : b.no = true) (h1 : a.num = false) (h2 : b.num = false) :
    meetR a b = if (rising (a.vals ++ b.vals)).length ≤ 64 then (⟨a.miss && b.miss, true, false, rising (a.vals ++ b.vals), 0, 0⟩, 0) else (zeroS, 3) := by
  rw [meet_good ha hb]
  unfold meetO
  rw [if_neg (by rw [hn]; decide), if_neg (by rw [hm]; decide), if_pos ⟨h1, h2⟩]
  unfold butS
  by_cases hl : (rising (a.vals ++ b.vals)).length ≤ 64
  · rw [if_pos hl, if_pos hl]; rfl
  · rw [if_neg hl, if_neg hl]; rfl
theorem check_range {s : VSet} (h : checkB s = true) (hn : s.num = true) : -2147483648 ≤ s.lo ∧ s.hi ≤ 2147483648 ∧ s.lo ≤ s.hi := by
  have := no_nums h (by rw [hn]; decide)
  exact ⟨this.2.2.1, this.2.2.2.1, this.2.2.2.2.1⟩
theorem low_range {s : VSet} (h : checkB s = true) : -2147483648 ≤ lowOf s ∧ lowOf s ≤ 2147483648 ∧ -2147483648 ≤ highOf s ∧ highOf s ≤ 2147483648 := by
  unfold lowOf highOf
  cases hn : s.num with
  | false => simp
  | true => have := check_range h hn; simp; omega
theorem meet_nums {a b : VSet} (ha : checkB a = true) (hb : checkB b = true) (hn : a.no = true) (hm : b.no = true) (h : ¬ (a.num = false ∧ b.num = false)) :
    meetR a b = met (numbersO (max (lowOf a) (lowOf b)) (min (highOf a) (highOf b)) (a.vals ++ b.vals)) (a.miss && b.miss) := by
  rw [meet_good ha hb]
  unfold meetO
  rw [if_neg (by rw [hn]; decide), if_neg (by rw [hm]; decide), if_neg h]
  have hc : ∀ lo hi, numbersO lo hi (rising (a.vals ++ b.vals)) = numbersO lo hi (a.vals ++ b.vals) := fun lo hi => numbers_congr (fun x => mem_rising _ x) lo hi
  rw [hc, hc, hc]
  unfold lowOf highOf bothLo bothHi
  cases h1 : a.num
  · cases h2 : b.num
    · exact absurd ⟨h1, h2⟩ h
    · have := check_range hb h2
      simp only [if_true, Bool.false_eq_true, if_false]
      rw [show max (-2147483648) b.lo = b.lo by omega, show min 2147483648 b.hi = b.hi by omega]
  · have := check_range ha h1
    cases h2 : b.num
    · simp only [if_true, Bool.true_eq_false, Bool.false_eq_true, if_false]
      rw [show max a.lo (-2147483648) = a.lo by omega, show min a.hi 2147483648 = a.hi by omega]
    · simp only [if_true, Bool.true_eq_false, if_false]
      rw [show (if a.lo < b.lo then b.lo else a.lo) = max a.lo b.lo by split <;> omega, show (if b.hi < a.hi then b.hi else a.hi) = min a.hi b.hi by split <;> omega]

end Go.Proofs.YthaldbjnnbllbaaGreatDoor

/- Layer 3: contract of the document's Same, and of same. -/
namespace Go.Proofs.YthaldbjnnbllbaaGreatDoor
open Go.RowKit Suf Val Go.Maps

/-- Whether two sets are written alike. -/
def sameB (a b : VSet) : Bool := (a.miss == b.miss) && (a.no == b.no) && (a.num == b.num) && (a.lo == b.lo) && (a.hi == b.hi) && (a.vals == b.vals)
theorem same_iff (a b : VSet) : sameB a b = true ↔ a = b := by
  obtain ⟨m1, n1, q1, v1, l1, h1⟩ := a
  obtain ⟨m2, n2, q2, v2, l2, h2⟩ := b
  unfold sameB
  simp [and_assoc]
  intro _ _ _
  constructor
  · rintro ⟨h3, h4, h5⟩; exact ⟨h5, h3, h4⟩
  · rintro ⟨h3, h4, h5⟩; exact ⟨h4, h5, h3⟩
theorem same_no {a b : VSet} (h : ¬ a = b) : sameB a b = false := by
  cases hs : sameB a b with
  | false => rfl
  | true => exact absurd ((same_iff a b).1 hs) h
theorem take_eq_next {l m : List Txt} {k : Nat} (h : l.take k = m.take k) (h1 : k < l.length) (h2 : k < m.length) (he : l[k] = m[k]) : l.take (k + 1) = m.take (k + 1) := by
  rw [take_next l k h1, take_next m k h2, h, he]

end Go.Proofs.YthaldbjnnbllbaaGreatDoor
