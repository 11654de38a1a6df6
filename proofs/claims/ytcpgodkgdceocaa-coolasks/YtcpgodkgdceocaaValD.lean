/- Layer 3, plain mathematics alone: the numbers from one to another but some, as a set. No program is named. -/
import Derived.Test.YtcpgodkgdceocaaValC
namespace Go.Proofs.Ytcpgodkgdceocaa.Val
open Suf

/-- From below on, and from above down, past those that are left out. -/
def trimLo (but : List Txt) : Nat → Int → Int
  | 0, lo => lo
  | f + 1, lo => if but.contains (decZ lo) then trimLo but f (lo + 1) else lo
def trimHi (but : List Txt) : Nat → Int → Int
  | 0, hi => hi
  | f + 1, hi => if but.contains (decZ hi) then trimHi but f (hi - 1) else hi
theorem trimLo_spec (but : List Txt) : ∀ (f : Nat) (lo : Int), lo ≤ trimLo but f lo ∧ trimLo but f lo ≤ lo + f ∧ (∀ n, lo ≤ n → n < trimLo but f lo → decZ n ∈ but) ∧ (trimLo but f lo < lo + f → decZ (trimLo but f lo) ∉ but)
  | 0, lo => ⟨Int.le_refl _, by show lo ≤ lo + ((0 : Nat) : Int); omega, fun n h1 h2 => by have : trimLo but 0 lo = lo := rfl; omega, fun h => by have : trimLo but 0 lo = lo := rfl; omega⟩
  | f + 1, lo => by
    unfold trimLo
    by_cases hc : but.contains (decZ lo) = true
    · rw [if_pos hc]
      obtain ⟨h1, h2, h3, h4⟩ := trimLo_spec but f (lo + 1)
      refine ⟨by omega, by omega, fun n a b => ?_, fun h => h4 (by omega)⟩
      by_cases e : n = lo
      · subst e; simpa using hc
      · exact h3 n (by omega) b
    · rw [if_neg hc]
      exact ⟨Int.le_refl _, by omega, fun n a b => by omega, fun _ c => hc (by simpa using c)⟩
theorem trimHi_spec (but : List Txt) : ∀ (f : Nat) (hi : Int), trimHi but f hi ≤ hi ∧ hi - f ≤ trimHi but f hi ∧ (∀ n, n ≤ hi → trimHi but f hi < n → decZ n ∈ but) ∧ (hi - f < trimHi but f hi → decZ (trimHi but f hi) ∉ but)
  | 0, hi => ⟨Int.le_refl _, by show hi - ((0 : Nat) : Int) ≤ hi; omega, fun n h1 h2 => by have : trimHi but 0 hi = hi := rfl; omega, fun h => by have : trimHi but 0 hi = hi := rfl; omega⟩
  | f + 1, hi => by
    unfold trimHi
    by_cases hc : but.contains (decZ hi) = true
    · rw [if_pos hc]
      obtain ⟨h1, h2, h3, h4⟩ := trimHi_spec but f (hi - 1)
      refine ⟨by omega, by omega, fun n a b => ?_, fun h => h4 (by omega)⟩
      by_cases e : n = hi
      · subst e; simpa using hc
      · exact h3 n (by omega) b
    · rw [if_neg hc]
      exact ⟨Int.le_refl _, by omega, fun n a b => by omega, fun _ c => hc (by simpa using c)⟩
def loOf (lo hi : Int) (but : List Txt) : Int := trimLo but (hi - lo + 1).toNat lo
def hiOf (lo hi : Int) (but : List Txt) : Int := trimHi but (hi - loOf lo hi but + 1).toNat hi
def valsOf (lo hi : Int) (but : List Txt) : List Txt := rising (but.filter (within lo hi))
/-- So many numbers from one on. -/
def ints (lo : Int) (k : Nat) : List Int := (List.range k).map fun (i : Nat) => lo + (i : Int)
theorem mem_ints (lo : Int) (k : Nat) (n : Int) : n ∈ ints lo k ↔ lo ≤ n ∧ n < lo + k := by
  unfold ints
  rw [List.mem_map]
  constructor
  · rintro ⟨i, hi, rfl⟩; rw [List.mem_range] at hi; omega
  · rintro ⟨h1, h2⟩; exact ⟨(n - lo).toNat, by rw [List.mem_range]; omega, by omega⟩
theorem nodup_ints (lo : Int) (k : Nat) : (ints lo k).Nodup := nodup_map List.nodup_range fun x y _ _ e => by omega
def listOf (lo hi : Int) (vals : List Txt) : List Txt := rising (((ints lo (hi - lo + 1).toNat).map decZ).filter fun t => !vals.contains t)
def numsAt (lo hi : Int) (but : List Txt) : Option VSet :=
  if hi - lo + 1 - ((valsOf lo hi but).length : Int) ≤ 64 then some ⟨false, false, false, listOf lo hi (valsOf lo hi but), 0, 0⟩
  else if 64 < (valsOf lo hi but).length then none else some ⟨false, true, true, valsOf lo hi but, lo, hi⟩
def numbersO (lo hi : Int) (but : List Txt) : Option VSet := numsAt (loOf lo hi but) (hiOf lo hi but) but

theorem mem_valsOf (lo hi : Int) (but : List Txt) (v : Txt) : v ∈ valsOf lo hi but ↔ v ∈ but ∧ ∃ n, numO v = some n ∧ lo < n ∧ n < hi := by
  unfold valsOf; rw [mem_rising, List.mem_filter, within_iff]
theorem mem_listOf (lo hi : Int) (vals : List Txt) (h0 : -2147483648 ≤ lo) (h1 : hi ≤ 2147483648) (v : Txt) : v ∈ listOf lo hi vals ↔ v ∉ vals ∧ ∃ n, numO v = some n ∧ lo ≤ n ∧ n ≤ hi := by
  unfold listOf
  rw [mem_rising, List.mem_filter, List.mem_map]
  constructor
  · rintro ⟨⟨n, hn, rfl⟩, hc⟩
    rw [mem_ints] at hn
    exact ⟨by simpa using hc, n, numO_dec n (by omega) (by omega), by omega, by omega⟩
  · rintro ⟨hv, n, e, a, b⟩
    obtain ⟨rfl, _, _⟩ := (numO_iff v n).1 e
    exact ⟨⟨n, (mem_ints _ _ _).2 ⟨a, by omega⟩, rfl⟩, by simpa using hv⟩
/-- How many are left. -/
theorem filter_len {α : Type} (p : α → Bool) : ∀ l : List α, (l.filter p).length + (l.filter fun x => !p x).length = l.length
  | [] => rfl
  | a :: l => by
    have ih := filter_len p l
    cases h : p a <;> simp [h] <;> omega
theorem listOf_len (lo hi : Int) (but : List Txt) (h0 : -2147483648 ≤ lo) (h1 : hi ≤ 2147483648) : ((listOf lo hi (valsOf lo hi but)).length : Int) = ((hi - lo + 1).toNat : Int) - ((valsOf lo hi but).length : Int) := by
  have hn : ((ints lo (hi - lo + 1).toNat).map decZ).Nodup := nodup_map (nodup_ints _ _) fun x y hx hy e => by
    rw [mem_ints] at hx hy
    exact decZ_inj x y (by omega) (by omega) e
  have hf := filter_len (fun t => (valsOf lo hi but).contains t) ((ints lo (hi - lo + 1).toNat).map decZ)
  have hlen : ((ints lo (hi - lo + 1).toNat).map decZ).length = (hi - lo + 1).toNat := by unfold ints; simp
  have hv : (((ints lo (hi - lo + 1).toNat).map decZ).filter fun t => (valsOf lo hi but).contains t).length = (valsOf lo hi but).length := by
    refine same_len (hn.sublist List.filter_sublist) (up_nodup (up_rising _)) fun x => ?_
    rw [List.mem_filter, List.mem_map]
    constructor
    · rintro ⟨_, hc⟩; simpa using hc
    · intro hx
      obtain ⟨_, n, e, a, b⟩ := (mem_valsOf lo hi but x).1 hx
      obtain ⟨rfl, _, _⟩ := (numO_iff x n).1 e
      exact ⟨⟨n, (mem_ints _ _ _).2 ⟨by omega, by omega⟩, rfl⟩, by simpa using hx⟩
  have hl : (listOf lo hi (valsOf lo hi but)).length = (((ints lo (hi - lo + 1).toNat).map decZ).filter fun t => !(valsOf lo hi but).contains t).length := len_rising (hn.sublist List.filter_sublist)
  rw [hl]
  rw [hv, hlen] at hf
  omega
theorem up_listOf (lo hi : Int) (vals : List Txt) : Up (listOf lo hi vals) := up_rising _

/-- What is told may be, and it has just the numbers from one to the other but some. -/
theorem numsAt_spec (lo hi : Int) (but : List Txt) (h0 : -2147483648 ≤ lo) (h1 : hi ≤ 2147483648) (s : VSet) (h : numsAt lo hi but = some s) :
    checkB s = true ∧ s.miss = false ∧ ∀ v, inB s v = true ↔ v ∉ valsOf lo hi but ∧ ∃ n, numO v = some n ∧ lo ≤ n ∧ n ≤ hi := by
  unfold numsAt at h
  by_cases hc : hi - lo + 1 - ((valsOf lo hi but).length : Int) ≤ 64
  · rw [if_pos hc] at h
    injection h with h
    subst h
    have hl : isList ⟨false, false, false, listOf lo hi (valsOf lo hi but), 0, 0⟩ := ⟨rfl, rfl, rfl, rfl⟩
    have hlen := listOf_len lo hi but h0 h1
    refine ⟨(check_iff _).2 ⟨(ordered_iff _).2 ⟨?_, fun v hv => ?_, up_listOf _ _ _⟩, Or.inl hl⟩, rfl, fun v => (in_list hl v).trans (mem_listOf lo hi _ h0 h1 v)⟩
    · show (listOf lo hi (valsOf lo hi but)).length ≤ 64
      by_cases hp : lo ≤ hi
      · omega
      · omega
    · obtain ⟨_, n, e, _⟩ := (mem_listOf lo hi _ h0 h1 v).1 hv
      exact num_value e
  · rw [if_neg hc] at h
    by_cases hm : 64 < (valsOf lo hi but).length
    · rw [if_pos hm] at h; cases h
    · rw [if_neg hm] at h
      injection h with h
      subst h
      have hl : isNums ⟨false, true, true, valsOf lo hi but, lo, hi⟩ := ⟨rfl, rfl, h0, h1, by show lo ≤ hi; omega, by show 64 < hi - lo + 1 - ((valsOf lo hi but).length : Int); omega, fun v hv => ((mem_valsOf lo hi but v).1 hv).2⟩
      refine ⟨(check_iff _).2 ⟨(ordered_iff _).2 ⟨by show (valsOf lo hi but).length ≤ 64; omega, fun v hv => ?_, up_rising _⟩, Or.inr (Or.inr hl)⟩, rfl, fun v => in_nums hl v⟩
      obtain ⟨_, n, e, _⟩ := (mem_valsOf lo hi but v).1 hv
      exact num_value e
theorem lo_spec (lo hi : Int) (but : List Txt) (hlh : lo ≤ hi + 1) : lo ≤ loOf lo hi but ∧ loOf lo hi but ≤ hi + 1 ∧ (∀ n, lo ≤ n → n < loOf lo hi but → decZ n ∈ but) ∧ (loOf lo hi but ≤ hi → decZ (loOf lo hi but) ∉ but) := by
  obtain ⟨h1, h2, h3, h4⟩ := trimLo_spec but (hi - lo + 1).toNat lo
  unfold loOf
  exact ⟨h1, by omega, h3, fun h => h4 (by omega)⟩
theorem hi_spec (lo hi : Int) (but : List Txt) (hlh : lo ≤ hi + 1) : hiOf lo hi but ≤ hi ∧ loOf lo hi but - 1 ≤ hiOf lo hi but ∧ (∀ n, n ≤ hi → hiOf lo hi but < n → decZ n ∈ but) ∧ (loOf lo hi but ≤ hiOf lo hi but → decZ (hiOf lo hi but) ∉ but) := by
  obtain ⟨l1, l2, l3, l4⟩ := lo_spec lo hi but hlh
  obtain ⟨h1, h2, h3, h4⟩ := trimHi_spec but (hi - loOf lo hi but + 1).toNat hi
  unfold hiOf
  exact ⟨h1, by omega, h3, fun h => h4 (by omega)⟩
/-- Nothing to trim: there is nothing at all. -/
theorem empty_lo (lo hi : Int) (but : List Txt) (h : hi < lo) : loOf lo hi but = lo ∧ hiOf lo hi but = hi := by
  have e : loOf lo hi but = lo := by unfold loOf; rw [show (hi - lo + 1).toNat = 0 by omega]; rfl
  refine ⟨e, ?_⟩
  unfold hiOf; rw [e, show (hi - lo + 1).toNat = 0 by omega]; rfl
theorem numbers_spec (lo hi : Int) (but : List Txt) (h0 : -2147483648 ≤ lo) (h1 : hi ≤ 2147483648) (s : VSet) (h : numbersO lo hi but = some s) :
    checkB s = true ∧ s.miss = false ∧ ∀ v, inB s v = true ↔ v ∉ but ∧ ∃ n, numO v = some n ∧ lo ≤ n ∧ n ≤ hi := by
  unfold numbersO at h
  by_cases hlh : lo ≤ hi + 1
  · obtain ⟨l1, l2, l3, l4⟩ := lo_spec lo hi but hlh
    obtain ⟨g1, g2, g3, g4⟩ := hi_spec lo hi but hlh
    obtain ⟨a, b, c⟩ := numsAt_spec _ _ but (by omega) (by omega) s h
    refine ⟨a, b, fun v => (c v).trans ⟨?_, ?_⟩⟩
    · rintro ⟨hv, n, e, n1, n2⟩
      refine ⟨fun hb => ?_, n, e, by omega, by omega⟩
      obtain ⟨rfl, _, _⟩ := (numO_iff v n).1 e
      by_cases e1 : n = loOf lo hi but
      · rw [e1] at hb; exact l4 (by omega) hb
      · by_cases e2 : n = hiOf lo hi but
        · rw [e2] at hb; exact g4 (by omega) hb
        · exact hv ((mem_valsOf _ _ _ _).2 ⟨hb, n, e, by omega, by omega⟩)
    · rintro ⟨hv, n, e, n1, n2⟩
      obtain ⟨rfl, _, _⟩ := (numO_iff v n).1 e
      refine ⟨fun hb => hv ((mem_valsOf _ _ _ _).1 hb).1, n, e, ?_, ?_⟩
      · apply Classical.byContradiction
        intro hc
        exact hv (l3 n n1 (by omega))
      · apply Classical.byContradiction
        intro hc
        exact hv (g3 n n2 (by omega))
  · obtain ⟨e1, e2⟩ := empty_lo lo hi but (by omega)
    rw [e1, e2] at h
    obtain ⟨a, b, c⟩ := numsAt_spec _ _ but h0 h1 s h
    refine ⟨a, b, fun v => (c v).trans ⟨?_, ?_⟩⟩
    · rintro ⟨hv, n, e, n1, n2⟩; omega
    · rintro ⟨hv, n, e, n1, n2⟩; omega
/-- What is left out counts as a set of texts alone. -/
theorem contains_congr {b c : List Txt} (h : ∀ x, x ∈ b ↔ x ∈ c) (x : Txt) : b.contains x = c.contains x := by
  rw [Bool.eq_iff_iff]; simpa using h x
theorem trimLo_congr {b c : List Txt} (h : ∀ x, x ∈ b ↔ x ∈ c) : ∀ (f : Nat) (lo : Int), trimLo b f lo = trimLo c f lo
  | 0, _ => rfl
  | f + 1, lo => by unfold trimLo; rw [contains_congr h, trimLo_congr h f]
theorem trimHi_congr {b c : List Txt} (h : ∀ x, x ∈ b ↔ x ∈ c) : ∀ (f : Nat) (hi : Int), trimHi b f hi = trimHi c f hi
  | 0, _ => rfl
  | f + 1, hi => by unfold trimHi; rw [contains_congr h, trimHi_congr h f]
theorem numbers_congr {b c : List Txt} (h : ∀ x, x ∈ b ↔ x ∈ c) (lo hi : Int) : numbersO lo hi b = numbersO lo hi c := by
  have e1 : loOf lo hi b = loOf lo hi c := trimLo_congr h _ _
  have e2 : hiOf lo hi b = hiOf lo hi c := by unfold hiOf; rw [e1]; exact trimHi_congr h _ _
  have e3 : ∀ l i, valsOf l i b = valsOf l i c := fun l i => rising_congr fun x => by rw [List.mem_filter, List.mem_filter, h]
  unfold numbersO numsAt
  rw [e1, e2, e3]

end Go.Proofs.Ytcpgodkgdceocaa.Val
