/- Layer 3, plain mathematics alone: sets of values, what they have, that each is written in one way; the numbers from one to another but some. No program is named. -/
import Derived.Test.YtcpgodkgdceocaaValB
namespace Go.Proofs.Ytcpgodkgdceocaa.Val
open Suf

structure VSet where
  miss : Bool
  no : Bool
  num : Bool
  vals : List Txt
  lo : Int
  hi : Int
def orderedB (l : List Txt) : Bool := decide (l.length ≤ 64) && l.all valueB && rises l
def within (lo hi : Int) (t : Txt) : Bool := match numO t with | some n => decide (lo < n ∧ n < hi) | none => false
/-- Whether a set is written in one of the three ways. -/
def checkB (s : VSet) : Bool :=
  orderedB s.vals && (s.no || !s.num) && (if s.num then decide (-2147483648 ≤ s.lo ∧ s.hi ≤ 2147483648 ∧ s.lo ≤ s.hi ∧ 64 < s.hi - s.lo + 1 - (s.vals.length : Int)) && s.vals.all (within s.lo s.hi) else decide (s.lo = 0 ∧ s.hi = 0))
/-- Whether a set has a value, whatever its Miss is. -/
def inB (s : VSet) (v : Txt) : Bool :=
  if s.no then !s.vals.contains v && (!s.num || (match numO v with | some n => decide (s.lo ≤ n ∧ n ≤ s.hi) | none => false)) else s.vals.contains v
def hasB (s : VSet) (v : Txt) : Bool := checkB s && valueB v && inB s v

theorem ordered_iff (l : List Txt) : orderedB l = true ↔ l.length ≤ 64 ∧ (∀ v ∈ l, valueB v = true) ∧ Up l := by
  unfold orderedB; rw [Bool.and_eq_true, Bool.and_eq_true, decide_eq_true_eq, List.all_eq_true, up_iff, and_assoc]
theorem within_iff (lo hi : Int) (t : Txt) : within lo hi t = true ↔ ∃ n, numO t = some n ∧ lo < n ∧ n < hi := by
  unfold within
  cases h : numO t with
  | none => simp
  | some n => simp
/-- The three ways. -/
def isList (s : VSet) : Prop := s.no = false ∧ s.num = false ∧ s.lo = 0 ∧ s.hi = 0
def isBut (s : VSet) : Prop := s.no = true ∧ s.num = false ∧ s.lo = 0 ∧ s.hi = 0
def isNums (s : VSet) : Prop := s.no = true ∧ s.num = true ∧ -2147483648 ≤ s.lo ∧ s.hi ≤ 2147483648 ∧ s.lo ≤ s.hi ∧ 64 < s.hi - s.lo + 1 - (s.vals.length : Int) ∧ ∀ v ∈ s.vals, ∃ n, numO v = some n ∧ s.lo < n ∧ n < s.hi
theorem check_iff (s : VSet) : checkB s = true ↔ orderedB s.vals = true ∧ (isList s ∨ isBut s ∨ isNums s) := by
  obtain ⟨miss, no, num, vals, lo, hi⟩ := s
  unfold checkB isList isBut isNums
  cases no <;> cases num <;> simp [within_iff] <;> intros <;> constructor <;> intro h <;> first | exact h | exact ⟨h.1.1, h.1.2.1, h.1.2.2.1, h.1.2.2.2, h.2⟩ | exact ⟨⟨h.1, h.2.1, h.2.2.1, h.2.2.2.1⟩, h.2.2.2.2⟩
theorem in_list {s : VSet} (h : isList s) (v : Txt) : inB s v = true ↔ v ∈ s.vals := by unfold inB; rw [h.1]; simp
theorem in_but {s : VSet} (h : isBut s) (v : Txt) : inB s v = true ↔ v ∉ s.vals := by unfold inB; rw [h.1, h.2.1]; simp
theorem in_nums {s : VSet} (h : isNums s) (v : Txt) : inB s v = true ↔ v ∉ s.vals ∧ ∃ n, numO v = some n ∧ s.lo ≤ n ∧ n ≤ s.hi := by
  unfold inB; rw [h.1, h.2.1]
  cases hn : numO v with
  | none => simp
  | some n => simp
theorem has_iff (s : VSet) (v : Txt) : hasB s v = true ↔ checkB s = true ∧ valueB v = true ∧ inB s v = true := by
  unfold hasB; rw [Bool.and_eq_true, Bool.and_eq_true, and_assoc]

/-! Each set is written in one way. -/
theorem bool_no {x y : Bool} (h : x = y) (hx : x = true) (hy : ¬ y = true) : False := hy (h ▸ hx)
theorem nums_has {s : VSet} (h : isNums s) (l : List Txt) (hl : l.length ≤ 64) : ∃ v, valueB v = true ∧ inB s v = true ∧ v ∉ l := by
  obtain ⟨_, _, h0, h1, h2, h3, h4⟩ := id h
  obtain ⟨k, hk, hn⟩ := outside (fun k : Nat => decZ (s.lo + k)) (s.hi - s.lo).toNat (fun i j hi hj e => by
    have := decZ_inj _ _ ⟨by omega, by omega⟩ ⟨by omega, by omega⟩ e
    omega) (l ++ s.vals) (by rw [List.length_append]; omega)
  have hnum := numO_dec (s.lo + k) (by omega) (by omega)
  refine ⟨_, num_value hnum, (in_nums h _).2 ⟨fun c => hn (List.mem_append.2 (Or.inr c)), _, hnum, by omega, by omega⟩, fun c => hn (List.mem_append.2 (Or.inl c))⟩
theorem but_not_list {s t : VSet} (hs : isList s) (ht : isBut t) (ls : s.vals.length ≤ 64) (lt : t.vals.length ≤ 64) (h : ∀ v, valueB v = true → inB s v = inB t v) : False := by
  obtain ⟨v, hv, hn⟩ := some_name (s.vals ++ t.vals) (by rw [List.length_append]; omega)
  have e := h v (name_value hv)
  exact bool_no e.symm ((in_but ht v).2 fun c => hn (List.mem_append.2 (Or.inr c))) fun c => hn (List.mem_append.2 (Or.inl ((in_list hs v).1 c)))
theorem nums_not_list {s t : VSet} (hs : isList s) (ht : isNums t) (ls : s.vals.length ≤ 64) (h : ∀ v, valueB v = true → inB s v = inB t v) : False := by
  obtain ⟨v, hv, hin, hn⟩ := nums_has ht s.vals ls
  exact bool_no (h v hv).symm hin fun c => hn ((in_list hs v).1 c)
theorem nums_not_but {s t : VSet} (hs : isBut s) (ht : isNums t) (ls : s.vals.length ≤ 64) (h : ∀ v, valueB v = true → inB s v = inB t v) : False := by
  obtain ⟨v, hv, hn⟩ := some_name s.vals (by omega)
  refine bool_no (h v (name_value hv)) ((in_but hs v).2 hn) fun c => ?_
  obtain ⟨_, n, e, _⟩ := (in_nums ht v).1 c
  rw [name_none hv] at e; cases e
theorem nums_lo {s t : VSet} (hs : isNums s) (ht : isNums t) (h : ∀ v, valueB v = true → inB s v = inB t v) : t.lo ≤ s.lo ∧ s.hi ≤ t.hi := by
  obtain ⟨_, _, h0, h1, h2, h3, h4⟩ := id hs
  have lo_in : inB s (decZ s.lo) = true := (in_nums hs _).2 ⟨fun c => by
    obtain ⟨n, e, hn, _⟩ := h4 _ c
    rw [numO_dec s.lo h0 (by omega)] at e
    injection e with e; omega, _, numO_dec s.lo h0 (by omega), Int.le_refl _, h2⟩
  have hi_in : inB s (decZ s.hi) = true := (in_nums hs _).2 ⟨fun c => by
    obtain ⟨n, e, _, hn⟩ := h4 _ c
    rw [numO_dec s.hi (by omega) h1] at e
    injection e with e; omega, _, numO_dec s.hi (by omega) h1, h2, Int.le_refl _⟩
  rw [h _ (num_value (numO_dec s.lo h0 (by omega)))] at lo_in
  rw [h _ (num_value (numO_dec s.hi (by omega) h1))] at hi_in
  obtain ⟨_, n, e, hn, _⟩ := (in_nums ht _).1 lo_in
  obtain ⟨_, m, e2, _, hm⟩ := (in_nums ht _).1 hi_in
  rw [numO_dec s.lo h0 (by omega)] at e
  rw [numO_dec s.hi (by omega) h1] at e2
  injection e with e
  injection e2 with e2
  omega
theorem nums_vals {s t : VSet} (hs : isNums s) (ht : isNums t) (hlo : s.lo = t.lo) (hhi : s.hi = t.hi) (h : ∀ v, valueB v = true → inB s v = inB t v) (v : Txt) (hv : v ∈ s.vals) : v ∈ t.vals := by
  obtain ⟨_, _, h0, h1, h2, h3, h4⟩ := id hs
  obtain ⟨n, e, hn1, hn2⟩ := h4 v hv
  apply Classical.byContradiction
  intro c
  have : inB t v = true := (in_nums ht v).2 ⟨c, n, e, by omega, by omega⟩
  rw [← h v (num_value e)] at this
  exact ((in_nums hs v).1 this).1 hv
theorem set_ext {s t : VSet} (hs : checkB s = true) (ht : checkB t = true) (hm : s.miss = t.miss) (h : ∀ v, valueB v = true → inB s v = inB t v) : s = t := by
  obtain ⟨os, ws⟩ := (check_iff s).1 hs
  obtain ⟨ot, wt⟩ := (check_iff t).1 ht
  obtain ⟨ls, vs, us⟩ := (ordered_iff _).1 os
  obtain ⟨lt, vt, ut⟩ := (ordered_iff _).1 ot
  have h' : ∀ v, valueB v = true → inB t v = inB s v := fun v hv => (h v hv).symm
  have fin : s.no = t.no → s.num = t.num → s.lo = t.lo → s.hi = t.hi → (∀ x, x ∈ s.vals ↔ x ∈ t.vals) → s = t := fun a b c d e => by
    have ev := up_ext us ut e
    obtain ⟨m1, a1, b1, v1, l1, i1⟩ := s
    obtain ⟨m2, a2, b2, v2, l2, i2⟩ := t
    simp only at *
    subst a b c d ev hm
    rfl
  rcases ws with ws | ws | ws <;> rcases wt with wt | wt | wt
  · refine fin (ws.1.trans wt.1.symm) (ws.2.1.trans wt.2.1.symm) (ws.2.2.1.trans wt.2.2.1.symm) (ws.2.2.2.trans wt.2.2.2.symm) fun x => ⟨fun hx => ?_, fun hx => ?_⟩
    · have := (in_list ws x).2 hx
      rw [h x (vs x hx)] at this; exact (in_list wt x).1 this
    · have := (in_list wt x).2 hx
      rw [h' x (vt x hx)] at this; exact (in_list ws x).1 this
  · exact (but_not_list ws wt ls lt h).elim
  · exact (nums_not_list ws wt ls h).elim
  · exact (but_not_list wt ws lt ls h').elim
  · refine fin (ws.1.trans wt.1.symm) (ws.2.1.trans wt.2.1.symm) (ws.2.2.1.trans wt.2.2.1.symm) (ws.2.2.2.trans wt.2.2.2.symm) fun x => ⟨fun hx => ?_, fun hx => ?_⟩
    · apply Classical.byContradiction
      intro c
      have := (in_but wt x).2 c
      rw [h' x (vs x hx)] at this; exact (in_but ws x).1 this hx
    · apply Classical.byContradiction
      intro c
      have := (in_but ws x).2 c
      rw [h x (vt x hx)] at this; exact (in_but wt x).1 this hx
  · exact (nums_not_but ws wt ls h).elim
  · exact (nums_not_list wt ws lt h').elim
  · exact (nums_not_but wt ws lt h').elim
  · have a := nums_lo ws wt h
    have b := nums_lo wt ws h'
    have e1 : s.lo = t.lo := by omega
    have e2 : s.hi = t.hi := by omega
    exact fin (ws.1.trans wt.1.symm) (ws.2.1.trans wt.2.1.symm) e1 e2 fun x => ⟨nums_vals ws wt e1 e2 h x, nums_vals wt ws e1.symm e2.symm h' x⟩

end Go.Proofs.Ytcpgodkgdceocaa.Val
