/- Layer 3: contracts of Check, bounds, has, Has. -/
import Derived.Test.YthaldbjnnbllbaaGreatDoorV3BG
import Derived.Test.YthaldbjnnbllbaaGreatDoorIter
namespace Go.Proofs.YthaldbjnnbllbaaGreatDoor
open Go.RowKit Suf Val

theorem betw_within (lo hi : Int) (t : Txt) : betw (lo + 1) (hi - 1) t = within lo hi t := by
  unfold betw within
  cases numO t with
  | none => rfl
  | some n => show decide (lo + 1 ≤ n ∧ n ≤ hi - 1) = decide (lo < n ∧ n < hi); rw [decide_eq_decide]; omega
theorem check_of (miss no num : Bool) (l : List Txt) (lo hi : Int) : checkB ⟨miss, no, num, l, lo, hi⟩ = (decide (l.length ≤ 64) && rises l && (plainB num l lo hi || numericB no num l lo hi)) := by
  have hw : l.all (betw (lo + 1) (hi - 1)) = l.all (within lo hi) := by congr 1; funext t; exact betw_within lo hi t
  rw [Bool.eq_iff_iff]
  unfold checkB orderedB plainB numericB
  rw [hw]
  cases num
  · cases no <;> simp [and_assoc] <;> intro _ <;> constructor
    all_goals rintro ⟨h1, h2, h3, h4⟩
    all_goals first | exact ⟨h2, h3, h4, h1⟩ | exact ⟨h4, h1, h2, h3⟩
  · cases no
    · simp
    · have hv : l.all (within lo hi) = true → l.all valueB = true := fun h => List.all_eq_true.2 fun t ht => by
        obtain ⟨n, e, _⟩ := (Val.within_iff lo hi t).1 (List.all_eq_true.1 h t ht)
        exact num_value e
      have hf : ∀ x : Int, farB x = false ↔ -2147483648 ≤ x ∧ x ≤ 2147483648 := fun x => by unfold farB; simp
      simp only [Bool.and_eq_true, decide_eq_true_eq, Bool.not_true, Bool.false_and, Bool.or_false, Bool.false_or, Bool.true_and, Bool.not_eq_true', if_true, decide_eq_false_iff_not, and_true, hf]
      constructor
      · rintro ⟨⟨⟨h1, h2⟩, h3⟩, ⟨h4, h5, h6, h7⟩, h8⟩
        exact ⟨⟨h1, h3⟩, ⟨⟨⟨by omega, by omega⟩, by omega, by omega⟩, by omega⟩, h8⟩
      · rintro ⟨⟨h1, h3⟩, ⟨⟨⟨h4, h5⟩, h6, h7⟩, h9⟩, h8⟩
        exact ⟨⟨⟨h1, hv h8⟩, h3⟩, ⟨h4, h7, by omega, by omega⟩, h8⟩
/-- The error of a set. -/
def errC (b : Bool) : Int := if b = true then 0 else 1
/-- A set's six fields in memory. -/
def Six (w : World) (B : Nat) (a b c d e f : Value) : Prop :=
  w.cell? ⟨B, 0, none⟩ = some a ∧ w.cell? ⟨B, 1, none⟩ = some b ∧ w.cell? ⟨B, 2, none⟩ = some c ∧ w.cell? ⟨B, 3, none⟩ = some d ∧ w.cell? ⟨B, 4, none⟩ = some e ∧ w.cell? ⟨B, 5, none⟩ = some f
theorem Six.below {w w' : World} {B : Nat} {a b c d e f : Value} (h : Six w B a b c d e f) (hb : Below w.heap.size w w') : Six w' B a b c d e f :=
  ⟨cell_kept hb h.1, cell_kept hb h.2.1, cell_kept hb h.2.2.1, cell_kept hb h.2.2.2.1, cell_kept hb h.2.2.2.2.1, cell_kept hb h.2.2.2.2.2⟩
theorem six_new (w : World) (a b c d e f : Value) (t : TypeId) : Six (w.alloc (.cells #[a, b, c, d, e, f] t)) w.heap.size a b c d e f := by
  refine ⟨?_, ?_, ?_, ?_, ?_, ?_⟩ <;> simp [go_sem]
theorem box_below {w : World} (o : Obj) : Below w.heap.size w (w.alloc o) := (Below.refl _ _).alloc (Nat.le_refl _) _

end Go.Proofs.YthaldbjnnbllbaaGreatDoor

/- Layer 3: contracts of bounds, has, Has. -/
namespace Go.Proofs.YthaldbjnnbllbaaGreatDoor
open Go.RowKit Suf Val

/-- Where a text stands among texts that rise. -/
theorem search_spec (x : Txt) : ∀ (l : List Txt), Up l → ∃ k, k ≤ l.length ∧ (∀ t, t < k → lt (l.getD t x) x = true) ∧ (∀ t, k ≤ t → lt (l.getD t x) x = false) ∧ decide (k < l.length ∧ l.getD k x = x) = l.contains x
  | [], _ => ⟨0, Nat.le_refl _, fun t h => absurd h (Nat.not_lt_zero _), fun t _ => by simp [lt_irrefl], by simp⟩
  | a :: l, h => by
    obtain ⟨ha, hl⟩ := List.pairwise_cons.1 h
    cases hc : lt a x with
    | true =>
      obtain ⟨k, h0, h1, h2, h3⟩ := search_spec x l hl
      refine ⟨k + 1, by simpa using h0, fun t ht => ?_, fun t ht => ?_, ?_⟩
      · cases t with
        | zero => exact hc
        | succ t => exact h1 t (by omega)
      · cases t with
        | zero => omega
        | succ t => exact h2 t (by omega)
      · have hne : (x == a) = false := beq_eq_false_iff_ne.2 fun e => by subst e; rw [lt_irrefl] at hc; cases hc
        rw [List.contains_cons, hne, Bool.false_or, ← h3, decide_eq_decide]
        simp
    | false =>
      refine ⟨0, Nat.zero_le _, fun t h => absurd h (Nat.not_lt_zero _), fun t _ => ?_, ?_⟩
      · cases t with
        | zero => exact hc
        | succ t =>
          show lt (l.getD t x) x = false
          rw [List.getD_eq_getElem?_getD]
          cases ht : l[t]? with
          | none => exact lt_irrefl x
          | some b =>
            have hb := ha b (List.mem_of_getElem? ht)
            show lt b x = false
            cases hbx : lt b x with
            | false => rfl
            | true => rw [lt_trans hb hbx] at hc; cases hc
      · rw [Bool.eq_iff_iff]
        simp
        constructor
        · intro e; exact Or.inl e.symm
        · rintro (e | hm)
          · exact e.symm
          · have := ha x hm; rw [hc] at this; cases this
/-- Whether a set that may be has a value. -/
def hasP (no num : Bool) (l : List Txt) (lo hi : Int) (x : Txt) : Bool := if num = true then (!l.contains x && betw lo hi x) else (l.contains x != no)
theorem hasP_in (s : VSet) (h : checkB s = true) (x : Txt) : hasP s.no s.num s.vals s.lo s.hi x = inB s x := by
  obtain ⟨miss, no, num, l, lo, hi⟩ := s
  have hnn : num = true → no = true := by
    rintro rfl
    cases no with
    | true => rfl
    | false => unfold checkB at h; simp at h
  unfold hasP inB betw
  show (if num = true then _ else _) = if no = true then _ else _
  cases num
  · cases no <;> simp
  · rw [hnn rfl, if_pos rfl, if_pos rfl]; cases numO x <;> rfl
theorem check_rises {s : VSet} (h : checkB s = true) : rises s.vals = true := by
  obtain ⟨miss, no, num, l, lo, hi⟩ := s
  unfold checkB orderedB at h; simp at h; exact h.1.1.2

end Go.Proofs.YthaldbjnnbllbaaGreatDoor

/- Layer 3: contract of Empty. -/
namespace Go.Proofs.YthaldbjnnbllbaaGreatDoor
open Go.RowKit Suf Val

/-- Whether a set that may be has neither a value nor none. -/
def emptyB (s : VSet) : Bool := checkB s && !s.no && !s.miss && (s.vals.length == 0)
end Go.Proofs.YthaldbjnnbllbaaGreatDoor
