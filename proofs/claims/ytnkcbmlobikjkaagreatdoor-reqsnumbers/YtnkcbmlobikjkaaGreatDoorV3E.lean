/- Layer 3: contracts of Check, bounds, has, Has. -/
import Derived.Test.YtnkcbmlobikjkaaGreatDoorV3D
import Derived.Test.YtnkcbmlobikjkaaGreatDoorIter
namespace Go.Proofs.YtnkcbmlobikjkaaGreatDoor
open Go.RowKit Suf Val

theorem betw_within (lo hi : Int) (t : Txt) : betw (lo + 1) (hi - 1) t = within lo hi t := by
  unfold betw within
  cases numO t with
  | none => rfl
  | some n => show decide (lo + 1 ≤ n ∧ n ≤ hi - 1) = decide (lo < n ∧ n < hi); rw [decide_eq_decide]; omega
theorem check_of (miss no num : Bool) (l : List Txt) (lo hi : Int) : checkB ⟨miss, no, num, l, lo, hi⟩ = (decide (l.length ≤ 64) && rises l && (plainB num l lo hi || numericB no num l lo hi)) := by
  have hw : l.all (betw (lo + 1) (hi - 1)) = l.all (within lo hi) := by congr 1; funext t; exact betw_within lo hi t
  rw [Bool.eq_iff_iff]
  unfold checkB orderedB plainB numericB
  rw [hw]
  cases num
  · cases no <;> simp [and_assoc] <;> intro _ <;> constructor
    all_goals rintro ⟨h1, h2, h3, h4⟩
    all_goals first | exact ⟨h2, h3, h4, h1⟩ | exact ⟨h4, h1, h2, h3⟩
  · cases no
    · simp
    · have hv : l.all (within lo hi) = true → l.all valueB = true := fun h => List.all_eq_true.2 fun t ht => by
        obtain ⟨n, e, _⟩ := (Val.within_iff lo hi t).1 (List.all_eq_true.1 h t ht)
        exact num_value e
      have hf : ∀ x : Int, farB x = false ↔ -2147483648 ≤ x ∧ x ≤ 2147483648 := fun x => by unfold farB; simp
      simp only [Bool.and_eq_true, decide_eq_true_eq, Bool.not_true, Bool.false_and, Bool.or_false, Bool.false_or, Bool.true_and, Bool.not_eq_true', if_true, decide_eq_false_iff_not, and_true, hf]
      constructor
      · rintro ⟨⟨⟨h1, h2⟩, h3⟩, ⟨h4, h5, h6, h7⟩, h8⟩
        exact ⟨⟨h1, h3⟩, ⟨⟨⟨by omega, by omega⟩, by omega, by omega⟩, by omega⟩, h8⟩
      · rintro ⟨⟨h1, h3⟩, ⟨⟨⟨h4, h5⟩, h6, h7⟩, h9⟩, h8⟩
        exact ⟨⟨⟨h1, hv h8⟩, h3⟩, ⟨h4, h7, by omega, by omega⟩, h8⟩
/-- The error of a set. -/
def errC (b : Bool) : Int := if b = true then 0 else 1
/-- A set's six fields in memory. -/
def Six (w : World) (B : Nat) (a b c d e f : Value) : Prop :=
  w.cell? ⟨B, 0, none⟩ = some a ∧ w.cell? ⟨B, 1, none⟩ = some b ∧ w.cell? ⟨B, 2, none⟩ = some c ∧ w.cell? ⟨B, 3, none⟩ = some d ∧ w.cell? ⟨B, 4, none⟩ = some e ∧ w.cell? ⟨B, 5, none⟩ = some f
theorem Six.below {w w' : World} {B : Nat} {a b c d e f : Value} (h : Six w B a b c d e f) (hb : Below w.heap.size w w') : Six w' B a b c d e f :=
  ⟨cell_kept hb h.1, cell_kept hb h.2.1, cell_kept hb h.2.2.1, cell_kept hb h.2.2.2.1, cell_kept hb h.2.2.2.2.1, cell_kept hb h.2.2.2.2.2⟩
theorem six_new (w : World) (a b c d e f : Value) (t : TypeId) : Six (w.alloc (.cells #[a, b, c, d, e, f] t)) w.heap.size a b c d e f := by
  refine ⟨?_, ?_, ?_, ?_, ?_, ?_⟩ <;> simp [go_sem]
theorem box_below {w : World} (o : Obj) : Below w.heap.size w (w.alloc o) := (Below.refl _ _).alloc (Nat.le_refl _) _

set_option maxHeartbeats 1000000 in
theorem check_any (miss no num : Bool) (v : Value) (l : List Txt) (lo hi : Int) (w : World) (hL : Laid w) (hv : Strs w v l) :
    Calls Tryz.prog 43 #[.agg #[.bool miss, .bool no, .bool num, v, .int .i64 lo, .int .i64 hi]] w fun e w' => e = .returned (.int .i64 (errC (checkB ⟨miss, no, num, l, lo, hi⟩))) ∧ Below w.heap.size w w' := by
  obtain ⟨r, hr⟩ : ∃ r, r = errC (checkB ⟨miss, no, num, l, lo, hi⟩) := ⟨_, rfl⟩
  rw [← hr]
  rw [check_of] at hr
  have HR := hide hr
  have HL := hide hL
  have HV := hide hv
  have hlen := hv.len
  clear hr hL
  obtain ⟨a, c, rfl⟩ := hv.val
  clear hv
  obtain ⟨n, hn⟩ : ∃ n, n = l.length := ⟨_, rfl⟩
  have HN := hide hn
  rw [← hn] at hlen ⊢
  clear hn
  by_cases h64 : 64 < n
  · have hf : Hid (r = 1) := (unhide HR).trans (by rw [decide_eq_false (by rw [← unhide HN]; omega)]; rfl)
    go_enter Tryz.func43, Tryz.ntmps43
    go_wp2_with fail
    go_ret
    exact ⟨ret_int (unhide hf).symm, box_below _⟩
  have hd : Hid (decide (l.length ≤ 64) = true) := decide_eq_true (by rw [← unhide HN]; omega)
  have h64' : ¬ 64 < (n : Int) := by omega
  obtain ⟨q0, hq0⟩ : ∃ q, q = rises l := ⟨_, rfl⟩
  obtain ⟨q1, hq1⟩ : ∃ q, q = plainB num l lo hi := ⟨_, rfl⟩
  obtain ⟨q2, hq2⟩ : ∃ q, q = numericB no num l lo hi := ⟨_, rfl⟩
  have Q0 := hide hq0
  have Q1 := hide hq1
  have Q2 := hide hq2
  clear hq0 hq1 hq2
  have hf : Hid (r = errC (q0 && (q1 || q2))) := (unhide HR).trans (by rw [unhide hd, unhide Q0, unhide Q1, unhide Q2, Bool.true_and])
  clear hd
  go_enter Tryz.func43, Tryz.ntmps43
  go_wp2_with fail
  refine (rises_any _ l _ (by rw [unhide HN]; exact (unhide HV).below (box_below _))).mono ?_
  rintro e w1 ⟨he, hw1⟩
  rw [← unhide Q0] at he
  subst he
  have hsix := (six_new w (.bool miss) (.bool no) (.bool num) (.slice a n c) (.int .i64 lo) (.int .i64 hi) 42).below hw1
  have HB1 := hide (chain (box_below _) hw1)
  clear hw1
  cases q0
  · obtain ⟨k0, k1, k2, k3, k4, k5⟩ := hsix
    go_wp2_with fail
    go_ret
    exact ⟨ret_int (by rw [unhide hf]; rfl), unhide HB1⟩
  · have hS := hide hsix
    obtain ⟨k0, k1, k2, k3, k4, k5⟩ := hsix
    go_wp2_with fail
    refine (plain_any _ _ _ _ l _ _ _ ((unhide HL).below (unhide HB1)) (by rw [unhide HN]; exact (unhide HV).below (unhide HB1))).mono ?_
    clear k0 k1 k2 k3 k4 k5
    rintro e w2 ⟨he, hw2⟩
    rw [← unhide Q1] at he
    subst he
    have hsix := (unhide hS).below hw2
    have HB2 := hide (chain (unhide HB1) hw2)
    clear hw2 HB1 hS
    obtain ⟨k0, k1, k2, k3, k4, k5⟩ := hsix
    cases q1
    · go_wp2_with fail
      refine (numeric_any _ _ _ _ l _ _ _ ((unhide HL).below (unhide HB2)) (by rw [unhide HN]; exact (unhide HV).below (unhide HB2))).mono ?_
      clear k0 k1 k2 k3 k4 k5
      rintro e w3 ⟨he, hw3⟩
      rw [← unhide Q2] at he
      subst he
      have HB3 := hide (chain (unhide HB2) hw3)
      clear hw3 HB2
      cases q2
      · go_wp2_with fail
        go_ret
        exact ⟨ret_int (by rw [unhide hf]; rfl), unhide HB3⟩
      · go_wp2_with fail
        go_ret
        exact ⟨ret_int (by rw [unhide hf]; rfl), unhide HB3⟩
    · go_wp2_with fail
      go_ret
      exact ⟨ret_int (by rw [unhide hf]; rfl), unhide HB2⟩

end Go.Proofs.YtnkcbmlobikjkaaGreatDoor
