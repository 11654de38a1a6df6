/- Layer 3: contracts of Check, bounds, has, Has. -/
import Derived.Test.YtepcnfnmphgccaaGreatDoorV3BG
import Derived.Test.YtepcnfnmphgccaaGreatDoorIter
namespace Go.Proofs.YtepcnfnmphgccaaGreatDoor
open Go.RowKit Suf Val

theorem betw_within (lo hi : Int) (t : Txt) : betw (lo + 1) (hi - 1) t = within lo hi t := by
  unfold betw within
  cases numO t with
  | none => rfl
  | some n => show decide (lo + 1 ≤ n ∧ n ≤ hi - 1) = decide (lo < n ∧ n < hi); rw [decide_eq_decide]; omega
theorem check_of (miss no num : Bool) (l : List Txt) (lo hi : Int) : checkB ⟨miss, no, num, l, lo, hi⟩ = (decide (l.length ≤ 64) && rises l && (plainB num l lo hi || numericB no num l lo hi)) := by
  have hw : l.all (betw (lo + 1) (hi - 1)) = l.all (within lo hi) := by congr 1; funext t; exact betw_within lo hi t
  rw [Bool.eq_iff_iff]
  unfold checkB orderedB plainB numericB
  rw [hw]
  cases num
  · cases no <;> simp [and_assoc] <;> intro _ <;> constructor
    all_goals rintro ⟨h1, h2, h3, h4⟩
    all_goals first | exact ⟨h2, h3, h4, h1⟩ | exact ⟨h4, h1, h2, h3⟩
  · cases no
    · simp
    · have hv : l.all (within lo hi) = true → l.all valueB = true := fun h => List.all_eq_true.2 fun t ht => by
        obtain ⟨n, e, _⟩ := (Val.within_iff lo hi t).1 (List.all_eq_true.1 h t ht)
        exact num_value e
      have hf : ∀ x : Int, farB x = false ↔ -2147483648 ≤ x ∧ x ≤ 2147483648 := fun x => by unfold farB; simp
      simp only [Bool.and_eq_true, decide_eq_true_eq, Bool.not_true, Bool.false_and, Bool.or_false, Bool.false_or, Bool.true_and, Bool.not_eq_true', if_true, decide_eq_false_iff_not, and_true, hf]
      constructor
      · rintro ⟨⟨⟨h1, h2⟩, h3⟩, ⟨h4, h5, h6, h7⟩, h8⟩
        exact ⟨⟨h1, h3⟩, ⟨⟨⟨by omega, by omega⟩, by omega, by omega⟩, by omega⟩, h8⟩
      · rintro ⟨⟨h1, h3⟩, ⟨⟨⟨h4, h5⟩, h6, h7⟩, h9⟩, h8⟩
        exact ⟨⟨⟨h1, hv h8⟩, h3⟩, ⟨h4, h7, by omega, by omega⟩, h8⟩
/-- The error of a set. -/
def errC (b : Bool) : Int := if b = true then 0 else 1
/-- A set's six fields in memory. -/
def Six (w : World) (B : Nat) (a b c d e f : Value) : Prop :=
  w.cell? ⟨B, 0, none⟩ = some a ∧ w.cell? ⟨B, 1, none⟩ = some b ∧ w.cell? ⟨B, 2, none⟩ = some c ∧ w.cell? ⟨B, 3, none⟩ = some d ∧ w.cell? ⟨B, 4, none⟩ = some e ∧ w.cell? ⟨B, 5, none⟩ = some f
theorem Six.below {w w' : World} {B : Nat} {a b c d e f : Value} (h : Six w B a b c d e f) (hb : Below w.heap.size w w') : Six w' B a b c d e f :=
  ⟨cell_kept hb h.1, cell_kept hb h.2.1, cell_kept hb h.2.2.1, cell_kept hb h.2.2.2.1, cell_kept hb h.2.2.2.2.1, cell_kept hb h.2.2.2.2.2⟩
theorem six_new (w : World) (a b c d e f : Value) (t : TypeId) : Six (w.alloc (.cells #[a, b, c, d, e, f] t)) w.heap.size a b c d e f := by
  refine ⟨?_, ?_, ?_, ?_, ?_, ?_⟩ <;> simp [go_sem]
theorem box_below {w : World} (o : Obj) : Below w.heap.size w (w.alloc o) := (Below.refl _ _).alloc (Nat.le_refl _) _

set_option maxHeartbeats 1000000 in
theorem check_any (miss no num : Bool) (v : Value) (l : List Txt) (lo hi : Int) (w : World) (hL : Laid w) (hv : Strs w v l) :
    Calls Tryz.prog 151 #[.agg #[.bool miss, .bool no, .bool num, v, .int .i64 lo, .int .i64 hi]] w fun e w' => e = .returned (.int .i64 (errC (checkB ⟨miss, no, num, l, lo, hi⟩))) ∧ Below w.heap.size w w' := by
  obtain ⟨r, hr⟩ : ∃ r, r = errC (checkB ⟨miss, no, num, l, lo, hi⟩) := ⟨_, rfl⟩
  rw [← hr]
  rw [check_of] at hr
  have HR := hide hr
  have HL := hide hL
  have HV := hide hv
  have hlen := hv.len
  clear hr hL
  obtain ⟨a, c, rfl⟩ := hv.val
  clear hv
  obtain ⟨n, hn⟩ : ∃ n, n = l.length := ⟨_, rfl⟩
  have HN := hide hn
  rw [← hn] at hlen ⊢
  clear hn
  by_cases h64 : 64 < n
  · have hf : Hid (r = 1) := (unhide HR).trans (by rw [decide_eq_false (by rw [← unhide HN]; omega)]; rfl)
    go_enter Tryz.func151, Tryz.ntmps151
    go_wp2_with fail
    go_ret
    exact ⟨ret_int (unhide hf).symm, box_below _⟩
  have hd : Hid (decide (l.length ≤ 64) = true) := decide_eq_true (by rw [← unhide HN]; omega)
  have h64' : ¬ 64 < (n : Int) := by omega
  obtain ⟨q0, hq0⟩ : ∃ q, q = rises l := ⟨_, rfl⟩
  obtain ⟨q1, hq1⟩ : ∃ q, q = plainB num l lo hi := ⟨_, rfl⟩
  obtain ⟨q2, hq2⟩ : ∃ q, q = numericB no num l lo hi := ⟨_, rfl⟩
  have Q0 := hide hq0
  have Q1 := hide hq1
  have Q2 := hide hq2
  clear hq0 hq1 hq2
  have hf : Hid (r = errC (q0 && (q1 || q2))) := (unhide HR).trans (by rw [unhide hd, unhide Q0, unhide Q1, unhide Q2, Bool.true_and])
  clear hd
  go_enter Tryz.func151, Tryz.ntmps151
  go_wp2_with fail
  refine (rises_any _ l _ (by rw [unhide HN]; exact (unhide HV).below (box_below _))).mono ?_
  rintro e w1 ⟨he, hw1⟩
  rw [← unhide Q0] at he
  subst he
  have hsix := (six_new w (.bool miss) (.bool no) (.bool num) (.slice a n c) (.int .i64 lo) (.int .i64 hi) 108).below hw1
  have HB1 := hide (chain (box_below _) hw1)
  clear hw1
  cases q0
  · obtain ⟨k0, k1, k2, k3, k4, k5⟩ := hsix
    go_wp2_with fail
    go_ret
    exact ⟨ret_int (by rw [unhide hf]; rfl), unhide HB1⟩
  · have hS := hide hsix
    obtain ⟨k0, k1, k2, k3, k4, k5⟩ := hsix
    go_wp2_with fail
    refine (plain_any _ _ _ _ l _ _ _ ((unhide HL).below (unhide HB1)) (by rw [unhide HN]; exact (unhide HV).below (unhide HB1))).mono ?_
    clear k0 k1 k2 k3 k4 k5
    rintro e w2 ⟨he, hw2⟩
    rw [← unhide Q1] at he
    subst he
    have hsix := (unhide hS).below hw2
    have HB2 := hide (chain (unhide HB1) hw2)
    clear hw2 HB1 hS
    obtain ⟨k0, k1, k2, k3, k4, k5⟩ := hsix
    cases q1
    · go_wp2_with fail
      refine (numeric_any _ _ _ _ l _ _ _ ((unhide HL).below (unhide HB2)) (by rw [unhide HN]; exact (unhide HV).below (unhide HB2))).mono ?_
      clear k0 k1 k2 k3 k4 k5
      rintro e w3 ⟨he, hw3⟩
      rw [← unhide Q2] at he
      subst he
      have HB3 := hide (chain (unhide HB2) hw3)
      clear hw3 HB2
      cases q2
      · go_wp2_with fail
        go_ret
        exact ⟨ret_int (by rw [unhide hf]; rfl), unhide HB3⟩
      · go_wp2_with fail
        go_ret
        exact ⟨ret_int (by rw [unhide hf]; rfl), unhide HB3⟩
    · go_wp2_with fail
      go_ret
      exact ⟨ret_int (by rw [unhide hf]; rfl), unhide HB2⟩

end Go.Proofs.YtepcnfnmphgccaaGreatDoor

/- Layer 3: contracts of bounds, has, Has. -/
namespace Go.Proofs.YtepcnfnmphgccaaGreatDoor
open Go.RowKit Suf Val

/-- Where a text stands among texts that rise. -/
theorem search_spec (x : Txt) : ∀ (l : List Txt), Up l → ∃ k, k ≤ l.length ∧ (∀ t, t < k → lt (l.getD t x) x = true) ∧ (∀ t, k ≤ t → lt (l.getD t x) x = false) ∧ decide (k < l.length ∧ l.getD k x = x) = l.contains x
  | [], _ => ⟨0, Nat.le_refl _, fun t h => absurd h (Nat.not_lt_zero _), fun t _ => by simp [lt_irrefl], by simp⟩
  | a :: l, h => by
    obtain ⟨ha, hl⟩ := List.pairwise_cons.1 h
    cases hc : lt a x with
    | true =>
      obtain ⟨k, h0, h1, h2, h3⟩ := search_spec x l hl
      refine ⟨k + 1, by simpa using h0, fun t ht => ?_, fun t ht => ?_, ?_⟩
      · cases t with
        | zero => exact hc
        | succ t => exact h1 t (by omega)
      · cases t with
        | zero => omega
        | succ t => exact h2 t (by omega)
      · have hne : (x == a) = false := beq_eq_false_iff_ne.2 fun e => by subst e; rw [lt_irrefl] at hc; cases hc
        rw [List.contains_cons, hne, Bool.false_or, ← h3, decide_eq_decide]
        simp
    | false =>
      refine ⟨0, Nat.zero_le _, fun t h => absurd h (Nat.not_lt_zero _), fun t _ => ?_, ?_⟩
      · cases t with
        | zero => exact hc
        | succ t =>
          show lt (l.getD t x) x = false
          rw [List.getD_eq_getElem?_getD]
          cases ht : l[t]? with
          | none => exact lt_irrefl x
          | some b =>
            have hb := ha b (List.mem_of_getElem? ht)
            show lt b x = false
            cases hbx : lt b x with
            | false => rfl
            | true => rw [lt_trans hb hbx] at hc; cases hc
      · rw [Bool.eq_iff_iff]
        simp
        constructor
        · intro e; exact Or.inl e.symm
        · rintro (e | hm)
          · exact e.symm
          · have := ha x hm; rw [hc] at this; cases this
theorem slices_search (b off c : Nat) (l : List Txt) (x : Txt) (w : World) (hu : rises l = true) (hlen : l.length ≤ 17592186044416) (hc : ∀ j (hj : j < l.length), w.cell? ⟨b, off + j, none⟩ = some (.string (bytesT l[j]))) :
    Calls Tryz.prog 169 #[.slice (some ⟨b, off, none⟩) l.length c, .string (bytesT x)] w fun e w' => ∃ i : Nat, e = .returned (.tuple #[.int .i64 i, .bool (l.contains x)]) ∧ Below w.heap.size w w' := by
  have hS := Any2.slices_BinarySearch_string Tryz.lays2_26 b off l.length c (fun j => bytesT (l.getD j x)) (bytesT x) w (by omega) (fun j hj => by
    rw [hc j hj]
    have : l.getD j x = l[j] := by rw [List.getD_eq_getElem?_getD, List.getElem?_eq_getElem hj]; rfl
    rw [this])
  obtain ⟨k, h0, h1, h2, h3⟩ := search_spec x l ((up_iff l).1 hu)
  have hb : Lib.bsGo (fun t => Op.bytesLess (bytesT (l.getD t x)).toList (bytesT x).toList) l.length 0 l.length = k :=
    Lib.bsGo_spec _ k (fun t ht => by rw [Lib.toList_data, Lib.toList_data]; exact h1 t ht) (fun t ht => by rw [Lib.toList_data, Lib.toList_data]; exact h2 t ht) l.length 0 l.length (by omega) (Nat.zero_le _) h0
  refine hS.mono ?_
  rintro e w' ⟨rfl, q, rfl⟩
  refine ⟨k, ?_, below_drew q⟩
  rw [hb, ← h3]
  have : (decide (k < l.length ∧ bytesT (l.getD k x) = bytesT x)) = decide (k < l.length ∧ l.getD k x = x) := by
    rw [decide_eq_decide]
    exact and_congr_right fun _ => ⟨fun e => by have := congrArg (fun b : ByteArray => b.data.toList) e; exact this, fun e => by rw [e]⟩
  rw [this]
theorem slices_search_none (a : Option Addr) (c : Nat) (x : Txt) (w : World) :
    Calls Tryz.prog 169 #[.slice a 0 c, .string (bytesT x)] w fun e w' => ∃ i : Nat, e = .returned (.tuple #[.int .i64 i, .bool (([] : List Txt).contains x)]) ∧ Below w.heap.size w w' := by
  refine (Any2.slices_BinarySearch_string_empty Tryz.lays2_26 a c (bytesT x) w).mono ?_
  rintro e w' ⟨rfl, rfl⟩
  exact ⟨0, rfl, Below.refl _ _⟩
theorem search_any (v : Value) (l : List Txt) (x : Txt) (w : World) (hu : rises l = true) (hv : Strs w v l) :
    Calls Tryz.prog 169 #[v, .string (bytesT x)] w fun e w' => ∃ i : Nat, e = .returned (.tuple #[.int .i64 i, .bool (l.contains x)]) ∧ Below w.heap.size w w' := by
  have hlen := hv.len
  rcases hv.open with ⟨a, c, rfl, rfl⟩ | ⟨b, o, c, _, rfl, hcell⟩
  · exact slices_search_none a c x w
  · exact slices_search b o c l x w hu hlen hcell

/-- Whether a set that may be has a value. -/
def hasP (no num : Bool) (l : List Txt) (lo hi : Int) (x : Txt) : Bool := if num = true then (!l.contains x && betw lo hi x) else (l.contains x != no)
set_option maxHeartbeats 1000000 in
theorem hasIn_any (miss no num : Bool) (v : Value) (l : List Txt) (lo hi : Int) (x : Txt) (w : World) (hL : Laid w) (hv : Strs w v l) (hu : rises l = true) (hx : short x) :
    Calls Tryz.prog 152 #[.agg #[.bool miss, .bool no, .bool num, v, .int .i64 lo, .int .i64 hi], .string (bytesT x)] w fun e w' => e = .returned (.bool (hasP no num l lo hi x)) ∧ Below w.heap.size w w' := by
  obtain ⟨r, hr⟩ : ∃ r, r = hasP no num l lo hi x := ⟨_, rfl⟩
  rw [← hr]
  have HR := hide hr
  have HL := hide hL
  have HV := hide hv
  have HU := hide hu
  have HX := hide hx
  clear hr hL hu hx
  obtain ⟨a, c, rfl⟩ := hv.val
  clear hv
  obtain ⟨n, hn⟩ : ∃ n, n = l.length := ⟨_, rfl⟩
  have HN := hide hn
  rw [← hn]
  clear hn
  obtain ⟨q, hq⟩ : ∃ q, q = l.contains x := ⟨_, rfl⟩
  have hQ := hide hq
  clear hq
  obtain ⟨X, hX⟩ : ∃ X, X = bytesT x := ⟨_, rfl⟩
  rw [← hX]
  have GX := hide hX
  clear hX
  go_enter Tryz.func152, Tryz.ntmps152
  go_wp2_with fail
  rw [unhide GX]
  refine (search_any _ l x _ (unhide HU) (by rw [unhide HN]; exact (unhide HV).below (box_below _))).mono ?_
  rintro e w1 ⟨i, he, hw1⟩
  rw [← unhide hQ] at he
  subst he
  have hsix := (six_new w (.bool miss) (.bool no) (.bool num) (.slice a n c) (.int .i64 lo) (.int .i64 hi) 108).below hw1
  have HB1 := hide (chain (box_below _) hw1)
  clear hw1
  obtain ⟨k0, k1, k2, k3, k4, k5⟩ := hsix
  rw [← unhide GX]
  cases num
  · have hf : Hid (r = (q != no)) := (unhide HR).trans (by rw [unhide hQ]; unfold hasP; rw [if_neg (by decide)])
    go_wp2_with fail
    go_ret
    exact ⟨ret_bool (unhide hf).symm, unhide HB1⟩
  · cases q
    · have hf : Hid (r = betw lo hi x) := (unhide HR).trans (by unfold hasP; rw [if_pos rfl, ← unhide hQ]; simp)
      go_wp2_with fail
      rw [unhide GX]
      refine (between_any (bytesT x) _ _ _ (short_size (unhide HX)) ((unhide HL).below (unhide HB1))).mono ?_
      rintro e w2 ⟨he, hw2⟩
      rw [bytesT_list, ← unhide hf] at he
      subst he
      have HB2 := hide (chain (unhide HB1) hw2)
      clear hw2 HB1 k0 k1 k2 k3 k4 k5
      go_wp2_with fail
      go_ret
      exact ⟨rfl, unhide HB2⟩
    · have hf : Hid (r = false) := (unhide HR).trans (by unfold hasP; rw [if_pos rfl, ← unhide hQ]; simp)
      go_wp2_with fail
      go_ret
      exact ⟨ret_bool (unhide hf).symm, unhide HB1⟩
theorem hasP_in (s : VSet) (h : checkB s = true) (x : Txt) : hasP s.no s.num s.vals s.lo s.hi x = inB s x := by
  obtain ⟨miss, no, num, l, lo, hi⟩ := s
  have hnn : num = true → no = true := by
    rintro rfl
    cases no with
    | true => rfl
    | false => unfold checkB at h; simp at h
  unfold hasP inB betw
  show (if num = true then _ else _) = if no = true then _ else _
  cases num
  · cases no <;> simp
  · rw [hnn rfl, if_pos rfl, if_pos rfl]; cases numO x <;> rfl
theorem check_rises {s : VSet} (h : checkB s = true) : rises s.vals = true := by
  obtain ⟨miss, no, num, l, lo, hi⟩ := s
  unfold checkB orderedB at h; simp at h; exact h.1.1.2

set_option maxHeartbeats 1000000 in
theorem has_any (miss no num : Bool) (v : Value) (l : List Txt) (lo hi : Int) (x : Txt) (w : World) (hL : Laid w) (hv : Strs w v l) (hx : short x) :
    Calls Tryz.prog 118 #[.agg #[.bool miss, .bool no, .bool num, v, .int .i64 lo, .int .i64 hi], .string (bytesT x)] w fun e w' => e = .returned (.bool (hasB ⟨miss, no, num, l, lo, hi⟩ x)) ∧ Below w.heap.size w w' := by
  obtain ⟨r, hr⟩ : ∃ r, r = hasB ⟨miss, no, num, l, lo, hi⟩ x := ⟨_, rfl⟩
  rw [← hr]
  have HR := hide hr
  have HL := hide hL
  have HV := hide hv
  have HX := hide hx
  clear hr hL hx
  obtain ⟨a, c, rfl⟩ := hv.val
  clear hv
  obtain ⟨n, hn⟩ : ∃ n, n = l.length := ⟨_, rfl⟩
  have HN := hide hn
  rw [← hn]
  clear hn
  obtain ⟨q0, hq0⟩ : ∃ q, q = checkB ⟨miss, no, num, l, lo, hi⟩ := ⟨_, rfl⟩
  obtain ⟨q1, hq1⟩ : ∃ q, q = valueB x := ⟨_, rfl⟩
  have Q0 := hide hq0
  have Q1 := hide hq1
  clear hq0 hq1
  obtain ⟨X, hX⟩ : ∃ X, X = bytesT x := ⟨_, rfl⟩
  rw [← hX]
  have GX := hide hX
  clear hX
  go_enter Tryz.func118, Tryz.ntmps118
  go_wp2_with fail
  refine (check_any _ _ _ _ l _ _ _ ((unhide HL).alloc _) (by rw [unhide HN]; exact (unhide HV).below (box_below _))).mono ?_
  rintro e w1 ⟨he, hw1⟩
  rw [← unhide Q0] at he
  subst he
  have hsix := (six_new w (.bool miss) (.bool no) (.bool num) (.slice a n c) (.int .i64 lo) (.int .i64 hi) 108).below hw1
  have HB1 := hide (chain (box_below _) hw1)
  clear hw1
  cases q0
  · have hf : Hid (r = false) := (unhide HR).trans (by unfold hasB; rw [← unhide Q0]; rfl)
    rw [show errC false = 1 from rfl]
    go_wp2_with fail
    go_ret
    exact ⟨ret_bool (unhide hf).symm, unhide HB1⟩
  · rw [show errC true = 0 from rfl]
    have hS := hide hsix
    clear hsix
    go_wp2_with fail
    rw [unhide GX]
    refine (value_any (bytesT x) _ (short_size (unhide HX)) ((unhide HL).below (unhide HB1))).mono ?_
    rintro e w2 ⟨he, hw2⟩
    rw [bytesT_list, ← unhide Q1] at he
    subst he
    have hsix := (unhide hS).below hw2
    have HB2 := hide (chain (unhide HB1) hw2)
    clear hw2 HB1 hS
    rw [← unhide GX]
    cases q1
    · have hf : Hid (r = false) := (unhide HR).trans (by unfold hasB; rw [← unhide Q1]; simp)
      go_wp2_with fail
      go_ret
      exact ⟨ret_bool (unhide hf).symm, unhide HB2⟩
    · have hf : Hid (r = hasP no num l lo hi x) := (unhide HR).trans (by
        rw [has_in (unhide Q0).symm x (unhide Q1).symm]; exact (hasP_in _ (unhide Q0).symm x).symm)
      have hris := hide (check_rises (unhide Q0).symm)
      obtain ⟨k0, k1, k2, k3, k4, k5⟩ := hsix
      go_wp2_with fail
      rw [unhide GX]
      refine (hasIn_any _ _ _ _ l _ _ x _ ((unhide HL).below (unhide HB2)) (by rw [unhide HN]; exact (unhide HV).below (unhide HB2)) (unhide hris) (unhide HX)).mono ?_
      rintro e w3 ⟨he, hw3⟩
      rw [← unhide hf] at he
      subst he
      have HB3 := hide (chain (unhide HB2) hw3)
      clear hw3 HB2 k0 k1 k2 k3 k4 k5
      go_wp2_with fail
      go_ret
      exact ⟨rfl, unhide HB3⟩
end Go.Proofs.YtepcnfnmphgccaaGreatDoor
