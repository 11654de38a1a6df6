/- Layer 3: contracts of the document's Check, Has, Empty. -/
import Derived.Test.YtnkcbmlobikjkaaGreatDoorV3XG
import Derived.Test.YtnkcbmlobikjkaaGreatDoorV3EG
namespace Go.Proofs.YtnkcbmlobikjkaaGreatDoor
open Go.RowKit Suf Val

theorem within_num (lo hi : Int) (t : Txt) : within lo hi t = ((numR t).2 && (decide (lo < (numR t).1) && decide ((numR t).1 < hi))) := by
  unfold within numR
  cases numO t with
  | none => rfl
  | some n => simp
theorem check_q {miss no num : Bool} {l : List Txt} {lo hi : Int} (h : orderedB l = false) : checkB ⟨miss, no, num, l, lo, hi⟩ = false := by unfold checkB; rw [h]; rfl
theorem check_plain {miss no : Bool} {l : List Txt} {lo hi : Int} (h : orderedB l = true) : checkB ⟨miss, no, false, l, lo, hi⟩ = decide (lo = 0 ∧ hi = 0) := by unfold checkB; simp [h]
theorem check_nn {miss : Bool} {l : List Txt} {lo hi : Int} : checkB ⟨miss, false, true, l, lo, hi⟩ = false := by unfold checkB; simp
theorem check_num {miss : Bool} {l : List Txt} {lo hi : Int} (h : orderedB l = true) : checkB ⟨miss, true, true, l, lo, hi⟩ = (decide (-2147483648 ≤ lo ∧ hi ≤ 2147483648 ∧ lo ≤ hi ∧ 64 < hi - lo + 1 - (l.length : Int)) && l.all (within lo hi)) := by unfold checkB; simp [h]

set_option maxRecDepth 100000 in
set_option maxHeartbeats 4000000 in
theorem rcheck_any (miss no num : Bool) (v : Value) (l : List Txt) (lo hi : Int) (w : World) (hv : Strs w v l) :
    Calls Tryz.prog 55 #[.agg #[.bool miss, .bool no, .bool num, v, .int .i64 lo, .int .i64 hi]] w fun e w' => e = .returned (.int .i64 (errC (checkB ⟨miss, no, num, l, lo, hi⟩))) ∧ Below w.heap.size w w' := by
  obtain ⟨r, hr⟩ : ∃ r, r = errC (checkB ⟨miss, no, num, l, lo, hi⟩) := ⟨_, rfl⟩
  rw [← hr]
  have HR := hide hr
  have HV := hide hv
  have hlen := hv.len
  obtain ⟨a, c, rfl⟩ := hv.val
  clear hv hr
  obtain ⟨n, hn⟩ : ∃ n, n = l.length := ⟨_, rfl⟩
  have HN := hide hn
  rw [← hn] at hlen HV ⊢
  clear hn
  obtain ⟨q, hq⟩ : ∃ q, q = orderedB l := ⟨_, rfl⟩
  have GQ := hide hq
  clear hq
  go_enter Tryz.func55, Tryz.ntmps55
  go_wp2_with fail
  refine (ordered_any _ l _ ((unhide HV).below (box_below _))).mono ?_
  rintro e w1 ⟨he, hw1⟩
  rw [← unhide GQ] at he
  subst he
  have hsix := (six_new w (.bool miss) (.bool no) (.bool num) (.slice a n c) (.int .i64 lo) (.int .i64 hi) 42).below hw1
  have HB1 := hide (chain (box_below _) hw1)
  clear hw1
  cases q
  · have hf : Hid (r = 1) := (unhide HR).trans (by rw [check_q (unhide GQ).symm]; rfl)
    go_wp2_with fail
    go_ret
    exact ⟨ret_int (unhide hf).symm, unhide HB1⟩
  have hS := hide hsix
  obtain ⟨k0, k1, k2, k3, k4, k5⟩ := hsix
  cases num
  · have hf : Hid (r = errC (decide (lo = 0 ∧ hi = 0))) := (unhide HR).trans (by rw [check_plain (unhide GQ).symm])
    clear HR
    by_cases h0 : lo = 0
    · subst h0
      by_cases h1 : hi = 0
      · subst h1
        go_wp2_with fail
        go_ret
        exact ⟨ret_int (by rw [unhide hf]; rfl), unhide HB1⟩
      · have hf2 : Hid (r = 1) := (unhide hf).trans (by rw [decide_eq_false (fun c => h1 c.2)]; rfl)
        have ht : (hi != 0) = true := bne_iff_ne.2 h1
        clear h1 hf
        go_wp2_with fail
        go_ret
        exact ⟨ret_int (unhide hf2).symm, unhide HB1⟩
    · have hf2 : Hid (r = 1) := (unhide hf).trans (by rw [decide_eq_false (fun c => h0 c.1)]; rfl)
      have ht : (lo != 0) = true := bne_iff_ne.2 h0
      clear h0 hf
      go_wp2_with fail
      go_ret
      exact ⟨ret_int (unhide hf2).symm, unhide HB1⟩
  cases no
  · have hf : Hid (r = 1) := (unhide HR).trans (by rw [check_nn]; rfl)
    go_wp2_with fail
    go_ret
    exact ⟨ret_int (unhide hf).symm, unhide HB1⟩
  have hf : Hid (r = errC (decide (-2147483648 ≤ lo ∧ hi ≤ 2147483648 ∧ lo ≤ hi ∧ 64 < hi - lo + 1 - (l.length : Int)) && l.all (within lo hi))) := (unhide HR).trans (by rw [check_num (unhide GQ).symm])
  clear HR
  have hbad : Hid (¬ (-2147483648 ≤ lo ∧ hi ≤ 2147483648 ∧ lo ≤ hi ∧ 64 < hi - lo + 1 - (l.length : Int)) → r = 1) := fun h => (unhide hf).trans (by rw [decide_eq_false h]; rfl)
  by_cases h0 : lo < -2147483648
  · have hf2 := hide (unhide hbad (by omega))
    go_wp2_with fail
    go_ret
    exact ⟨ret_int (unhide hf2).symm, unhide HB1⟩
  by_cases h1 : 2147483648 < hi
  · have hf2 := hide (unhide hbad (by omega))
    go_wp2_with fail
    go_ret
    exact ⟨ret_int (unhide hf2).symm, unhide HB1⟩
  by_cases h2 : hi < lo
  · have hf2 := hide (unhide hbad (by omega))
    go_wp2_with fail
    go_ret
    exact ⟨ret_int (unhide hf2).symm, unhide HB1⟩
  have e1 := wrap_small (hi - lo) (by omega) (by omega)
  have e2 := wrap_small (hi - lo + 1) (by omega) (by omega)
  have e3 := wrap_small (hi - lo + 1 - (n : Int)) (by omega) (by omega)
  have HZ := hide (show hi - lo + 1 - (n : Int) = hi - lo + 1 - (l.length : Int) by rw [unhide HN])
  by_cases h3 : hi - lo + 1 - (n : Int) ≤ 64
  · have hf2 := hide (unhide hbad (by have := unhide HZ; omega))
    go_wp2_with fail
    go_ret
    exact ⟨ret_int (unhide hf2).symm, unhide HB1⟩
  have hall : Hid (r = errC (l.all (within lo hi))) := (unhide hf).trans (by rw [decide_eq_true (show -2147483648 ≤ lo ∧ hi ≤ 2147483648 ∧ lo ≤ hi ∧ 64 < hi - lo + 1 - (l.length : Int) by have := unhide HZ; omega), Bool.true_and])
  have HSH := hide (unhide HV).short
  clear hbad hf
  rcases (unhide HV).open with ⟨a', c', hnil, hval⟩ | ⟨b, o, c', hpos, hval, hcell⟩
  · obtain rfl : n = 0 := by rw [unhide HN, hnil]; rfl
    have hf2 : Hid (r = 0) := (unhide hall).trans (by rw [hnil]; rfl)
    clear hval hnil
    go_wp2_with fail
    go_loop [4] (fun i => i = .int .i64 0) (fun _ => 0)
    case atStart => rfl
    case round =>
      subst hrel
      go_wp2_with fail
      go_ret
      exact ⟨ret_int (unhide hf2).symm, unhide HB1⟩
  obtain rfl : a = some ⟨b, o, none⟩ := by injection hval
  have HC := hide hcell
  have hpos' : 0 < n := by rw [unhide HN]; exact hpos
  clear hval hcell hpos
  go_wp2_with fail
  clear k0 k1 k2 k3 k4 k5 e1 e2 e3
  go_loopw [4] (fun i W => ∃ k : Nat, k ≤ n ∧ i = .int .i64 k ∧ Hid (Below w1.heap.size w1 W) ∧ Hid ((l.take k).all (within lo hi) = true)) (fun i _ => n - (intOf i).toNat)
  case atStart => exact ⟨0, Nat.zero_le _, rfl, Below.refl _ _, rfl⟩
  case round =>
    obtain ⟨k, hk, rfl, hbel, hto⟩ := hrel
    have hsix := (unhide hS).below (unhide hbel)
    have hS2 := hide hsix
    obtain ⟨k0, k1, k2, k3, k4, k5⟩ := hsix
    by_cases hlt : k < n
    · have hlk : k < l.length := by rw [← unhide HN]; exact hlt
      have hc := cell_kept (unhide hbel) (cell_kept (unhide HB1) (unhide HC k hlk))
      obtain ⟨t, ht⟩ : ∃ t, t = l[k] := ⟨_, rfl⟩
      rw [← ht] at hc
      have hst : Hid (short t) := by rw [ht]; exact unhide HSH _ (List.getElem_mem hlk)
      obtain ⟨p, hp⟩ : ∃ p, p = numR t := ⟨_, rfl⟩
      have hP := hide hp
      have hT := hide ht
      clear hp ht
      obtain ⟨m, is⟩ := p
      go_wp2_with fail
      refine (rnumber_any (bytesT t) _ (short_max (unhide hst))).mono ?_
      rintro e w2 ⟨he, hw2⟩
      rw [bytesT_list, ← unhide hP] at he
      subst he
      have hb2 := hide (chain (unhide hbel) hw2)
      have hsix := (unhide hS2).below hw2
      clear hw2 hc k0 k1 k2 k3 k4 k5 hS2
      obtain ⟨k0, k1, k2, k3, k4, k5⟩ := hsix
      have hw : Hid (within lo hi t = (is && (decide (lo < m) && decide (m < hi)))) := by
        show _ = _
        rw [within_num, ← unhide hP]
      have hout : Hid (within lo hi t = false → r = 1) := fun h => (unhide hall).trans (by rw [all_no l k hlk (by rw [← unhide hT]; exact h)]; rfl)
      have hin : Hid (within lo hi t = true → (l.take (k + 1)).all (within lo hi) = true) := fun h => by rw [all_next l k hlk, unhide hto, ← unhide hT, h]; rfl
      clear hT hlk
      cases is
      · have hf2 := hide (unhide hout (by rw [unhide hw]; rfl))
        go_wp2_with fail
        go_ret
        exact ⟨ret_int (unhide hf2).symm, chain (unhide HB1) (unhide hb2)⟩
      · by_cases m0 : m ≤ lo
        · have hf2 := hide (unhide hout (by rw [unhide hw, decide_eq_false (show ¬ lo < m by omega)]; rfl))
          go_wp2_with fail
          go_ret
          exact ⟨ret_int (unhide hf2).symm, chain (unhide HB1) (unhide hb2)⟩
        · by_cases m1 : hi ≤ m
          · have hf2 := hide (unhide hout (by rw [unhide hw, decide_eq_false (show ¬ m < hi by omega)]; simp))
            go_wp2_with fail
            go_ret
            exact ⟨ret_int (unhide hf2).symm, chain (unhide HB1) (unhide hb2)⟩
          · have hf2 := hide (unhide hin (by rw [unhide hw, decide_eq_true (show m < hi by omega), decide_eq_true (show lo < m by omega)]; rfl))
            go_wp2_with fail
            go_roundw
            case rel => exact ⟨k + 1, by omega, by go_num, hb2, hf2⟩
            case measure => simp [intOf]; omega
    · obtain rfl : k = n := by omega
      have hf2 : Hid (r = 0) := (unhide hall).trans (by
        have := unhide hto
        rw [List.take_of_length_le (by rw [← unhide HN]; exact Nat.le_refl _)] at this
        rw [this]; rfl)
      go_wp2_with fail
      go_ret
      exact ⟨ret_int (unhide hf2).symm, chain (unhide HB1) (unhide hbel)⟩

theorem in_num {no num : Bool} {miss : Bool} {l : List Txt} {lo hi : Int} {x : Txt} : inB ⟨miss, no, num, l, lo, hi⟩ x = if no = true then (!l.contains x && (!num || ((numR x).2 && (decide (lo ≤ (numR x).1) && decide ((numR x).1 ≤ hi))))) else l.contains x := by
  unfold inB numR
  cases no <;> cases numO x <;> simp

set_option maxRecDepth 100000 in
set_option maxHeartbeats 4000000 in
theorem rhas_any (miss no num : Bool) (v : Value) (l : List Txt) (lo hi : Int) (x : Txt) (w : World) (hv : Strs w v l) (hx : short x) :
    Calls Tryz.prog 59 #[.agg #[.bool miss, .bool no, .bool num, v, .int .i64 lo, .int .i64 hi], .string (bytesT x)] w fun e w' => e = .returned (.bool (hasB ⟨miss, no, num, l, lo, hi⟩ x)) ∧ Below w.heap.size w w' := by
  obtain ⟨r, hr⟩ : ∃ r, r = hasB ⟨miss, no, num, l, lo, hi⟩ x := ⟨_, rfl⟩
  rw [← hr]
  have HR := hide hr
  have HV := hide hv
  have HX := hide hx
  obtain ⟨a, c, rfl⟩ := hv.val
  clear hv hr hx
  obtain ⟨n, hn⟩ : ∃ n, n = l.length := ⟨_, rfl⟩
  rw [← hn] at HV ⊢
  clear hn
  obtain ⟨q0, hq0⟩ : ∃ q, q = checkB ⟨miss, no, num, l, lo, hi⟩ := ⟨_, rfl⟩
  obtain ⟨q1, hq1⟩ : ∃ q, q = valueB x := ⟨_, rfl⟩
  obtain ⟨q2, hq2⟩ : ∃ q, q = l.contains x := ⟨_, rfl⟩
  obtain ⟨p, hp⟩ : ∃ p, p = numR x := ⟨_, rfl⟩
  have hf : Hid (r = (q0 && q1 && (if no = true then (!q2 && (!num || (p.2 && (decide (lo ≤ p.1) && decide (p.1 ≤ hi))))) else q2))) := (unhide HR).trans (by
    rw [hq0, hq1, hq2, hp, ← in_num (miss := miss)]; rfl)
  have Q0 := hide hq0
  have Q1 := hide hq1
  have Q2 := hide hq2
  have QP := hide hp
  clear hq0 hq1 hq2 hp HR
  obtain ⟨m, is⟩ := p
  obtain ⟨X, hX⟩ : ∃ X, X = bytesT x := ⟨_, rfl⟩
  rw [← hX]
  have GX := hide hX
  clear hX
  go_enter Tryz.func59, Tryz.ntmps59
  go_wp2_with fail
  refine (rcheck_any _ _ _ _ l _ _ _ ((unhide HV).below (box_below _))).mono ?_
  rintro e w1 ⟨he, hw1⟩
  rw [← unhide Q0] at he
  subst he
  have hS1 := hide ((six_new w (.bool miss) (.bool no) (.bool num) (.slice a n c) (.int .i64 lo) (.int .i64 hi) 42).below hw1)
  have HB1 := hide (chain (box_below _) hw1)
  clear hw1
  go_wp2_with fail
  rw [unhide GX]
  refine (rvalue_any (bytesT x) _ (short_size (unhide HX))).mono ?_
  rintro e w2 ⟨he, hw2⟩
  rw [bytesT_list, ← unhide Q1] at he
  subst he
  rw [← unhide GX]
  have hS2 := hide ((unhide hS1).below hw2)
  have HB2 := hide (chain (unhide HB1) hw2)
  clear hw2 HB1 hS1
  cases q0
  · rw [show errC false = 1 from rfl]
    go_wp2_with fail
    go_ret
    exact ⟨ret_bool (by rw [unhide hf]; rfl), unhide HB2⟩
  rw [show errC true = 0 from rfl]
  cases q1
  · go_wp2_with fail
    go_ret
    exact ⟨ret_bool (by rw [unhide hf]; rfl), unhide HB2⟩
  have hsix := unhide hS2
  obtain ⟨k0, k1, k2, k3, k4, k5⟩ := hsix
  go_wp2_with fail
  clear k0 k1 k2 k3 k4 k5
  rw [unhide GX]
  refine (rin_any _ l x _ ((unhide HV).below (unhide HB2))).mono ?_
  rintro e w3 ⟨he, hw3⟩
  rw [← unhide Q2] at he
  subst he
  rw [← unhide GX]
  have hS3 := hide ((unhide hS2).below hw3)
  have HB3 := hide (chain (unhide HB2) hw3)
  clear hw3 HB2 hS2
  have hsix := unhide hS3
  obtain ⟨k0, k1, k2, k3, k4, k5⟩ := hsix
  cases no
  · have hf2 : Hid (r = q2) := (unhide hf).trans (by simp)
    go_wp2_with fail
    go_ret
    exact ⟨ret_bool (unhide hf2).symm, unhide HB3⟩
  have hf2 : Hid (r = (!q2 && (!num || (is && (decide (lo ≤ m) && decide (m ≤ hi)))))) := (unhide hf).trans (by simp)
  clear hf
  go_wp2_with fail
  clear k0 k1 k2 k3 k4 k5
  rw [unhide GX]
  refine (rnumber_any (bytesT x) _ (short_max (unhide HX))).mono ?_
  rintro e w4 ⟨he, hw4⟩
  rw [bytesT_list, ← unhide QP] at he
  subst he
  rw [← unhide GX]
  have hsix := (unhide hS3).below hw4
  have HB4 := hide (chain (unhide HB3) hw4)
  clear hw4 HB3 hS3
  obtain ⟨k0, k1, k2, k3, k4, k5⟩ := hsix
  cases q2
  · cases num
    · go_wp2_with fail
      go_ret
      exact ⟨ret_bool (by rw [unhide hf2]; rfl), unhide HB4⟩
    · cases is
      · go_wp2_with fail
        go_ret
        exact ⟨ret_bool (by rw [unhide hf2]; rfl), unhide HB4⟩
      · by_cases m0 : lo ≤ m
        · go_wp2_with fail
          go_ret
          refine ⟨ret_bool ?_, unhide HB4⟩
          rw [unhide hf2, Bool.eq_iff_iff]; simp; omega
        · go_wp2_with fail
          go_ret
          refine ⟨ret_bool ?_, unhide HB4⟩
          rw [unhide hf2, Bool.eq_iff_iff]; simp; omega
  · go_wp2_with fail
    go_ret
    exact ⟨ret_bool (by rw [unhide hf2]; rfl), unhide HB4⟩

set_option maxRecDepth 100000 in
set_option maxHeartbeats 4000000 in
theorem rempty_any (miss no num : Bool) (v : Value) (l : List Txt) (lo hi : Int) (w : World) (hv : Strs w v l) :
    Calls Tryz.prog 40 #[.agg #[.bool miss, .bool no, .bool num, v, .int .i64 lo, .int .i64 hi]] w fun e w' => e = .returned (.bool (emptyB ⟨miss, no, num, l, lo, hi⟩)) ∧ Below w.heap.size w w' := by
  obtain ⟨r, hr⟩ : ∃ r, r = emptyB ⟨miss, no, num, l, lo, hi⟩ := ⟨_, rfl⟩
  rw [← hr]
  have HR := hide hr
  have HV := hide hv
  obtain ⟨a, c, rfl⟩ := hv.val
  clear hv hr
  obtain ⟨n, hn⟩ : ∃ n, n = l.length := ⟨_, rfl⟩
  rw [← hn] at HV ⊢
  obtain ⟨q0, hq0⟩ : ∃ q, q = checkB ⟨miss, no, num, l, lo, hi⟩ := ⟨_, rfl⟩
  have hf : Hid (r = (q0 && !no && !miss && (n == 0))) := (unhide HR).trans (by rw [hq0, hn]; rfl)
  have Q0 := hide hq0
  clear hq0 hn HR
  go_enter Tryz.func40, Tryz.ntmps40
  go_wp2_with fail
  refine (rcheck_any _ _ _ _ l _ _ _ ((unhide HV).below (box_below _))).mono ?_
  rintro e w1 ⟨he, hw1⟩
  rw [← unhide Q0] at he
  subst he
  have hsix := ((six_new w (.bool miss) (.bool no) (.bool num) (.slice a n c) (.int .i64 lo) (.int .i64 hi) 42).below hw1)
  have HB1 := hide (chain (box_below _) hw1)
  clear hw1
  obtain ⟨k0, k1, k2, k3, k4, k5⟩ := hsix
  cases q0
  · rw [show errC false = 1 from rfl]
    go_wp2_with fail
    go_ret
    exact ⟨ret_bool (by rw [unhide hf]; rfl), unhide HB1⟩
  rw [show errC true = 0 from rfl]
  cases no
  · cases miss
    · go_wp2_with fail
      go_ret
      refine ⟨ret_bool ?_, unhide HB1⟩
      rw [unhide hf, Bool.eq_iff_iff]; first | (simp; done) | (simp; omega)
    · go_wp2_with fail
      go_ret
      exact ⟨ret_bool (by rw [unhide hf]; rfl), unhide HB1⟩
  · cases miss
    · go_wp2_with fail
      go_ret
      exact ⟨ret_bool (by rw [unhide hf]; rfl), unhide HB1⟩
    · go_wp2_with fail
      go_ret
      exact ⟨ret_bool (by rw [unhide hf]; rfl), unhide HB1⟩
end Go.Proofs.YtnkcbmlobikjkaaGreatDoor
