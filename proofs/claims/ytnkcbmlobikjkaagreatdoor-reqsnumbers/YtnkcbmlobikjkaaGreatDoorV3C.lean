/- Layer 3: lists of texts in memory; contracts of Value, between, every, rises. -/
import Derived.Test.YtnkcbmlobikjkaaGreatDoorV3B
namespace Go.Proofs.YtnkcbmlobikjkaaGreatDoor
open Go.RowKit Suf Val

/-- A text as the program holds it. -/
def bytesT (t : Txt) : ByteArray := ⟨t.toArray⟩
theorem bytesT_list (t : Txt) : (bytesT t).data.toList = t := rfl
theorem bytesT_size (t : Txt) : (bytesT t).size = t.length := by rw [size_list]; rfl
/-- A text that memory holds. -/
def short (t : Txt) : Prop := t.length ≤ 281474976710656
theorem short_size {t : Txt} (h : short t) : (bytesT t).size ≤ 281474976710656 := by rw [bytesT_size]; exact h
theorem short_max {t : Txt} (h : short t) : (bytesT t).size ≤ maxLen := Nat.le_trans (short_size h) (by decide)
/-- A list of texts in memory. -/
def Strs (w : World) (v : Value) (l : List Txt) : Prop :=
  ∃ a c, v = .slice a l.length c ∧ (∀ j (h : j < l.length), ∃ b o, a = some ⟨b, o, none⟩ ∧ w.cell? ⟨b, o + j, none⟩ = some (.string (bytesT l[j]))) ∧ l.length ≤ 17592186044416 ∧ ∀ t ∈ l, short t
theorem Strs.below {w w' : World} {v : Value} {l : List Txt} (h : Strs w v l) (hb : Below w.heap.size w w') : Strs w' v l := by
  obtain ⟨a, c, e, hc, hl, hs⟩ := h
  exact ⟨a, c, e, fun j hj => by obtain ⟨b, o, e2, h2⟩ := hc j hj; exact ⟨b, o, e2, cell_kept hb h2⟩, hl, hs⟩
theorem Strs.open {w : World} {v : Value} {l : List Txt} (h : Strs w v l) : (∃ a c, l = [] ∧ v = .slice a 0 c) ∨ (∃ b o c, 0 < l.length ∧ v = .slice (some ⟨b, o, none⟩) l.length c ∧ ∀ j (hj : j < l.length), w.cell? ⟨b, o + j, none⟩ = some (.string (bytesT l[j]))) := by
  obtain ⟨a, c, e, hc, hl, hs⟩ := h
  cases l with
  | nil => exact Or.inl ⟨a, c, rfl, e⟩
  | cons t l =>
    obtain ⟨b, o, e2, _⟩ := hc 0 (by simp)
    refine Or.inr ⟨b, o, c, by simp, by rw [e, e2], fun j hj => ?_⟩
    obtain ⟨b', o', e3, h3⟩ := hc j hj
    rw [e2] at e3
    injection e3 with e3
    injection e3 with e4 e5
    subst e4 e5
    exact h3
theorem Strs.len {w : World} {v : Value} {l : List Txt} (h : Strs w v l) : l.length ≤ 17592186044416 := by obtain ⟨_, _, _, _, hl, _⟩ := h; exact hl
theorem Strs.short {w : World} {v : Value} {l : List Txt} (h : Strs w v l) : ∀ t ∈ l, short t := by obtain ⟨_, _, _, _, _, hs⟩ := h; exact hs
theorem Strs.val {w : World} {v : Value} {l : List Txt} (h : Strs w v l) : ∃ a c, v = .slice a l.length c := by obtain ⟨a, c, e, _⟩ := h; exact ⟨a, c, e⟩

/-- A function value that judges texts, wherever the world keeps to I. -/
def Pred (g : Nat) (lb : Array Value) (p : Txt → Bool) (I : World → Prop) : Prop :=
  ∀ (W : World) (t : Txt), short t → I W → Calls Tryz.prog g (#[.string (bytesT t)] ++ lb) W fun e w' => e = .returned (.bool (p t)) ∧ Below W.heap.size W w'

theorem all_next {p : Txt → Bool} (l : List Txt) (k : Nat) (h : k < l.length) : (l.take (k + 1)).all p = ((l.take k).all p && p l[k]) := by
  rw [List.take_add_one, List.getElem?_eq_getElem h, List.all_append]; simp
theorem all_no {p : Txt → Bool} (l : List Txt) (k : Nat) (h : k < l.length) (hp : p l[k] = false) : l.all p = false := by
  cases hc : l.all p with
  | false => rfl
  | true =>
    have := List.all_eq_true.1 hc l[k] (List.getElem_mem h)
    rw [hp] at this; cases this

set_option maxHeartbeats 1000000 in
theorem every_any (g : Nat) (lb : Array Value) (p : Txt → Bool) (I : World → Prop) (eg : ∀ args w, (callFunc g args).run Tryz.prog w = .ok (.enter g args) w) (hp : Pred g lb p I) (v : Value) (l : List Txt) (w : World) (hI : I w) (hk : ∀ W W', I W → Below W.heap.size W W' → I W') (hv : Strs w v l) :
    Calls Tryz.prog 85 #[v, .func (.func g) #[] lb] w fun e w' => e = .returned (.bool (l.all p)) ∧ Below w.heap.size w w' := by
  obtain ⟨r, hr⟩ : ∃ r, r = l.all p := ⟨_, rfl⟩
  rw [← hr]
  have HR := hide hr
  have hlen := hv.len
  have HS := hide hv.short
  have HP := hide hp
  have HI := hide hI
  have HK := hide hk
  clear hr hp hI hk
  rcases hv.open with ⟨a, c, rfl, rfl⟩ | ⟨b, o, c, hpos, rfl, hcell⟩
  · have hf : Hid (r = true) := unhide HR
    clear hv HS
    go_enter Tryz.func85, Tryz.ntmps85
    go_wp2_with fail
    go_loop [9] (fun i => i = .int .i64 0) (fun _ => 0)
    case atStart => rfl
    case round =>
      subst hrel
      go_wp2_with fail
      go_ret
      exact ⟨ret_bool (unhide hf).symm, Below.refl _ _⟩
  · have HC := hide hcell
    clear hv hcell
    obtain ⟨n, hn⟩ : ∃ n, n = l.length := ⟨_, rfl⟩
    rw [← hn] at hlen hpos ⊢
    have HN := hide hn
    clear hn
    go_enter Tryz.func85, Tryz.ntmps85
    go_wp2_with fail
    go_loopw [9] (fun i W => ∃ k : Nat, k ≤ n ∧ i = .int .i64 k ∧ Hid (Below w.heap.size w W) ∧ Hid ((l.take k).all p = true)) (fun i _ => n - (intOf i).toNat)
    case atStart => exact ⟨0, Nat.zero_le _, rfl, Below.refl _ _, rfl⟩
    case round =>
      obtain ⟨k, hk, rfl, hbel, hall⟩ := hrel
      by_cases hlt : k < n
      · have hlk : k < l.length := by rw [← unhide HN]; exact hlt
        have hc := cell_kept (unhide hbel) (unhide HC k hlk)
        obtain ⟨t, ht⟩ : ∃ t, t = l[k] := ⟨_, rfl⟩
        rw [← ht] at hc
        have hst : Hid (short t) := by rw [ht]; exact unhide HS _ (List.getElem_mem hlk)
        obtain ⟨q, hq⟩ : ∃ q, q = p t := ⟨_, rfl⟩
        have hQ := hide hq
        have hT := hide ht
        have cp : Calls Tryz.prog g (#[.string (bytesT t)] ++ lb) wr fun e w' => e = .returned (.bool q) ∧ Below wr.heap.size wr w' := by
          rw [hq]; exact unhide HP wr t (unhide hst) (unhide HK _ _ (unhide HI) (unhide hbel))
        clear hq ht
        cases q
        · have hn2 : Hid (r = false) := (unhide HR).trans (all_no l k (by rw [← unhide HN]; exact hlt) (by rw [← unhide hT]; exact (unhide hQ).symm))
          go_wp2_with (go_at_fn g; refine cp.mono ?_; rintro e w1 ⟨rfl, hw1⟩; have HB1 := hide (chain (unhide hbel) hw1); clear hw1 hbel)
          go_ret
          exact ⟨ret_bool (unhide hn2).symm, unhide HB1⟩
        · have ha2 : Hid ((l.take (k + 1)).all p = true) := by
            show _ = _
            rw [all_next l k (by rw [← unhide HN]; exact hlt), unhide hall, ← unhide hT, (unhide hQ).symm]; rfl
          go_wp2_with (go_at_fn g; refine cp.mono ?_; rintro e w1 ⟨rfl, hw1⟩; have HB1 := hide (chain (unhide hbel) hw1); clear hw1 hbel)
          go_roundw
          case rel => exact ⟨k + 1, by omega, by go_num, HB1, ha2⟩
          case measure => simp [intOf]; omega
      · obtain rfl : k = n := by omega
        have hn2 : Hid (r = true) := (unhide HR).trans (by rw [← unhide hall, List.take_of_length_le (by rw [← unhide HN]; exact Nat.le_refl _)])
        go_wp2_with fail
        go_ret
        exact ⟨ret_bool (unhide hn2).symm, unhide hbel⟩

set_option maxHeartbeats 1000000 in
theorem value_any (s : ByteArray) (w : World) (hs : s.size ≤ 281474976710656) (hL : Laid w) :
    Calls Tryz.prog 44 #[.string s] w fun e w' => e = .returned (.bool (valueB s.data.toList)) ∧ Below w.heap.size w w' := by
  obtain ⟨r, hr⟩ : ∃ r, r = valueB s.data.toList := ⟨_, rfl⟩
  rw [← hr]
  have HR := hide hr
  have HL := hide hL
  have HS := hide1 hs
  clear hr hL hs
  cases hn : numO s.data.toList with
  | none =>
    have hq := hide (numR_none hn)
    have hf : Hid (r = nameB s.data.toList) := (unhide HR).trans (by unfold valueB; rw [hn]; simp)
    clear hn
    obtain ⟨b, hb⟩ : ∃ b, b = nameB s.data.toList := ⟨_, rfl⟩
    have hB := hide hb
    clear hb
    go_enter Tryz.func44, Tryz.ntmps44
    go_wp2_with fail
    refine (number_any s _ (unhide1 HS) (unhide HL)).mono ?_
    rintro e w1 ⟨he, hw1⟩
    rw [unhide hq] at he
    subst he
    have HB := hide hw1
    clear hw1
    go_wp2_with fail
    refine (name_any s _ (Nat.le_trans (unhide1 HS) (by decide))).mono ?_
    rintro e w2 ⟨he, hw2⟩
    rw [← unhide hB] at he
    subst he
    obtain rfl := hw2.symm
    clear hw2
    go_wp2_with fail
    go_ret
    exact ⟨ret_bool ((unhide hB).trans (unhide hf).symm), unhide HB⟩
  | some n =>
    have hq := hide (numR_some hn)
    have hf := hide ((unhide HR).trans (num_value hn))
    clear hn
    go_enter Tryz.func44, Tryz.ntmps44
    go_wp2_with fail
    refine (number_any s _ (unhide1 HS) (unhide HL)).mono ?_
    rintro e w1 ⟨he, hw1⟩
    rw [unhide hq] at he
    subst he
    have HB := hide hw1
    clear hw1
    go_wp2_with fail
    go_ret
    exact ⟨ret_bool (unhide hf).symm, unhide HB⟩
/-- A number from one to another. -/
def betw (lo hi : Int) (t : Txt) : Bool := match numO t with | some n => decide (lo ≤ n ∧ n ≤ hi) | none => false
set_option maxHeartbeats 1000000 in
theorem between_any (s : ByteArray) (lo hi : Int) (w : World) (hs : s.size ≤ 281474976710656) (hL : Laid w) :
    Calls Tryz.prog 67 #[.string s, .int .i64 lo, .int .i64 hi] w fun e w' => e = .returned (.bool (betw lo hi s.data.toList)) ∧ Below w.heap.size w w' := by
  obtain ⟨r, hr⟩ : ∃ r, r = betw lo hi s.data.toList := ⟨_, rfl⟩
  rw [← hr]
  have HR := hide hr
  have HL := hide hL
  have HS := hide1 hs
  clear hr hL hs
  cases hn : numO s.data.toList with
  | none =>
    have hq := hide (numR_none hn)
    have hf : Hid (r = false) := (unhide HR).trans (by unfold betw; rw [hn])
    clear hn
    go_enter Tryz.func67, Tryz.ntmps67
    go_wp2_with fail
    refine (number_any s _ (unhide1 HS) (unhide HL)).mono ?_
    rintro e w1 ⟨he, hw1⟩
    rw [unhide hq] at he
    subst he
    have HB := hide hw1
    clear hw1
    go_wp2_with fail
    go_ret
    exact ⟨ret_bool (unhide hf).symm, unhide HB⟩
  | some n =>
    have hq := hide (numR_some hn)
    have hf : Hid (r = decide (lo ≤ n ∧ n ≤ hi)) := (unhide HR).trans (by unfold betw; rw [hn])
    clear hn
    by_cases h1 : lo ≤ n
    all_goals
      go_enter Tryz.func67, Tryz.ntmps67
      go_wp2_with fail
      refine (number_any s _ (unhide1 HS) (unhide HL)).mono ?_
      rintro e w1 ⟨he, hw1⟩
      rw [unhide hq] at he
      subst he
      have HB := hide hw1
      clear hw1
      go_wp2_with fail
      go_ret
      refine ⟨ret_bool ?_, unhide HB⟩
      rw [unhide hf, Bool.eq_iff_iff]; simp; omega

theorem rises_next (l : List Txt) (k : Nat) (h : k + 1 < l.length) (hr : rises (l.take (k + 1)) = true) (hlt : lt l[k] l[k + 1] = true) : rises (l.take (k + 2)) = true := by
  induction l generalizing k with
  | nil => simp at h
  | cons a l ih =>
    cases l with
    | nil => simp at h
    | cons b l =>
      cases k with
      | zero => show (lt a b && rises [b]) = true; rw [show lt a b = true from hlt]; rfl
      | succ k =>
        have h1 : rises (a :: (b :: l).take (k + 1)) = true := hr
        show rises (a :: (b :: l).take (k + 2)) = true
        have e1 : (b :: l).take (k + 1) = b :: l.take k := rfl
        have e2 : (b :: l).take (k + 2) = b :: l.take (k + 1) := rfl
        rw [e1] at h1
        have h2 : lt a b = true ∧ rises (b :: l.take k) = true := Bool.and_eq_true_iff.1 h1
        rw [e2]
        show (lt a b && rises (b :: l.take (k + 1))) = true
        rw [h2.1, Bool.true_and]
        exact ih k (by simp at h ⊢; omega) h2.2 hlt
theorem rises_no (l : List Txt) (k : Nat) (h : k + 1 < l.length) (hlt : lt l[k] l[k + 1] = false) : rises l = false := by
  cases hr : rises l with
  | false => rfl
  | true =>
    have := List.pairwise_iff_getElem.1 ((up_iff l).1 hr) k (k + 1) (by omega) h (by omega)
    rw [hlt] at this; cases this
theorem geq_lt (a b : Txt) : (!Op.bytesLess (bytesT a).toList (bytesT b).toList) = !lt a b := by rw [Lib.toList_data, Lib.toList_data]; rfl

end Go.Proofs.YtnkcbmlobikjkaaGreatDoor
