/- Layer 3: lists of texts in memory; contracts of Value, between, every, rises. -/
import Derived.Test.YtnkcbmlobikjkabDoorV3B
namespace Go.Proofs.YtnkcbmlobikjkabDoor
open Go.RowKit Suf Val

/-- A text as the program holds it. -/
def bytesT (t : Txt) : ByteArray := ⟨t.toArray⟩
theorem bytesT_list (t : Txt) : (bytesT t).data.toList = t := rfl
theorem bytesT_size (t : Txt) : (bytesT t).size = t.length := by rw [size_list]; rfl
/-- A text that memory holds. -/
def short (t : Txt) : Prop := t.length ≤ 281474976710656
theorem short_size {t : Txt} (h : short t) : (bytesT t).size ≤ 281474976710656 := by rw [bytesT_size]; exact h
theorem short_max {t : Txt} (h : short t) : (bytesT t).size ≤ maxLen := Nat.le_trans (short_size h) (by decide)
/-- A list of texts in memory. -/
def Strs (w : World) (v : Value) (l : List Txt) : Prop :=
  ∃ a c, v = .slice a l.length c ∧ (∀ j (h : j < l.length), ∃ b o, a = some ⟨b, o, none⟩ ∧ w.cell? ⟨b, o + j, none⟩ = some (.string (bytesT l[j]))) ∧ l.length ≤ 17592186044416 ∧ ∀ t ∈ l, short t
theorem Strs.below {w w' : World} {v : Value} {l : List Txt} (h : Strs w v l) (hb : Below w.heap.size w w') : Strs w' v l := by
  obtain ⟨a, c, e, hc, hl, hs⟩ := h
  exact ⟨a, c, e, fun j hj => by obtain ⟨b, o, e2, h2⟩ := hc j hj; exact ⟨b, o, e2, cell_kept hb h2⟩, hl, hs⟩
theorem Strs.open {w : World} {v : Value} {l : List Txt} (h : Strs w v l) : (∃ a c, l = [] ∧ v = .slice a 0 c) ∨ (∃ b o c, 0 < l.length ∧ v = .slice (some ⟨b, o, none⟩) l.length c ∧ ∀ j (hj : j < l.length), w.cell? ⟨b, o + j, none⟩ = some (.string (bytesT l[j]))) := by
  obtain ⟨a, c, e, hc, hl, hs⟩ := h
  cases l with
  | nil => exact Or.inl ⟨a, c, rfl, e⟩
  | cons t l =>
    obtain ⟨b, o, e2, _⟩ := hc 0 (by simp)
    refine Or.inr ⟨b, o, c, by simp, by rw [e, e2], fun j hj => ?_⟩
    obtain ⟨b', o', e3, h3⟩ := hc j hj
    rw [e2] at e3
    injection e3 with e3
    injection e3 with e4 e5
    subst e4 e5
    exact h3
theorem Strs.len {w : World} {v : Value} {l : List Txt} (h : Strs w v l) : l.length ≤ 17592186044416 := by obtain ⟨_, _, _, _, hl, _⟩ := h; exact hl
theorem Strs.short {w : World} {v : Value} {l : List Txt} (h : Strs w v l) : ∀ t ∈ l, short t := by obtain ⟨_, _, _, _, _, hs⟩ := h; exact hs
theorem Strs.val {w : World} {v : Value} {l : List Txt} (h : Strs w v l) : ∃ a c, v = .slice a l.length c := by obtain ⟨a, c, e, _⟩ := h; exact ⟨a, c, e⟩

/-- A function value that judges texts, wherever the world keeps to I. -/
def Pred (g : Nat) (lb : Array Value) (p : Txt → Bool) (I : World → Prop) : Prop :=
  ∀ (W : World) (t : Txt), short t → I W → Calls Tryd.prog g (#[.string (bytesT t)] ++ lb) W fun e w' => e = .returned (.bool (p t)) ∧ Below W.heap.size W w'

theorem all_next {p : Txt → Bool} (l : List Txt) (k : Nat) (h : k < l.length) : (l.take (k + 1)).all p = ((l.take k).all p && p l[k]) := by
  rw [List.take_add_one, List.getElem?_eq_getElem h, List.all_append]; simp
theorem all_no {p : Txt → Bool} (l : List Txt) (k : Nat) (h : k < l.length) (hp : p l[k] = false) : l.all p = false := by
  cases hc : l.all p with
  | false => rfl
  | true =>
    have := List.all_eq_true.1 hc l[k] (List.getElem_mem h)
    rw [hp] at this; cases this


set_option maxHeartbeats 1000000 in
theorem value_any (s : ByteArray) (w : World) (hs : s.size ≤ 281474976710656) (hL : Laid w) :
    Calls Tryd.prog 18 #[.string s] w fun e w' => e = .returned (.bool (valueB s.data.toList)) ∧ Below w.heap.size w w' := by
  obtain ⟨r, hr⟩ : ∃ r, r = valueB s.data.toList := ⟨_, rfl⟩
  rw [← hr]
  have HR := hide hr
  have HL := hide hL
  have HS := hide1 hs
  clear hr hL hs
  cases hn : numO s.data.toList with
  | none =>
    have hq := hide (numR_none hn)
    have hf : Hid (r = nameB s.data.toList) := (unhide HR).trans (by unfold valueB; rw [hn]; simp)
    clear hn
    obtain ⟨b, hb⟩ : ∃ b, b = nameB s.data.toList := ⟨_, rfl⟩
    have hB := hide hb
    clear hb
    go_enter Tryd.func18, Tryd.ntmps18
    go_wp2_with fail
    refine (number_any s _ (unhide1 HS) (unhide HL)).mono ?_
    rintro e w1 ⟨he, hw1⟩
    rw [unhide hq] at he
    subst he
    have HB := hide hw1
    clear hw1
    go_wp2_with fail
    refine (name_any s _ (Nat.le_trans (unhide1 HS) (by decide))).mono ?_
    rintro e w2 ⟨he, hw2⟩
    rw [← unhide hB] at he
    subst he
    obtain rfl := hw2.symm
    clear hw2
    go_wp2_with fail
    go_ret
    exact ⟨ret_bool ((unhide hB).trans (unhide hf).symm), unhide HB⟩
  | some n =>
    have hq := hide (numR_some hn)
    have hf := hide ((unhide HR).trans (num_value hn))
    clear hn
    go_enter Tryd.func18, Tryd.ntmps18
    go_wp2_with fail
    refine (number_any s _ (unhide1 HS) (unhide HL)).mono ?_
    rintro e w1 ⟨he, hw1⟩
    rw [unhide hq] at he
    subst he
    have HB := hide hw1
    clear hw1
    go_wp2_with fail
    go_ret
    exact ⟨ret_bool (unhide hf).symm, unhide HB⟩
/-- A number from one to another. -/
def betw (lo hi : Int) (t : Txt) : Bool := match numO t with | some n => decide (lo ≤ n ∧ n ≤ hi) | none => false

theorem rises_next (l : List Txt) (k : Nat) (h : k + 1 < l.length) (hr : rises (l.take (k + 1)) = true) (hlt : lt l[k] l[k + 1] = true) : rises (l.take (k + 2)) = true := by
  induction l generalizing k with
  | nil => simp at h
  | cons a l ih =>
    cases l with
    | nil => simp at h
    | cons b l =>
      cases k with
      | zero => show (lt a b && rises [b]) = true; rw [show lt a b = true from hlt]; rfl
      | succ k =>
        have h1 : rises (a :: (b :: l).take (k + 1)) = true := hr
        show rises (a :: (b :: l).take (k + 2)) = true
        have e1 : (b :: l).take (k + 1) = b :: l.take k := rfl
        have e2 : (b :: l).take (k + 2) = b :: l.take (k + 1) := rfl
        rw [e1] at h1
        have h2 : lt a b = true ∧ rises (b :: l.take k) = true := Bool.and_eq_true_iff.1 h1
        rw [e2]
        show (lt a b && rises (b :: l.take (k + 1))) = true
        rw [h2.1, Bool.true_and]
        exact ih k (by simp at h ⊢; omega) h2.2 hlt
theorem rises_no (l : List Txt) (k : Nat) (h : k + 1 < l.length) (hlt : lt l[k] l[k + 1] = false) : rises l = false := by
  cases hr : rises l with
  | false => rfl
  | true =>
    have := List.pairwise_iff_getElem.1 ((up_iff l).1 hr) k (k + 1) (by omega) h (by omega)
    rw [hlt] at this; cases this
theorem geq_lt (a b : Txt) : (!Op.bytesLess (bytesT a).toList (bytesT b).toList) = !lt a b := by rw [Lib.toList_data, Lib.toList_data]; rfl

end Go.Proofs.YtnkcbmlobikjkabDoor
