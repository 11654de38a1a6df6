/- Layer 3, plain mathematics alone: names, numbers and their texts, values. No program is named. -/
import Derived.Test.YtcpgodkgdceocaaValA
import Derived.Test.YtcpgodkgdceocaaSufA
namespace Go.Proofs.Ytcpgodkgdceocaa.Val
open Suf

def low (c : UInt8) : Bool := decide (97 ≤ c.toNat ∧ c.toNat ≤ 122)
def nameC (c : UInt8) : Bool := low c || dig c || c == 46 || c == 45
/-- A name: 1 to 16 letters, digits, points, dashes; a letter first. -/
def nameB (s : Txt) : Bool := decide (1 ≤ s.length ∧ s.length ≤ 16) && (match s with | c :: _ => low c | [] => false) && s.all nameC
/-- A number's text. -/
def decZ (n : Int) : Txt := if n < 0 then 45 :: dec n.natAbs else dec n.natAbs
/-- What the digits of a text say, below 0 behind a dash. -/
def numV (s : Txt) : Int := if s.head? = some 45 then -((val (s.filter dig) : Nat) : Int) else ((val (s.filter dig) : Nat) : Int)
def numO (s : Txt) : Option Int := if s.length ≤ 11 ∧ decZ (numV s) = s ∧ -2147483648 ≤ numV s ∧ numV s ≤ 2147483648 then some (numV s) else none
def valueB (s : Txt) : Bool := nameB s || (numO s).isSome

theorem filter_dec (n : Nat) : (dec n).filter dig = dec n := List.filter_eq_self.2 fun c hc => List.all_eq_true.1 (decFuel_all 20 n) c hc
theorem dec_head (n : Nat) : ¬ (dec n).head? = some 45 := by
  intro h
  have hm : (45 : UInt8) ∈ dec n := List.mem_of_head? h
  have := List.all_eq_true.1 (decFuel_all 20 n) 45 hm
  exact absurd this (by decide)
theorem numV_dec (n : Int) (h : n.natAbs < 1000000000000000000) : numV (decZ n) = n := by
  unfold decZ numV
  by_cases hn : n < 0
  · rw [if_pos hn, if_pos (show (45 :: dec n.natAbs).head? = some 45 from rfl), List.filter_cons_of_neg (by decide), filter_dec, dec_val _ h]; omega
  · rw [if_neg hn, if_neg (dec_head _), filter_dec, dec_val _ h]; omega
theorem decZ_len (n : Int) (h0 : -2147483648 ≤ n) (h1 : n ≤ 2147483648) : (decZ n).length ≤ 11 := by
  have := decFuel_len 20 n.natAbs 10 (Nat.lt_of_le_of_lt (show n.natAbs ≤ 2147483648 by omega) (by decide)) (by omega)
  unfold decZ dec
  split
  · rw [List.length_cons]; omega
  · omega
theorem numO_iff (s : Txt) (n : Int) : numO s = some n ↔ decZ n = s ∧ -2147483648 ≤ n ∧ n ≤ 2147483648 := by
  unfold numO
  constructor
  · intro h
    split at h
    · rename_i hc
      injection h with h
      rw [← h]; exact hc.2
    · cases h
  · rintro ⟨rfl, h0, h1⟩
    have e := numV_dec n (Nat.lt_of_le_of_lt (show n.natAbs ≤ 2147483648 by omega) (by decide))
    rw [e, if_pos ⟨decZ_len n h0 h1, rfl, h0, h1⟩]
theorem numO_dec (n : Int) (h0 : -2147483648 ≤ n) (h1 : n ≤ 2147483648) : numO (decZ n) = some n := (numO_iff _ _).2 ⟨rfl, h0, h1⟩
theorem decZ_inj (n m : Int) (hn : -2147483648 ≤ n ∧ n ≤ 2147483648) (hm : -2147483648 ≤ m ∧ m ≤ 2147483648) (h : decZ n = decZ m) : n = m := by
  have h1 := numO_dec n hn.1 hn.2
  rw [h, numO_dec m hm.1 hm.2] at h1
  injection h1 with h1; exact h1.symm
theorem num_value {s : Txt} {n : Int} (h : numO s = some n) : valueB s = true := by unfold valueB; rw [h]; simp
/-- A name is no number. -/
theorem decZ_head (n : Int) : ∃ c l, decZ n = c :: l ∧ low c = false := by
  unfold decZ
  split
  · exact ⟨45, _, rfl, by decide⟩
  · have hp := decFuel_pos 19 n.natAbs
    have ha := decFuel_all 20 n.natAbs
    cases hd : dec n.natAbs with
    | nil =>
      have : (decFuel (19 + 1) n.natAbs) = [] := hd
      rw [this] at hp; simp at hp
    | cons c l =>
      refine ⟨c, l, rfl, ?_⟩
      have hc := List.all_eq_true.1 ha c (by show c ∈ dec n.natAbs; rw [hd]; simp)
      unfold dig at hc; rw [decide_eq_true_eq] at hc
      unfold low; rw [decide_eq_false_iff_not]; omega
theorem name_none {s : Txt} (h : nameB s = true) : numO s = none := by
  cases hn : numO s with
  | none => rfl
  | some n =>
    obtain ⟨c, l, e, hc⟩ := decZ_head n
    have e2 := ((numO_iff s n).1 hn).1
    rw [e] at e2
    subst e2
    unfold nameB at h
    rw [Bool.and_eq_true, Bool.and_eq_true] at h
    have := h.1.2
    simp only at this
    rw [hc] at this; cases this
/-- Names enough. -/
def nm (k : Nat) : Txt := 97 :: dec k
theorem nm_name (k : Nat) (h : k ≤ 1000) : nameB (nm k) = true := by
  have hl := decFuel_len 20 k 4 (by omega) (by omega)
  have ha := decFuel_all 20 k
  unfold nameB nm
  rw [Bool.and_eq_true, Bool.and_eq_true, decide_eq_true_eq]
  refine ⟨⟨⟨by simp, by show (decFuel 20 k).length + 1 ≤ 16; omega⟩, by show low 97 = true; decide⟩, ?_⟩
  rw [List.all_cons]
  refine Bool.and_eq_true_iff.2 ⟨by decide, ?_⟩
  rw [List.all_eq_true] at ha ⊢
  intro c hc
  have := ha c hc
  unfold nameC; rw [this]; simp
theorem nm_inj (i j : Nat) (hi : i ≤ 1000) (hj : j ≤ 1000) (h : nm i = nm j) : i = j := by
  unfold nm at h
  injection h with _ h
  exact dec_inj i j (Nat.lt_of_le_of_lt hi (by decide)) (Nat.lt_of_le_of_lt hj (by decide)) h
theorem name_value {s : Txt} (h : nameB s = true) : valueB s = true := by unfold valueB; rw [h]; rfl
theorem some_name (l : List Txt) (h : l.length ≤ 200) : ∃ v, nameB v = true ∧ v ∉ l := by
  obtain ⟨k, hk, hn⟩ := outside nm 200 (fun i j hi hj => nm_inj i j (by omega) (by omega)) l h
  exact ⟨nm k, nm_name k (by omega), hn⟩

end Go.Proofs.Ytcpgodkgdceocaa.Val
