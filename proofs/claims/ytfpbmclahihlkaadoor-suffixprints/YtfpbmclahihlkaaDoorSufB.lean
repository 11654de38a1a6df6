/- Layer 2, plain mathematics alone: texts of bytes and of dollars; that what is printed is parsed as what it was. No program is named. -/
import Derived.Test.YtfpbmclahihlkaaDoorSufA
namespace Go.Proofs.YtfpbmclahihlkaaDoor.Suf

/-! Texts of bytes. -/
/-- The suffixes. -/
def suf : Nat → List UInt8
  | 1 => [75, 105]
  | 2 => [77, 105]
  | 3 => [71, 105]
  | 4 => [84, 105]
  | _ => []
def endsW (l e : List UInt8) : Bool := decide (e.length ≤ l.length ∧ l.drop (l.length - e.length) = e)
def front (l e : List UInt8) : List UInt8 := l.take (l.length - e.length)
/-- Read with the suffixes up to the k-th, the greatest one first. -/
def pB (l : List UInt8) : Nat → Int × Int
  | 0 => if digs l then times (val l) 1 else form
  | k + 1 => if endsW l (suf (k + 1)) && digs (front l (suf (k + 1))) then times (val (front l (suf (k + 1)))) (1024 ^ (k + 1)) else pB l k
def pBytes (l : List UInt8) : Int × Int := pB l 4
/-- The greatest of the five that divides n. -/
def topK (n : Nat) : Nat := if n % 1099511627776 = 0 then 4 else if n % 1073741824 = 0 then 3 else if n % 1048576 = 0 then 2 else if n % 1024 = 0 then 1 else 0
def prBytes (n : Nat) : List UInt8 := if n = 0 then [48] else dec (n / 1024 ^ topK n) ++ suf (topK n)

theorem ends_same (d e : List UInt8) : endsW (d ++ e) e = true := by
  unfold endsW; rw [decide_eq_true_eq, List.length_append, Nat.add_sub_cancel, List.drop_left]; exact ⟨by omega, rfl⟩
theorem front_same (d e : List UInt8) : front (d ++ e) e = d := by
  unfold front; rw [List.length_append, Nat.add_sub_cancel, List.take_left]
theorem suf_len (k : Nat) (h : 1 ≤ k ∧ k ≤ 4) : (suf k).length = 2 := by
  match k, h with
  | 1, _ | 2, _ | 3, _ | 4, _ => rfl
theorem suf_mem (k : Nat) (h : 1 ≤ k ∧ k ≤ 4) : (105 : UInt8) ∈ suf k := by
  match k, h with
  | 1, _ | 2, _ | 3, _ | 4, _ => simp [suf]
theorem suf_inj (j k : Nat) (hj : 1 ≤ j ∧ j ≤ 4) (hk : 1 ≤ k ∧ k ≤ 4) (h : suf k = suf j) : j = k := by
  match j, hj, k, hk with
  | 1, _, 1, _ | 2, _, 2, _ | 3, _, 3, _ | 4, _, 4, _ => rfl
  | 1, _, 2, _ | 1, _, 3, _ | 1, _, 4, _ | 2, _, 1, _ | 2, _, 3, _ | 2, _, 4, _ | 3, _, 1, _ | 3, _, 2, _ | 3, _, 4, _ | 4, _, 1, _ | 4, _, 2, _ | 4, _, 3, _ => simp [suf] at h
theorem ends_other (d : List UInt8) (j k : Nat) (hj : 1 ≤ j ∧ j ≤ 4) (hk : k ≤ 4) (hd : digs d = true) (hne : ¬ j = k) : endsW (d ++ suf k) (suf j) = false := by
  cases he : endsW (d ++ suf k) (suf j) with
  | false => rfl
  | true =>
    exfalso
    unfold endsW at he
    rw [decide_eq_true_eq] at he
    by_cases h0 : k = 0
    · subst h0
      have e2 := he.2
      rw [show suf 0 = [] from rfl, List.append_nil] at e2
      have hm : (105 : UInt8) ∈ d := List.mem_of_mem_drop (e2 ▸ suf_mem j hj)
      have := digs_no d 105 (by decide) hm
      rw [hd] at this; cases this
    · have lk := suf_len k ⟨by omega, hk⟩
      have lj := suf_len j hj
      have e2 := he.2
      rw [List.length_append, lk, lj, Nat.add_sub_cancel, List.drop_left] at e2
      exact hne (suf_inj j k hj ⟨by omega, hk⟩ e2)
/-- Digits and the k-th suffix, read. -/
theorem pB_read (d : List UInt8) (hd : digs d = true) (k : Nat) (hk : k ≤ 4) : ∀ i, i ≤ 4 → k ≤ i → pB (d ++ suf k) i = times (val d) (1024 ^ k)
  | 0, _, h => by
    have : k = 0 := by omega
    subst this
    show (if digs (d ++ suf 0) then times (val (d ++ suf 0)) 1 else form) = _
    rw [show suf 0 = [] from rfl, List.append_nil, hd]; rfl
  | i + 1, hi, h => by
    show (if endsW (d ++ suf k) (suf (i + 1)) && digs (front (d ++ suf k) (suf (i + 1))) then _ else pB (d ++ suf k) i) = _
    by_cases e : k = i + 1
    · subst e
      rw [ends_same, front_same, hd]; rfl
    · rw [ends_other d (i + 1) k ⟨by omega, hi⟩ hk hd (by omega), Bool.false_and]
      exact pB_read d hd k hk i (by omega) (by omega)
theorem pBytes_read (d : List UInt8) (hd : digs d = true) (k : Nat) (hk : k ≤ 4) : pBytes (d ++ suf k) = times (val d) (1024 ^ k) :=
  pB_read d hd k hk 4 (Nat.le_refl _) hk
theorem topK_le (n : Nat) : topK n ≤ 4 := by unfold topK; split <;> (try split) <;> (try split) <;> (try split) <;> omega
theorem topK_div (n : Nat) : n / 1024 ^ topK n * 1024 ^ topK n = n := by
  unfold topK
  by_cases h4 : n % 1099511627776 = 0
  · rw [if_pos h4]; show n / 1099511627776 * 1099511627776 = n; omega
  · rw [if_neg h4]
    by_cases h3 : n % 1073741824 = 0
    · rw [if_pos h3]; show n / 1073741824 * 1073741824 = n; omega
    · rw [if_neg h3]
      by_cases h2 : n % 1048576 = 0
      · rw [if_pos h2]; show n / 1048576 * 1048576 = n; omega
      · rw [if_neg h2]
        by_cases h1 : n % 1024 = 0
        · rw [if_pos h1]; show n / 1024 * 1024 = n; omega
        · rw [if_neg h1]; show n / 1 * 1 = n; omega
theorem small18 (n : Nat) (h : n ≤ 1125899906842624) : n < 10 ^ 18 := Nat.lt_of_le_of_lt h (by decide)
theorem bytes_back (n : Nat) (h : n ≤ 1125899906842624) : pBytes (prBytes n) = ((n : Int), 0) := by
  unfold prBytes
  by_cases h0 : n = 0
  · subst h0; rw [if_pos rfl]; decide
  · rw [if_neg h0]
    have hq : n / 1024 ^ topK n < 10 ^ 18 := Nat.lt_of_le_of_lt (Nat.div_le_self _ _) (small18 n h)
    rw [pBytes_read _ (dec_digs _ hq) _ (topK_le n), dec_val _ hq, times_ok _ _ (by rw [topK_div]; exact h), topK_div]
theorem bytes_inj (n m : Nat) (hn : n ≤ 1125899906842624) (hm : m ≤ 1125899906842624) (h : prBytes n = prBytes m) : n = m := by
  have := (bytes_back n hn).symm.trans ((congrArg pBytes h).trans (bytes_back m hm))
  injection this with h1 _
  omega

/-! Texts of dollars. -/
/-- What stands ahead of the first point, and behind it. -/
def whole (l : List UInt8) : List UInt8 := l.takeWhile (· != 46)
def behind (l : List UInt8) : List UInt8 := (l.dropWhile (· != 46)).drop 1
def pointed (l : List UInt8) : Bool := l.contains 46
/-- What parts of a dollar say: filled up to six digits. -/
def part (r : List UInt8) : Nat := val (r ++ List.replicate (6 - r.length) 48)
def money (n p : Nat) : Int × Int := if n * 1000000 + p ≤ 1125899906842624 then (((n * 1000000 + p : Nat) : Int), 0) else (0, 10)
def pMoney (l : List UInt8) : Int × Int :=
  if pointed l then (if digs (whole l) && (decide (1 ≤ (behind l).length ∧ (behind l).length ≤ 6) && (behind l).all dig) then money (val (whole l)) (part (behind l)) else form)
  else (if digs l then money (val l) 0 else form)
/-- The six digits of a number below a million; without the noughts at its end. -/
def six (r : Nat) : List UInt8 := [UInt8.ofNat (48 + r / 100000 % 10), UInt8.ofNat (48 + r / 10000 % 10), UInt8.ofNat (48 + r / 1000 % 10), UInt8.ofNat (48 + r / 100 % 10), UInt8.ofNat (48 + r / 10 % 10), UInt8.ofNat (48 + r % 10)]
def strip (l : List UInt8) : List UInt8 := (l.reverse.dropWhile (· == 48)).reverse
def prMoney (n : Nat) : List UInt8 := dec (n / 1000000) ++ (if n % 1000000 = 0 then [] else 46 :: strip (six (n % 1000000)))

theorem six_sum (r : Nat) (h : r < 1000000) : (((((r / 100000 % 10) * 10 + r / 10000 % 10) * 10 + r / 1000 % 10) * 10 + r / 100 % 10) * 10 + r / 10 % 10) * 10 + r % 10 = r := by
  have h1 : r = r / 10 * 10 + r % 10 := by omega
  have h2 : r / 10 = r / 100 * 10 + r / 10 % 10 := by omega
  have h3 : r / 100 = r / 1000 * 10 + r / 100 % 10 := by omega
  have h4 : r / 1000 = r / 10000 * 10 + r / 1000 % 10 := by omega
  have h5 : r / 10000 = r / 100000 * 10 + r / 10000 % 10 := by omega
  have h6 : r / 100000 % 10 = r / 100000 := by omega
  rw [h6, ← h5, ← h4, ← h3, ← h2, ← h1]
theorem six_val (r : Nat) (h : r < 1000000) : val (six r) = r := by
  have e := six_sum r h
  have b : ∀ x, dv (UInt8.ofNat (48 + x % 10)) = x % 10 := fun x => dv_byte _ (Nat.mod_lt _ (by omega))
  show (((((0 * 10 + dv (UInt8.ofNat (48 + r / 100000 % 10))) * 10 + dv (UInt8.ofNat (48 + r / 10000 % 10))) * 10 + dv (UInt8.ofNat (48 + r / 1000 % 10))) * 10 + dv (UInt8.ofNat (48 + r / 100 % 10))) * 10 + dv (UInt8.ofNat (48 + r / 10 % 10))) * 10 + dv (UInt8.ofNat (48 + r % 10)) = r
  rw [b, b, b, b, b, b, Nat.zero_mul, Nat.zero_add]
  exact e
theorem six_all (r : Nat) : (six r).all dig = true := by
  unfold six
  rw [List.all_cons, List.all_cons, List.all_cons, List.all_cons, List.all_cons, List.all_cons, dig_byte _ (Nat.mod_lt _ (by omega)), dig_byte _ (Nat.mod_lt _ (by omega)), dig_byte _ (Nat.mod_lt _ (by omega)), dig_byte _ (Nat.mod_lt _ (by omega)), dig_byte _ (Nat.mod_lt _ (by omega)), dig_byte _ (Nat.mod_lt _ (by omega))]
  rfl
/-- What was stripped were noughts. -/
theorem strip_fill (l : List UInt8) : strip l ++ List.replicate (l.length - (strip l).length) 48 = l := by
  unfold strip
  generalize hr : l.reverse = r
  have hl : l = r.reverse := by rw [← hr, List.reverse_reverse]
  subst hl
  clear hr
  induction r with
  | nil => rfl
  | cons c r ih =>
    rw [List.dropWhile_cons]
    by_cases h : (c == 48) = true
    · rw [if_pos h]
      have hc : c = 48 := beq_iff_eq.1 h
      subst hc
      have hle : ((r.dropWhile (· == 48)).reverse).length ≤ r.reverse.length := by
        rw [List.length_reverse, List.length_reverse]; exact (List.dropWhile_sublist _).length_le
      rw [List.reverse_cons, List.length_append, show [(48 : UInt8)].length = 1 from rfl, show r.reverse.length + 1 - ((r.dropWhile (· == 48)).reverse).length = r.reverse.length - ((r.dropWhile (· == 48)).reverse).length + 1 by omega, List.replicate_succ', ← List.append_assoc, ih]
    · rw [if_neg h]
      simp
theorem strip_all (l : List UInt8) (h : l.all dig = true) : (strip l).all dig = true := by
  have := strip_fill l
  rw [← this, List.all_append, Bool.and_eq_true] at h
  exact h.1
theorem part_strip (r : Nat) (h : r < 1000000) : part (strip (six r)) = r := by
  unfold part
  have := strip_fill (six r)
  rw [show (six r).length = 6 from rfl] at this
  rw [this]; exact six_val r h
theorem strip_pos (r : Nat) (h : r < 1000000) (h0 : 0 < r) : 1 ≤ (strip (six r)).length ∧ (strip (six r)).length ≤ 6 := by
  have hf := strip_fill (six r)
  have hl : (strip (six r)).length ≤ 6 := by
    have := congrArg List.length hf
    rw [List.length_append, show (six r).length = 6 from rfl] at this
    omega
  refine ⟨?_, hl⟩
  rcases Nat.eq_zero_or_pos (strip (six r)).length with hz | hp
  · have hn : strip (six r) = [] := List.eq_nil_of_length_eq_zero hz
    have hp := part_strip r h
    rw [hn] at hp
    have : part [] = 0 := by decide
    omega
  · exact hp
theorem no_point (d : List UInt8) (h : d.all dig = true) : ∀ c ∈ d, (c != 46) = true := by
  intro c hc
  have := List.all_eq_true.1 h c hc
  cases hb : (c != 46) with
  | true => rfl
  | false =>
    have e : c = 46 := by simpa using hb
    subst e
    have : dig 46 = false := by decide
    simp_all
theorem whole_at (d r : List UInt8) (h : d.all dig = true) : whole (d ++ 46 :: r) = d ∧ behind (d ++ 46 :: r) = r := by
  have hn := no_point d h
  unfold whole behind
  constructor
  · rw [List.takeWhile_append_of_pos hn, List.takeWhile_cons]; simp
  · rw [List.dropWhile_append_of_pos hn, List.dropWhile_cons]; simp
theorem pointed_at (d r : List UInt8) : pointed (d ++ 46 :: r) = true := by unfold pointed; simp
theorem pointed_no (d : List UInt8) (h : d.all dig = true) : pointed d = false := by
  unfold pointed
  cases hc : d.contains 46 with
  | false => rfl
  | true =>
    have := no_point d h 46 (by simpa using hc)
    simp at this
theorem money_back (n : Nat) (h : n ≤ 1125899906842624) : pMoney (prMoney n) = ((n : Int), 0) := by
  have hq : n / 1000000 < 10 ^ 18 := Nat.lt_of_le_of_lt (Nat.div_le_self _ _) (small18 n h)
  have hd := dec_digs _ hq
  have ha := digs_all _ hd
  unfold prMoney
  by_cases h0 : n % 1000000 = 0
  · rw [if_pos h0, List.append_nil]
    unfold pMoney
    rw [pointed_no _ ha, hd, dec_val _ hq]
    simp only [Bool.false_eq_true, if_false, if_true]
    unfold money
    rw [if_pos (by omega), show n / 1000000 * 1000000 + 0 = n by omega]
  · rw [if_neg h0]
    have hr : n % 1000000 < 1000000 := Nat.mod_lt _ (by omega)
    have hw := whole_at (dec (n / 1000000)) (strip (six (n % 1000000))) ha
    unfold pMoney
    rw [pointed_at, hw.1, hw.2, hd, strip_all _ (six_all _), decide_eq_true (strip_pos _ hr (by omega)), dec_val _ hq, part_strip _ hr]
    simp only [Bool.and_self, if_true]
    unfold money
    rw [if_pos (by omega), show n / 1000000 * 1000000 + n % 1000000 = n by omega]
theorem money_inj (n m : Nat) (hn : n ≤ 1125899906842624) (hm : m ≤ 1125899906842624) (h : prMoney n = prMoney m) : n = m := by
  have := (money_back n hn).symm.trans ((congrArg pMoney h).trans (money_back m hm))
  injection this with h1 _
  omega

end Go.Proofs.YtfpbmclahihlkaaDoor.Suf
