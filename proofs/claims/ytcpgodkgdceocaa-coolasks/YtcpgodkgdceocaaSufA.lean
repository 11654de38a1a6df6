/- Layer 2, plain mathematics alone: digits, what they say, the digits of a number; texts of CPUs, bytes and dollars; that what is printed is parsed as what it was. No program is named. -/
import Derived.Below
namespace Go.Proofs.Ytcpgodkgdceocaa.Suf

/-- A byte 0 to 9; what it says. -/
def dig (c : UInt8) : Bool := decide (48 ≤ c.toNat ∧ c.toNat ≤ 57)
def dv (c : UInt8) : Nat := c.toNat - 48
/-- What digits say, the highest one first, behind n. -/
def valFrom (n : Nat) : List UInt8 → Nat
  | [] => n
  | c :: l => valFrom (n * 10 + dv c) l
def val (l : List UInt8) : Nat := valFrom 0 l
/-- Digits: 1 to 18 of them, no 0 ahead of others. -/
def digs (l : List UInt8) : Bool := decide (1 ≤ l.length ∧ l.length ≤ 18 ∧ (l.length = 1 ∨ ¬ l.head? = some 48)) && l.all dig
/-- n times a number, if that is an amount. -/
def times (n k : Nat) : Int × Int := if n * k ≤ 1125899906842624 then (((n * k : Nat) : Int), 0) else (0, 10)
def form : Int × Int := (0, 20)

/-- The digits of a number. -/
def decFuel : Nat → Nat → List UInt8
  | 0, _ => []
  | f + 1, n => (if n < 10 then [] else decFuel f (n / 10)) ++ [UInt8.ofNat (48 + n % 10)]
def dec (n : Nat) : List UInt8 := decFuel 20 n

theorem valFrom_append (n : Nat) (xs ys : List UInt8) : valFrom n (xs ++ ys) = valFrom (valFrom n xs) ys := by
  induction xs generalizing n with
  | nil => rfl
  | cons c l ih => exact ih _
theorem val_snoc (xs : List UInt8) (c : UInt8) : val (xs ++ [c]) = val xs * 10 + dv c := by
  unfold val; rw [valFrom_append]; rfl

theorem byte_toNat (d : Nat) (h : d < 10) : (UInt8.ofNat (48 + d)).toNat = 48 + d := by
  rw [UInt8.toNat_ofNat']; omega
theorem dv_byte (d : Nat) (h : d < 10) : dv (UInt8.ofNat (48 + d)) = d := by unfold dv; rw [byte_toNat d h]; omega
theorem dig_byte (d : Nat) (h : d < 10) : dig (UInt8.ofNat (48 + d)) = true := by
  unfold dig; rw [byte_toNat d h]; exact decide_eq_true ⟨by omega, by omega⟩

theorem decFuel_val : ∀ (f n : Nat), n < 10 ^ f → val (decFuel f n) = n
  | 0, n, h => by have : n = 0 := by simpa using h
                  subst this; rfl
  | f + 1, n, h => by
    show val ((if n < 10 then [] else decFuel f (n / 10)) ++ [UInt8.ofNat (48 + n % 10)]) = n
    rw [val_snoc, dv_byte _ (Nat.mod_lt _ (by omega))]
    by_cases hn : n < 10
    · rw [if_pos hn]; show 0 * 10 + n % 10 = n; omega
    · rw [if_neg hn, decFuel_val f (n / 10) (by rw [Nat.pow_succ] at h; omega)]; omega
theorem decFuel_all : ∀ (f n : Nat), (decFuel f n).all dig = true
  | 0, _ => rfl
  | f + 1, n => by
    show ((if n < 10 then [] else decFuel f (n / 10)) ++ [UInt8.ofNat (48 + n % 10)]).all dig = true
    have hb := dig_byte (n % 10) (Nat.mod_lt _ (by omega))
    rw [List.all_append, List.all_cons, hb]
    by_cases hn : n < 10
    · rw [if_pos hn]; rfl
    · rw [if_neg hn, decFuel_all f (n / 10)]; rfl
theorem decFuel_len : ∀ (f n k : Nat), n < 10 ^ k → 1 ≤ k → (decFuel f n).length ≤ k
  | 0, _, _, _, _ => Nat.zero_le _
  | f + 1, n, k, h, hk => by
    show ((if n < 10 then [] else decFuel f (n / 10)) ++ [UInt8.ofNat (48 + n % 10)]).length ≤ k
    rw [List.length_append]
    by_cases hn : n < 10
    · rw [if_pos hn]; simpa using hk
    · rw [if_neg hn]
      obtain ⟨j, rfl⟩ : ∃ j, k = j + 1 := ⟨k - 1, by omega⟩
      have hj : 1 ≤ j := by
        rcases Nat.eq_zero_or_pos j with rfl | hj
        · simp at h; omega
        · exact hj
      have := decFuel_len f (n / 10) j (by rw [Nat.pow_succ] at h; omega) hj
      show (decFuel f (n / 10)).length + 1 ≤ j + 1
      omega
theorem decFuel_pos (f n : Nat) : 1 ≤ (decFuel (f + 1) n).length := by
  show 1 ≤ ((if n < 10 then [] else decFuel f (n / 10)) ++ [UInt8.ofNat (48 + n % 10)]).length
  rw [List.length_append]; show 1 ≤ _ + 1; omega
/-- The first digit is no 0, but of 0. -/
theorem decFuel_head : ∀ (f n : Nat), n < 10 ^ f → 0 < n → ∃ d l, 0 < d ∧ d < 10 ∧ decFuel f n = UInt8.ofNat (48 + d) :: l
  | 0, n, h, h0 => by simp at h; omega
  | f + 1, n, h, h0 => by
    by_cases hn : n < 10
    · refine ⟨n, [], h0, hn, ?_⟩
      show (if n < 10 then [] else decFuel f (n / 10)) ++ [UInt8.ofNat (48 + n % 10)] = _
      rw [if_pos hn, Nat.mod_eq_of_lt hn]; rfl
    · obtain ⟨d, l, h1, h2, e⟩ := decFuel_head f (n / 10) (by rw [Nat.pow_succ] at h; omega) (by omega)
      refine ⟨d, l ++ [UInt8.ofNat (48 + n % 10)], h1, h2, ?_⟩
      show (if n < 10 then [] else decFuel f (n / 10)) ++ [UInt8.ofNat (48 + n % 10)] = _
      rw [if_neg hn, e]; rfl
theorem dec_zero : dec 0 = [48] := by decide
theorem dec_val (n : Nat) (h : n < 10 ^ 18) : val (dec n) = n := decFuel_val 20 n (Nat.lt_of_lt_of_le h (by decide))
theorem dec_digs (n : Nat) (h : n < 10 ^ 18) : digs (dec n) = true := by
  unfold digs
  rw [Bool.and_eq_true, decide_eq_true_eq]
  refine ⟨⟨decFuel_pos 19 n, decFuel_len 20 n 18 h (by omega), ?_⟩, decFuel_all 20 n⟩
  rcases Nat.eq_zero_or_pos n with rfl | hp
  · exact Or.inl (by decide)
  · right
    obtain ⟨d, l, h1, h2, e⟩ := decFuel_head 20 n (Nat.lt_of_lt_of_le h (by decide)) hp
    show ¬ (decFuel 20 n).head? = some 48
    rw [e]
    intro c
    have c' : UInt8.ofNat (48 + d) = 48 := by simpa using c
    have := congrArg UInt8.toNat c'
    rw [byte_toNat d h2] at this
    simp at this
    omega
theorem dec_inj (n m : Nat) (hn : n < 10 ^ 18) (hm : m < 10 ^ 18) (h : dec n = dec m) : n = m := by
  rw [← dec_val n hn, ← dec_val m hm, h]
theorem digs_all (l : List UInt8) (h : digs l = true) : l.all dig = true := by
  unfold digs at h; rw [Bool.and_eq_true] at h; exact h.2
theorem digs_no (l : List UInt8) (c : UInt8) (hc : dig c = false) (hm : c ∈ l) : digs l = false := by
  cases hd : digs l with
  | false => rfl
  | true =>
    have := List.all_eq_true.1 (digs_all l hd) c hm
    rw [hc] at this; cases this

/-! Texts of CPUs: digits, or digits and an m. -/
/-- The text without its last byte, and that byte. -/
def lastIs (l : List UInt8) (c : UInt8) : Bool := l.getLast? == some c
def pCPU (l : List UInt8) : Int × Int :=
  if lastIs l 109 then (if digs l.dropLast then times (val l.dropLast) 1 else form) else (if digs l then times (val l) 1000 else form)
def prCPU (n : Nat) : List UInt8 := if n % 1000 = 0 then dec (n / 1000) else dec n ++ [109]

theorem lastIs_snoc (l : List UInt8) (c d : UInt8) : lastIs (l ++ [d]) c = (d == c) := by
  unfold lastIs; rw [List.getLast?_concat]; simp
theorem digs_last (l : List UInt8) (c : UInt8) (hc : dig c = false) (h : digs l = true) : lastIs l c = false := by
  cases hl : lastIs l c with
  | false => rfl
  | true =>
    unfold lastIs at hl
    have := List.mem_of_getLast? (beq_iff_eq.1 hl)
    have := digs_no l c hc this
    rw [h] at this; cases this
theorem times_ok (n k : Nat) (h : n * k ≤ 1125899906842624) : times n k = (((n * k : Nat) : Int), 0) := by unfold times; rw [if_pos h]
theorem cpu_back (n : Nat) (h : n ≤ 1125899906842624) : pCPU (prCPU n) = ((n : Int), 0) := by
  unfold prCPU
  by_cases hm : n % 1000 = 0
  · rw [if_pos hm]
    have hd := dec_digs (n / 1000) (by have : (10 : Nat) ^ 18 = 1000000000000000000 := by decide
                                       omega)
    unfold pCPU
    rw [digs_last _ 109 (by decide) hd, hd, dec_val _ (by have : (10 : Nat) ^ 18 = 1000000000000000000 := by decide
                                                          omega)]
    simp only [Bool.false_eq_true, if_false, if_true]
    rw [times_ok _ _ (by omega), show n / 1000 * 1000 = n by omega]
  · rw [if_neg hm]
    have hd := dec_digs n (by have : (10 : Nat) ^ 18 = 1000000000000000000 := by decide
                              omega)
    unfold pCPU
    rw [lastIs_snoc, List.dropLast_concat, hd, dec_val _ (by have : (10 : Nat) ^ 18 = 1000000000000000000 := by decide
                                                             omega)]
    simp only [beq_self_eq_true, if_true]
    rw [times_ok _ _ (by omega), Nat.mul_one]
theorem cpu_inj (n m : Nat) (hn : n ≤ 1125899906842624) (hm : m ≤ 1125899906842624) (h : prCPU n = prCPU m) : n = m := by
  have := (cpu_back n hn).symm.trans ((congrArg pCPU h).trans (cpu_back m hm))
  injection this with h1 _
  omega

end Go.Proofs.Ytcpgodkgdceocaa.Suf
