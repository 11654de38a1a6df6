/- Layer 3, plain mathematics alone: texts in their order, lists that rise, a text laid among them. No program is named. -/
import Derived.Below
namespace Go.Proofs.YthaldbjnnbllbaaGreatDoor.Val

abbrev Txt := List UInt8
/-- Byte by byte. -/
def lt (a b : Txt) : Bool := Go.Op.bytesLess a b
theorem lt_nil (a : Txt) : lt a [] = false := by unfold lt; cases a <;> rfl
theorem lt_cons (a b : UInt8) (x y : Txt) : lt (a :: x) (b :: y) = (decide (a < b) || (a == b && lt x y)) := rfl
theorem lt_irrefl : ∀ a : Txt, lt a a = false
  | [] => rfl
  | c :: a => by rw [lt_cons, lt_irrefl a]; simp [UInt8.lt_irrefl]
theorem lt_trans : ∀ {a b c : Txt}, lt a b = true → lt b c = true → lt a c = true
  | _, _, [], _, h => by rw [lt_nil] at h; cases h
  | _, [], _, h, _ => by rw [lt_nil] at h; cases h
  | [], _ :: _, _ :: _, _, _ => rfl
  | a :: x, b :: y, c :: z, h1, h2 => by
    rw [lt_cons, Bool.or_eq_true, Bool.and_eq_true, decide_eq_true_eq, beq_iff_eq] at *
    rcases h1 with h1 | ⟨h1, h1'⟩ <;> rcases h2 with h2 | ⟨h2, h2'⟩
    · exact Or.inl (UInt8.lt_trans h1 h2)
    · subst h2; exact Or.inl h1
    · subst h1; exact Or.inl h2
    · subst h1 h2; exact Or.inr ⟨rfl, lt_trans h1' h2'⟩
theorem lt_total : ∀ a b : Txt, lt a b = true ∨ a = b ∨ lt b a = true
  | [], [] => Or.inr (Or.inl rfl)
  | [], _ :: _ => Or.inl rfl
  | _ :: _, [] => Or.inr (Or.inr rfl)
  | a :: x, b :: y => by
    rw [lt_cons, lt_cons]
    rcases UInt8.lt_or_lt_of_ne (a := a) (b := b) |> fun f => (Classical.em (a = b)).elim (fun e => Or.inl e) (fun n => Or.inr (f n)) with e | h | h
    · subst e
      rcases lt_total x y with h | h | h
      · left; simp [h]
      · right; left; rw [h]
      · right; right; simp [h]
    · left; simp [h]
    · right; right; simp [h]
theorem lt_asymm {a b : Txt} (h : lt a b = true) : lt b a = false := by
  cases hb : lt b a with
  | false => rfl
  | true => have := lt_trans h hb; rw [lt_irrefl] at this; cases this
theorem lt_ne {a b : Txt} (h : lt a b = true) : ¬ a = b := by
  rintro rfl; rw [lt_irrefl] at h; cases h

/-- A list that rises. -/
def Up (l : List Txt) : Prop := l.Pairwise fun a b => lt a b = true
def rises : List Txt → Bool
  | a :: b :: l => lt a b && rises (b :: l)
  | _ => true
theorem up_iff : ∀ l : List Txt, rises l = true ↔ Up l
  | [] => by simp [rises, Up]
  | [a] => by simp [rises, Up]
  | a :: b :: l => by
    have ih := up_iff (b :: l)
    unfold Up at *
    show (lt a b && rises (b :: l)) = true ↔ _
    rw [Bool.and_eq_true, ih, List.pairwise_cons (a := a)]
    constructor
    · rintro ⟨h1, h2⟩
      refine ⟨fun x hx => ?_, h2⟩
      rcases List.mem_cons.1 hx with rfl | hx
      · exact h1
      · exact lt_trans h1 ((List.pairwise_cons.1 h2).1 x hx)
    · rintro ⟨h1, h2⟩
      exact ⟨h1 b (by simp), h2⟩
theorem up_nodup {l : List Txt} (h : Up l) : l.Nodup := List.Pairwise.imp (fun h => lt_ne h) h
/-- Lists that rise and have the same members are the same. -/
theorem up_ext : ∀ {l m : List Txt}, Up l → Up m → (∀ x, x ∈ l ↔ x ∈ m) → l = m
  | [], [], _, _, _ => rfl
  | [], b :: m, _, _, h => absurd ((h b).2 (by simp)) (by simp)
  | a :: l, [], _, _, h => absurd ((h a).1 (by simp)) (by simp)
  | a :: l, b :: m, hl, hm, h => by
    obtain ⟨la, hl'⟩ := List.pairwise_cons.1 hl
    obtain ⟨mb, hm'⟩ := List.pairwise_cons.1 hm
    have hab : a = b := by
      rcases List.mem_cons.1 ((h a).1 (by simp)) with e | ha
      · exact e
      · rcases List.mem_cons.1 ((h b).2 (by simp)) with e | hb
        · exact e.symm
        · have h1 := mb a ha
          have h2 := la b hb
          have := lt_trans h1 h2
          rw [lt_irrefl] at this; cases this
    subst hab
    have hrest : l = m := up_ext hl' hm' fun x => by
      constructor
      · intro hx
        rcases List.mem_cons.1 ((h x).1 (by simp [hx])) with e | hx'
        · subst e; have := la x hx; rw [lt_irrefl] at this; cases this
        · exact hx'
      · intro hx
        rcases List.mem_cons.1 ((h x).2 (by simp [hx])) with e | hx'
        · subst e; have := mb x hx; rw [lt_irrefl] at this; cases this
        · exact hx'
    rw [hrest]

/-- A text laid among others. -/
def put : List Txt → Txt → List Txt
  | [], s => [s]
  | a :: l, s => if lt a s then a :: put l s else if a = s then a :: l else s :: a :: l
theorem mem_put (s x : Txt) : ∀ l : List Txt, x ∈ put l s ↔ x = s ∨ x ∈ l
  | [] => by simp [put]
  | a :: l => by
    unfold put
    split
    · rw [List.mem_cons, mem_put s x l, List.mem_cons]
      constructor
      · rintro (h | h | h)
        · exact Or.inr (Or.inl h)
        · exact Or.inl h
        · exact Or.inr (Or.inr h)
      · rintro (h | h | h)
        · exact Or.inr (Or.inl h)
        · exact Or.inl h
        · exact Or.inr (Or.inr h)
    · split
      · rename_i e; subst e
        constructor
        · exact Or.inr
        · rintro (h | h)
          · subst h; simp
          · exact h
      · exact List.mem_cons
theorem up_put (s : Txt) : ∀ {l : List Txt}, Up l → Up (put l s)
  | [], _ => by simp [put, Up]
  | a :: l, h => by
    obtain ⟨ha, hl⟩ := List.pairwise_cons.1 h
    unfold put
    split
    · rename_i c
      refine List.pairwise_cons.2 ⟨fun x hx => ?_, up_put s hl⟩
      rcases (mem_put s x l).1 hx with rfl | hx
      · exact c
      · exact ha x hx
    · split
      · exact h
      · rename_i c e
        have hs : lt s a = true := by
          rcases lt_total a s with h1 | h1 | h1
          · exact absurd h1 c
          · exact absurd h1 e
          · exact h1
        refine List.pairwise_cons.2 ⟨fun x hx => ?_, h⟩
        rcases List.mem_cons.1 hx with rfl | hx
        · exact hs
        · exact lt_trans hs (ha x hx)
theorem len_put (s : Txt) : ∀ l : List Txt, (put l s).length ≤ l.length + 1
  | [] => by simp [put]
  | a :: l => by
    unfold put
    have := len_put s l
    split
    · simp; exact this
    · split <;> simp
def rising (l : List Txt) : List Txt := l.foldl put []
theorem fold_put : ∀ (l acc : List Txt), Up acc → Up (l.foldl put acc) ∧ ∀ x, x ∈ l.foldl put acc ↔ x ∈ l ∨ x ∈ acc
  | [], acc, h => ⟨h, fun x => by simp⟩
  | s :: l, acc, h => by
    have ih := fold_put l (put acc s) (up_put s h)
    refine ⟨ih.1, fun x => ?_⟩
    show x ∈ l.foldl put (put acc s) ↔ _
    rw [ih.2, mem_put, List.mem_cons]
    constructor
    · rintro (h | h | h)
      · exact Or.inl (Or.inr h)
      · exact Or.inl (Or.inl h)
      · exact Or.inr h
    · rintro ((h | h) | h)
      · exact Or.inr (Or.inl h)
      · exact Or.inl h
      · exact Or.inr (Or.inr h)
theorem up_rising (l : List Txt) : Up (rising l) := (fold_put l [] List.Pairwise.nil).1
theorem mem_rising (l : List Txt) (x : Txt) : x ∈ rising l ↔ x ∈ l := by
  have := (fold_put l [] List.Pairwise.nil).2 x
  unfold rising; simpa using this
theorem rising_self {l : List Txt} (h : Up l) : rising l = l := up_ext (up_rising l) h (mem_rising l)
theorem rising_congr {l m : List Txt} (h : ∀ x, x ∈ l ↔ x ∈ m) : rising l = rising m :=
  up_ext (up_rising l) (up_rising m) fun x => by rw [mem_rising, mem_rising, h]
theorem up_filter {l : List Txt} (p : Txt → Bool) (h : Up l) : Up (l.filter p) := List.Pairwise.sublist List.filter_sublist h

/-! How many. -/
theorem nodup_len {α : Type} [DecidableEq α] : ∀ {l m : List α}, l.Nodup → (∀ x, x ∈ l → x ∈ m) → l.length ≤ m.length
  | [], m, _, _ => Nat.zero_le _
  | a :: l, m, h, hs => by
    obtain ⟨ha, hl⟩ := List.nodup_cons.1 h
    have hm : a ∈ m := hs a (by simp)
    have ih := nodup_len (l := l) (m := m.erase a) hl fun x hx => by
      have hne : x ≠ a := fun e => ha (e ▸ hx)
      exact (List.mem_erase_of_ne hne).2 (hs x (by simp [hx]))
    rw [List.length_erase_of_mem hm] at ih
    have := List.length_pos_of_mem hm
    rw [List.length_cons]; omega
theorem same_len {α : Type} [DecidableEq α] {l m : List α} (hl : l.Nodup) (hm : m.Nodup) (h : ∀ x, x ∈ l ↔ x ∈ m) : l.length = m.length :=
  Nat.le_antisymm (nodup_len hl fun x => (h x).1) (nodup_len hm fun x => (h x).2)
theorem nodup_map {α β : Type} {f : α → β} : ∀ {l : List α}, l.Nodup → (∀ x y, x ∈ l → y ∈ l → f x = f y → x = y) → (l.map f).Nodup
  | [], _, _ => List.nodup_nil
  | a :: l, h, hi => by
    obtain ⟨ha, hl⟩ := List.nodup_cons.1 h
    rw [List.map_cons, List.nodup_cons]
    refine ⟨fun hc => ?_, nodup_map hl fun x y hx hy => hi x y (by simp [hx]) (by simp [hy])⟩
    obtain ⟨b, hb, e⟩ := List.mem_map.1 hc
    have := hi b a (by simp [hb]) (by simp) e
    subst this; exact ha hb
/-- More different ones than a list has members: one of them is not there. -/
theorem outside {α : Type} [DecidableEq α] (f : Nat → α) (N : Nat) (hi : ∀ i j, i ≤ N → j ≤ N → f i = f j → i = j) (l : List α) (hl : l.length ≤ N) : ∃ k, k ≤ N ∧ f k ∉ l := by
  apply Classical.byContradiction
  intro hc
  have hall : ∀ k, k ≤ N → f k ∈ l := fun k hk => Classical.byContradiction fun hn => hc ⟨k, hk, hn⟩
  have hn : ((List.range (N + 1)).map f).Nodup := nodup_map List.nodup_range fun x y hx hy => hi x y (by rw [List.mem_range] at hx; omega) (by rw [List.mem_range] at hy; omega)
  have := nodup_len hn (m := l) fun x hx => by
    obtain ⟨k, hk, rfl⟩ := List.mem_map.1 hx
    exact hall k (by rw [List.mem_range] at hk; omega)
  rw [List.length_map, List.length_range] at this
  omega
theorem len_rising {l : List Txt} (h : l.Nodup) : (rising l).length = l.length := same_len (up_nodup (up_rising l)) h (mem_rising l)

end Go.Proofs.YthaldbjnnbllbaaGreatDoor.Val

/- Layer 2, plain mathematics alone: digits, what they say, the digits of a number; texts of CPUs, bytes and dollars; that what is printed is parsed as what it was. No program is named. -/
namespace Go.Proofs.YthaldbjnnbllbaaGreatDoor.Suf

/-- A byte 0 to 9; what it says. -/
def dig (c : UInt8) : Bool := decide (48 ≤ c.toNat ∧ c.toNat ≤ 57)
def dv (c : UInt8) : Nat := c.toNat - 48
/-- What digits say, the highest one first, behind n. -/
def valFrom (n : Nat) : List UInt8 → Nat
  | [] => n
  | c :: l => valFrom (n * 10 + dv c) l
def val (l : List UInt8) : Nat := valFrom 0 l
/-- Digits: 1 to 18 of them, no 0 ahead of others. -/
def digs (l : List UInt8) : Bool := decide (1 ≤ l.length ∧ l.length ≤ 18 ∧ (l.length = 1 ∨ ¬ l.head? = some 48)) && l.all dig
/-- n times a number, if that is an amount. -/
def times (n k : Nat) : Int × Int := if n * k ≤ 1125899906842624 then (((n * k : Nat) : Int), 0) else (0, 10)
def form : Int × Int := (0, 20)

/-- The digits of a number. -/
def decFuel : Nat → Nat → List UInt8
  | 0, _ => []
  | f + 1, n => (if n < 10 then [] else decFuel f (n / 10)) ++ [UInt8.ofNat (48 + n % 10)]
def dec (n : Nat) : List UInt8 := decFuel 20 n

theorem valFrom_append (n : Nat) (xs ys : List UInt8) : valFrom n (xs ++ ys) = valFrom (valFrom n xs) ys := by
  induction xs generalizing n with
  | nil => rfl
  | cons c l ih => exact ih _
theorem val_snoc (xs : List UInt8) (c : UInt8) : val (xs ++ [c]) = val xs * 10 + dv c := by
  unfold val; rw [valFrom_append]; rfl

theorem byte_toNat (d : Nat) (h : d < 10) : (UInt8.ofNat (48 + d)).toNat = 48 + d := by
  rw [UInt8.toNat_ofNat']; omega
theorem dv_byte (d : Nat) (h : d < 10) : dv (UInt8.ofNat (48 + d)) = d := by unfold dv; rw [byte_toNat d h]; omega
theorem dig_byte (d : Nat) (h : d < 10) : dig (UInt8.ofNat (48 + d)) = true := by
  unfold dig; rw [byte_toNat d h]; exact decide_eq_true ⟨by omega, by omega⟩

theorem decFuel_val : ∀ (f n : Nat), n < 10 ^ f → val (decFuel f n) = n
  | 0, n, h => by have : n = 0 := by simpa using h
                  subst this; rfl
  | f + 1, n, h => by
    show val ((if n < 10 then [] else decFuel f (n / 10)) ++ [UInt8.ofNat (48 + n % 10)]) = n
    rw [val_snoc, dv_byte _ (Nat.mod_lt _ (by omega))]
    by_cases hn : n < 10
    · rw [if_pos hn]; show 0 * 10 + n % 10 = n; omega
    · rw [if_neg hn, decFuel_val f (n / 10) (by rw [Nat.pow_succ] at h; omega)]; omega
theorem decFuel_all : ∀ (f n : Nat), (decFuel f n).all dig = true
  | 0, _ => rfl
  | f + 1, n => by
    show ((if n < 10 then [] else decFuel f (n / 10)) ++ [UInt8.ofNat (48 + n % 10)]).all dig = true
    have hb := dig_byte (n % 10) (Nat.mod_lt _ (by omega))
    rw [List.all_append, List.all_cons, hb]
    by_cases hn : n < 10
    · rw [if_pos hn]; rfl
    · rw [if_neg hn, decFuel_all f (n / 10)]; rfl
theorem decFuel_len : ∀ (f n k : Nat), n < 10 ^ k → 1 ≤ k → (decFuel f n).length ≤ k
  | 0, _, _, _, _ => Nat.zero_le _
  | f + 1, n, k, h, hk => by
    show ((if n < 10 then [] else decFuel f (n / 10)) ++ [UInt8.ofNat (48 + n % 10)]).length ≤ k
    rw [List.length_append]
    by_cases hn : n < 10
    · rw [if_pos hn]; simpa using hk
    · rw [if_neg hn]
      obtain ⟨j, rfl⟩ : ∃ j, k = j + 1 := ⟨k - 1, by omega⟩
      have hj : 1 ≤ j := by
        rcases Nat.eq_zero_or_pos j with rfl | hj
        · simp at h; omega
        · exact hj
      have := decFuel_len f (n / 10) j (by rw [Nat.pow_succ] at h; omega) hj
      show (decFuel f (n / 10)).length + 1 ≤ j + 1
      omega
theorem decFuel_pos (f n : Nat) : 1 ≤ (decFuel (f + 1) n).length := by
  show 1 ≤ ((if n < 10 then [] else decFuel f (n / 10)) ++ [UInt8.ofNat (48 + n % 10)]).length
  rw [List.length_append]; show 1 ≤ _ + 1; omega
/-- The first digit is no 0, but of 0. -/
theorem decFuel_head : ∀ (f n : Nat), n < 10 ^ f → 0 < n → ∃ d l, 0 < d ∧ d < 10 ∧ decFuel f n = UInt8.ofNat (48 + d) :: l
  | 0, n, h, h0 => by simp at h; omega
  | f + 1, n, h, h0 => by
    by_cases hn : n < 10
    · refine ⟨n, [], h0, hn, ?_⟩
      show (if n < 10 then [] else decFuel f (n / 10)) ++ [UInt8.ofNat (48 + n % 10)] = _
      rw [if_pos hn, Nat.mod_eq_of_lt hn]; rfl
    · obtain ⟨d, l, h1, h2, e⟩ := decFuel_head f (n / 10) (by rw [Nat.pow_succ] at h; omega) (by omega)
      refine ⟨d, l ++ [UInt8.ofNat (48 + n % 10)], h1, h2, ?_⟩
      show (if n < 10 then [] else decFuel f (n / 10)) ++ [UInt8.ofNat (48 + n % 10)] = _
      rw [if_neg hn, e]; rfl
theorem dec_zero : dec 0 = [48] := by decide
theorem dec_val (n : Nat) (h : n < 10 ^ 18) : val (dec n) = n := decFuel_val 20 n (Nat.lt_of_lt_of_le h (by decide))
theorem dec_digs (n : Nat) (h : n < 10 ^ 18) : digs (dec n) = true := by
  unfold digs
  rw [Bool.and_eq_true, decide_eq_true_eq]
  refine ⟨⟨decFuel_pos 19 n, decFuel_len 20 n 18 h (by omega), ?_⟩, decFuel_all 20 n⟩
  rcases Nat.eq_zero_or_pos n with rfl | hp
  · exact Or.inl (by decide)
  · right
    obtain ⟨d, l, h1, h2, e⟩ := decFuel_head 20 n (Nat.lt_of_lt_of_le h (by decide)) hp
    show ¬ (decFuel 20 n).head? = some 48
    rw [e]
    intro c
    have c' : UInt8.ofNat (48 + d) = 48 := by simpa using c
    have := congrArg UInt8.toNat c'
    rw [byte_toNat d h2] at this
    simp at this
    omega
theorem dec_inj (n m : Nat) (hn : n < 10 ^ 18) (hm : m < 10 ^ 18) (h : dec n = dec m) : n = m := by
  rw [← dec_val n hn, ← dec_val m hm, h]
theorem digs_all (l : List UInt8) (h : digs l = true) : l.all dig = true := by
  unfold digs at h; rw [Bool.and_eq_true] at h; exact h.2
theorem digs_no (l : List UInt8) (c : UInt8) (hc : dig c = false) (hm : c ∈ l) : digs l = false := by
  cases hd : digs l with
  | false => rfl
  | true =>
    have := List.all_eq_true.1 (digs_all l hd) c hm
    rw [hc] at this; cases this

/-! Texts of CPUs: digits, or digits and an m. -/
/-- The text without its last byte, and that byte. -/
def lastIs (l : List UInt8) (c : UInt8) : Bool := l.getLast? == some c
def pCPU (l : List UInt8) : Int × Int :=
  if lastIs l 109 then (if digs l.dropLast then times (val l.dropLast) 1 else form) else (if digs l then times (val l) 1000 else form)
def prCPU (n : Nat) : List UInt8 := if n % 1000 = 0 then dec (n / 1000) else dec n ++ [109]

theorem lastIs_snoc (l : List UInt8) (c d : UInt8) : lastIs (l ++ [d]) c = (d == c) := by
  unfold lastIs; rw [List.getLast?_concat]; simp
theorem digs_last (l : List UInt8) (c : UInt8) (hc : dig c = false) (h : digs l = true) : lastIs l c = false := by
  cases hl : lastIs l c with
  | false => rfl
  | true =>
    unfold lastIs at hl
    have := List.mem_of_getLast? (beq_iff_eq.1 hl)
    have := digs_no l c hc this
    rw [h] at this; cases this
theorem times_ok (n k : Nat) (h : n * k ≤ 1125899906842624) : times n k = (((n * k : Nat) : Int), 0) := by unfold times; rw [if_pos h]
theorem cpu_back (n : Nat) (h : n ≤ 1125899906842624) : pCPU (prCPU n) = ((n : Int), 0) := by
  unfold prCPU
  by_cases hm : n % 1000 = 0
  · rw [if_pos hm]
    have hd := dec_digs (n / 1000) (by have : (10 : Nat) ^ 18 = 1000000000000000000 := by decide
                                       omega)
    unfold pCPU
    rw [digs_last _ 109 (by decide) hd, hd, dec_val _ (by have : (10 : Nat) ^ 18 = 1000000000000000000 := by decide
                                                          omega)]
    simp only [Bool.false_eq_true, if_false, if_true]
    rw [times_ok _ _ (by omega), show n / 1000 * 1000 = n by omega]
  · rw [if_neg hm]
    have hd := dec_digs n (by have : (10 : Nat) ^ 18 = 1000000000000000000 := by decide
                              omega)
    unfold pCPU
    rw [lastIs_snoc, List.dropLast_concat, hd, dec_val _ (by have : (10 : Nat) ^ 18 = 1000000000000000000 := by decide
                                                             omega)]
    simp only [beq_self_eq_true, if_true]
    rw [times_ok _ _ (by omega), Nat.mul_one]
theorem cpu_inj (n m : Nat) (hn : n ≤ 1125899906842624) (hm : m ≤ 1125899906842624) (h : prCPU n = prCPU m) : n = m := by
  have := (cpu_back n hn).symm.trans ((congrArg pCPU h).trans (cpu_back m hm))
  injection this with h1 _
  omega

end Go.Proofs.YthaldbjnnbllbaaGreatDoor.Suf

/- Layer 3, plain mathematics alone: names, numbers and their texts, values. No program is named. -/
namespace Go.Proofs.YthaldbjnnbllbaaGreatDoor.Val
open Suf

def low (c : UInt8) : Bool := decide (97 ≤ c.toNat ∧ c.toNat ≤ 122)
def nameC (c : UInt8) : Bool := low c || dig c || c == 46 || c == 45
/-- A name: 1 to 16 letters, digits, points, dashes; a letter first. -/
def nameB (s : Txt) : Bool := decide (1 ≤ s.length ∧ s.length ≤ 16) && (match s with | c :: _ => low c | [] => false) && s.all nameC
/-- A number's text. -/
def decZ (n : Int) : Txt := if n < 0 then 45 :: dec n.natAbs else dec n.natAbs
/-- What the digits of a text say, below 0 behind a dash. -/
def numV (s : Txt) : Int := if s.head? = some 45 then -((val (s.filter dig) : Nat) : Int) else ((val (s.filter dig) : Nat) : Int)
def numO (s : Txt) : Option Int := if s.length ≤ 11 ∧ decZ (numV s) = s ∧ -2147483648 ≤ numV s ∧ numV s ≤ 2147483648 then some (numV s) else none
def valueB (s : Txt) : Bool := nameB s || (numO s).isSome

theorem filter_dec (n : Nat) : (dec n).filter dig = dec n := List.filter_eq_self.2 fun c hc => List.all_eq_true.1 (decFuel_all 20 n) c hc
theorem dec_head (n : Nat) : ¬ (dec n).head? = some 45 := by
  intro h
  have hm : (45 : UInt8) ∈ dec n := List.mem_of_head? h
  have := List.all_eq_true.1 (decFuel_all 20 n) 45 hm
  exact absurd this (by decide)
theorem numV_dec (n : Int) (h : n.natAbs < 1000000000000000000) : numV (decZ n) = n := by
  unfold decZ numV
  by_cases hn : n < 0
  · rw [if_pos hn, if_pos (show (45 :: dec n.natAbs).head? = some 45 from rfl), List.filter_cons_of_neg (by decide), filter_dec, dec_val _ h]; omega
  · rw [if_neg hn, if_neg (dec_head _), filter_dec, dec_val _ h]; omega
theorem decZ_len (n : Int) (h0 : -2147483648 ≤ n) (h1 : n ≤ 2147483648) : (decZ n).length ≤ 11 := by
  have := decFuel_len 20 n.natAbs 10 (Nat.lt_of_le_of_lt (show n.natAbs ≤ 2147483648 by omega) (by decide)) (by omega)
  unfold decZ dec
  split
  · rw [List.length_cons]; omega
  · omega
theorem numO_iff (s : Txt) (n : Int) : numO s = some n ↔ decZ n = s ∧ -2147483648 ≤ n ∧ n ≤ 2147483648 := by
  unfold numO
  constructor
  · intro h
    split at h
    · rename_i hc
      injection h with h
      rw [← h]; exact hc.2
    · cases h
  · rintro ⟨rfl, h0, h1⟩
    have e := numV_dec n (Nat.lt_of_le_of_lt (show n.natAbs ≤ 2147483648 by omega) (by decide))
    rw [e, if_pos ⟨decZ_len n h0 h1, rfl, h0, h1⟩]
theorem numO_dec (n : Int) (h0 : -2147483648 ≤ n) (h1 : n ≤ 2147483648) : numO (decZ n) = some n := (numO_iff _ _).2 ⟨rfl, h0, h1⟩
theorem decZ_inj (n m : Int) (hn : -2147483648 ≤ n ∧ n ≤ 2147483648) (hm : -2147483648 ≤ m ∧ m ≤ 2147483648) (h : decZ n = decZ m) : n = m := by
  have h1 := numO_dec n hn.1 hn.2
  rw [h, numO_dec m hm.1 hm.2] at h1
  injection h1 with h1; exact h1.symm
theorem num_value {s : Txt} {n : Int} (h : numO s = some n) : valueB s = true := by unfold valueB; rw [h]; simp
/-- A name is no number. -/
theorem decZ_head (n : Int) : ∃ c l, decZ n = c :: l ∧ low c = false := by
  unfold decZ
  split
  · exact ⟨45, _, rfl, by decide⟩
  · have hp := decFuel_pos 19 n.natAbs
    have ha := decFuel_all 20 n.natAbs
    cases hd : dec n.natAbs with
    | nil =>
      have : (decFuel (19 + 1) n.natAbs) = [] := hd
      rw [this] at hp; simp at hp
    | cons c l =>
      refine ⟨c, l, rfl, ?_⟩
      have hc := List.all_eq_true.1 ha c (by show c ∈ dec n.natAbs; rw [hd]; simp)
      unfold dig at hc; rw [decide_eq_true_eq] at hc
      unfold low; rw [decide_eq_false_iff_not]; omega
theorem name_none {s : Txt} (h : nameB s = true) : numO s = none := by
  cases hn : numO s with
  | none => rfl
  | some n =>
    obtain ⟨c, l, e, hc⟩ := decZ_head n
    have e2 := ((numO_iff s n).1 hn).1
    rw [e] at e2
    subst e2
    unfold nameB at h
    rw [Bool.and_eq_true, Bool.and_eq_true] at h
    have := h.1.2
    simp only at this
    rw [hc] at this; cases this
/-- Names enough. -/
def nm (k : Nat) : Txt := 97 :: dec k
theorem nm_name (k : Nat) (h : k ≤ 1000) : nameB (nm k) = true := by
  have hl := decFuel_len 20 k 4 (by omega) (by omega)
  have ha := decFuel_all 20 k
  unfold nameB nm
  rw [Bool.and_eq_true, Bool.and_eq_true, decide_eq_true_eq]
  refine ⟨⟨⟨by simp, by show (decFuel 20 k).length + 1 ≤ 16; omega⟩, by show low 97 = true; decide⟩, ?_⟩
  rw [List.all_cons]
  refine Bool.and_eq_true_iff.2 ⟨by decide, ?_⟩
  rw [List.all_eq_true] at ha ⊢
  intro c hc
  have := ha c hc
  unfold nameC; rw [this]; simp
theorem nm_inj (i j : Nat) (hi : i ≤ 1000) (hj : j ≤ 1000) (h : nm i = nm j) : i = j := by
  unfold nm at h
  injection h with _ h
  exact dec_inj i j (Nat.lt_of_le_of_lt hi (by decide)) (Nat.lt_of_le_of_lt hj (by decide)) h
theorem name_value {s : Txt} (h : nameB s = true) : valueB s = true := by unfold valueB; rw [h]; rfl
theorem some_name (l : List Txt) (h : l.length ≤ 200) : ∃ v, nameB v = true ∧ v ∉ l := by
  obtain ⟨k, hk, hn⟩ := outside nm 200 (fun i j hi hj => nm_inj i j (by omega) (by omega)) l h
  exact ⟨nm k, nm_name k (by omega), hn⟩

end Go.Proofs.YthaldbjnnbllbaaGreatDoor.Val

/- Layer 3, plain mathematics alone: sets of values, what they have, that each is written in one way; the numbers from one to another but some. No program is named. -/
namespace Go.Proofs.YthaldbjnnbllbaaGreatDoor.Val
open Suf

structure VSet where
  miss : Bool
  no : Bool
  num : Bool
  vals : List Txt
  lo : Int
  hi : Int
def orderedB (l : List Txt) : Bool := decide (l.length ≤ 64) && l.all valueB && rises l
def within (lo hi : Int) (t : Txt) : Bool := match numO t with | some n => decide (lo < n ∧ n < hi) | none => false
/-- Whether a set is written in one of the three ways. -/
def checkB (s : VSet) : Bool :=
  orderedB s.vals && (s.no || !s.num) && (if s.num then decide (-2147483648 ≤ s.lo ∧ s.hi ≤ 2147483648 ∧ s.lo ≤ s.hi ∧ 64 < s.hi - s.lo + 1 - (s.vals.length : Int)) && s.vals.all (within s.lo s.hi) else decide (s.lo = 0 ∧ s.hi = 0))
/-- Whether a set has a value, whatever its Miss is. -/
def inB (s : VSet) (v : Txt) : Bool :=
  if s.no then !s.vals.contains v && (!s.num || (match numO v with | some n => decide (s.lo ≤ n ∧ n ≤ s.hi) | none => false)) else s.vals.contains v
def hasB (s : VSet) (v : Txt) : Bool := checkB s && valueB v && inB s v

theorem ordered_iff (l : List Txt) : orderedB l = true ↔ l.length ≤ 64 ∧ (∀ v ∈ l, valueB v = true) ∧ Up l := by
  unfold orderedB; rw [Bool.and_eq_true, Bool.and_eq_true, decide_eq_true_eq, List.all_eq_true, up_iff, and_assoc]
theorem within_iff (lo hi : Int) (t : Txt) : within lo hi t = true ↔ ∃ n, numO t = some n ∧ lo < n ∧ n < hi := by
  unfold within
  cases h : numO t with
  | none => simp
  | some n => simp
/-- The three ways. -/
def isList (s : VSet) : Prop := s.no = false ∧ s.num = false ∧ s.lo = 0 ∧ s.hi = 0
def isBut (s : VSet) : Prop := s.no = true ∧ s.num = false ∧ s.lo = 0 ∧ s.hi = 0
def isNums (s : VSet) : Prop := s.no = true ∧ s.num = true ∧ -2147483648 ≤ s.lo ∧ s.hi ≤ 2147483648 ∧ s.lo ≤ s.hi ∧ 64 < s.hi - s.lo + 1 - (s.vals.length : Int) ∧ ∀ v ∈ s.vals, ∃ n, numO v = some n ∧ s.lo < n ∧ n < s.hi
theorem check_iff (s : VSet) : checkB s = true ↔ orderedB s.vals = true ∧ (isList s ∨ isBut s ∨ isNums s) := by
  obtain ⟨miss, no, num, vals, lo, hi⟩ := s
  unfold checkB isList isBut isNums
  cases no <;> cases num <;> simp [within_iff] <;> intros <;> constructor <;> intro h <;> first | exact h | exact ⟨h.1.1, h.1.2.1, h.1.2.2.1, h.1.2.2.2, h.2⟩ | exact ⟨⟨h.1, h.2.1, h.2.2.1, h.2.2.2.1⟩, h.2.2.2.2⟩
theorem in_list {s : VSet} (h : isList s) (v : Txt) : inB s v = true ↔ v ∈ s.vals := by unfold inB; rw [h.1]; simp
theorem in_but {s : VSet} (h : isBut s) (v : Txt) : inB s v = true ↔ v ∉ s.vals := by unfold inB; rw [h.1, h.2.1]; simp
theorem in_nums {s : VSet} (h : isNums s) (v : Txt) : inB s v = true ↔ v ∉ s.vals ∧ ∃ n, numO v = some n ∧ s.lo ≤ n ∧ n ≤ s.hi := by
  unfold inB; rw [h.1, h.2.1]
  cases hn : numO v with
  | none => simp
  | some n => simp
theorem has_iff (s : VSet) (v : Txt) : hasB s v = true ↔ checkB s = true ∧ valueB v = true ∧ inB s v = true := by
  unfold hasB; rw [Bool.and_eq_true, Bool.and_eq_true, and_assoc]

/-! Each set is written in one way. -/
theorem bool_no {x y : Bool} (h : x = y) (hx : x = true) (hy : ¬ y = true) : False := hy (h ▸ hx)
theorem nums_has {s : VSet} (h : isNums s) (l : List Txt) (hl : l.length ≤ 64) : ∃ v, valueB v = true ∧ inB s v = true ∧ v ∉ l := by
  obtain ⟨_, _, h0, h1, h2, h3, h4⟩ := id h
  obtain ⟨k, hk, hn⟩ := outside (fun k : Nat => decZ (s.lo + k)) (s.hi - s.lo).toNat (fun i j hi hj e => by
    have := decZ_inj _ _ ⟨by omega, by omega⟩ ⟨by omega, by omega⟩ e
    omega) (l ++ s.vals) (by rw [List.length_append]; omega)
  have hnum := numO_dec (s.lo + k) (by omega) (by omega)
  refine ⟨_, num_value hnum, (in_nums h _).2 ⟨fun c => hn (List.mem_append.2 (Or.inr c)), _, hnum, by omega, by omega⟩, fun c => hn (List.mem_append.2 (Or.inl c))⟩
theorem but_not_list {s t : VSet} (hs : isList s) (ht : isBut t) (ls : s.vals.length ≤ 64) (lt : t.vals.length ≤ 64) (h : ∀ v, valueB v = true → inB s v = inB t v) : False := by
  obtain ⟨v, hv, hn⟩ := some_name (s.vals ++ t.vals) (by rw [List.length_append]; omega)
  have e := h v (name_value hv)
  exact bool_no e.symm ((in_but ht v).2 fun c => hn (List.mem_append.2 (Or.inr c))) fun c => hn (List.mem_append.2 (Or.inl ((in_list hs v).1 c)))
theorem nums_not_list {s t : VSet} (hs : isList s) (ht : isNums t) (ls : s.vals.length ≤ 64) (h : ∀ v, valueB v = true → inB s v = inB t v) : False := by
  obtain ⟨v, hv, hin, hn⟩ := nums_has ht s.vals ls
  exact bool_no (h v hv).symm hin fun c => hn ((in_list hs v).1 c)
theorem nums_not_but {s t : VSet} (hs : isBut s) (ht : isNums t) (ls : s.vals.length ≤ 64) (h : ∀ v, valueB v = true → inB s v = inB t v) : False := by
  obtain ⟨v, hv, hn⟩ := some_name s.vals (by omega)
  refine bool_no (h v (name_value hv)) ((in_but hs v).2 hn) fun c => ?_
  obtain ⟨_, n, e, _⟩ := (in_nums ht v).1 c
  rw [name_none hv] at e; cases e
theorem nums_lo {s t : VSet} (hs : isNums s) (ht : isNums t) (h : ∀ v, valueB v = true → inB s v = inB t v) : t.lo ≤ s.lo ∧ s.hi ≤ t.hi := by
  obtain ⟨_, _, h0, h1, h2, h3, h4⟩ := id hs
  have lo_in : inB s (decZ s.lo) = true := (in_nums hs _).2 ⟨fun c => by
    obtain ⟨n, e, hn, _⟩ := h4 _ c
    rw [numO_dec s.lo h0 (by omega)] at e
    injection e with e; omega, _, numO_dec s.lo h0 (by omega), Int.le_refl _, h2⟩
  have hi_in : inB s (decZ s.hi) = true := (in_nums hs _).2 ⟨fun c => by
    obtain ⟨n, e, _, hn⟩ := h4 _ c
    rw [numO_dec s.hi (by omega) h1] at e
    injection e with e; omega, _, numO_dec s.hi (by omega) h1, h2, Int.le_refl _⟩
  rw [h _ (num_value (numO_dec s.lo h0 (by omega)))] at lo_in
  rw [h _ (num_value (numO_dec s.hi (by omega) h1))] at hi_in
  obtain ⟨_, n, e, hn, _⟩ := (in_nums ht _).1 lo_in
  obtain ⟨_, m, e2, _, hm⟩ := (in_nums ht _).1 hi_in
  rw [numO_dec s.lo h0 (by omega)] at e
  rw [numO_dec s.hi (by omega) h1] at e2
  injection e with e
  injection e2 with e2
  omega
theorem nums_vals {s t : VSet} (hs : isNums s) (ht : isNums t) (hlo : s.lo = t.lo) (hhi : s.hi = t.hi) (h : ∀ v, valueB v = true → inB s v = inB t v) (v : Txt) (hv : v ∈ s.vals) : v ∈ t.vals := by
  obtain ⟨_, _, h0, h1, h2, h3, h4⟩ := id hs
  obtain ⟨n, e, hn1, hn2⟩ := h4 v hv
  apply Classical.byContradiction
  intro c
  have : inB t v = true := (in_nums ht v).2 ⟨c, n, e, by omega, by omega⟩
  rw [← h v (num_value e)] at this
  exact ((in_nums hs v).1 this).1 hv
theorem set_ext {s t : VSet} (hs : checkB s = true) (ht : checkB t = true) (hm : s.miss = t.miss) (h : ∀ v, valueB v = true → inB s v = inB t v) : s = t := by
  obtain ⟨os, ws⟩ := (check_iff s).1 hs
  obtain ⟨ot, wt⟩ := (check_iff t).1 ht
  obtain ⟨ls, vs, us⟩ := (ordered_iff _).1 os
  obtain ⟨lt, vt, ut⟩ := (ordered_iff _).1 ot
  have h' : ∀ v, valueB v = true → inB t v = inB s v := fun v hv => (h v hv).symm
  have fin : s.no = t.no → s.num = t.num → s.lo = t.lo → s.hi = t.hi → (∀ x, x ∈ s.vals ↔ x ∈ t.vals) → s = t := fun a b c d e => by
    have ev := up_ext us ut e
    obtain ⟨m1, a1, b1, v1, l1, i1⟩ := s
    obtain ⟨m2, a2, b2, v2, l2, i2⟩ := t
    simp only at *
    subst a b c d ev hm
    rfl
  rcases ws with ws | ws | ws <;> rcases wt with wt | wt | wt
  · refine fin (ws.1.trans wt.1.symm) (ws.2.1.trans wt.2.1.symm) (ws.2.2.1.trans wt.2.2.1.symm) (ws.2.2.2.trans wt.2.2.2.symm) fun x => ⟨fun hx => ?_, fun hx => ?_⟩
    · have := (in_list ws x).2 hx
      rw [h x (vs x hx)] at this; exact (in_list wt x).1 this
    · have := (in_list wt x).2 hx
      rw [h' x (vt x hx)] at this; exact (in_list ws x).1 this
  · exact (but_not_list ws wt ls lt h).elim
  · exact (nums_not_list ws wt ls h).elim
  · exact (but_not_list wt ws lt ls h').elim
  · refine fin (ws.1.trans wt.1.symm) (ws.2.1.trans wt.2.1.symm) (ws.2.2.1.trans wt.2.2.1.symm) (ws.2.2.2.trans wt.2.2.2.symm) fun x => ⟨fun hx => ?_, fun hx => ?_⟩
    · apply Classical.byContradiction
      intro c
      have := (in_but wt x).2 c
      rw [h' x (vs x hx)] at this; exact (in_but ws x).1 this hx
    · apply Classical.byContradiction
      intro c
      have := (in_but ws x).2 c
      rw [h x (vt x hx)] at this; exact (in_but wt x).1 this hx
  · exact (nums_not_but ws wt ls h).elim
  · exact (nums_not_list wt ws lt h').elim
  · exact (nums_not_but wt ws lt h').elim
  · have a := nums_lo ws wt h
    have b := nums_lo wt ws h'
    have e1 : s.lo = t.lo := by omega
    have e2 : s.hi = t.hi := by omega
    exact fin (ws.1.trans wt.1.symm) (ws.2.1.trans wt.2.1.symm) e1 e2 fun x => ⟨nums_vals ws wt e1 e2 h x, nums_vals wt ws e1.symm e2.symm h' x⟩

end Go.Proofs.YthaldbjnnbllbaaGreatDoor.Val

/- Layer 3, plain mathematics alone: the numbers from one to another but some, as a set. No program is named. -/
namespace Go.Proofs.YthaldbjnnbllbaaGreatDoor.Val
open Suf

/-- From below on, and from above down, past those that are left out. -/
def trimLo (but : List Txt) : Nat → Int → Int
  | 0, lo => lo
  | f + 1, lo => if but.contains (decZ lo) then trimLo but f (lo + 1) else lo
def trimHi (but : List Txt) : Nat → Int → Int
  | 0, hi => hi
  | f + 1, hi => if but.contains (decZ hi) then trimHi but f (hi - 1) else hi
theorem trimLo_spec (but : List Txt) : ∀ (f : Nat) (lo : Int), lo ≤ trimLo but f lo ∧ trimLo but f lo ≤ lo + f ∧ (∀ n, lo ≤ n → n < trimLo but f lo → decZ n ∈ but) ∧ (trimLo but f lo < lo + f → decZ (trimLo but f lo) ∉ but)
  | 0, lo => ⟨Int.le_refl _, by show lo ≤ lo + ((0 : Nat) : Int); omega, fun n h1 h2 => by have : trimLo but 0 lo = lo := rfl; omega, fun h => by have : trimLo but 0 lo = lo := rfl; omega⟩
  | f + 1, lo => by
    unfold trimLo
    by_cases hc : but.contains (decZ lo) = true
    · rw [if_pos hc]
      obtain ⟨h1, h2, h3, h4⟩ := trimLo_spec but f (lo + 1)
      refine ⟨by omega, by omega, fun n a b => ?_, fun h => h4 (by omega)⟩
      by_cases e : n = lo
      · subst e; simpa using hc
      · exact h3 n (by omega) b
    · rw [if_neg hc]
      exact ⟨Int.le_refl _, by omega, fun n a b => by omega, fun _ c => hc (by simpa using c)⟩
theorem trimHi_spec (but : List Txt) : ∀ (f : Nat) (hi : Int), trimHi but f hi ≤ hi ∧ hi - f ≤ trimHi but f hi ∧ (∀ n, n ≤ hi → trimHi but f hi < n → decZ n ∈ but) ∧ (hi - f < trimHi but f hi → decZ (trimHi but f hi) ∉ but)
  | 0, hi => ⟨Int.le_refl _, by show hi - ((0 : Nat) : Int) ≤ hi; omega, fun n h1 h2 => by have : trimHi but 0 hi = hi := rfl; omega, fun h => by have : trimHi but 0 hi = hi := rfl; omega⟩
  | f + 1, hi => by
    unfold trimHi
    by_cases hc : but.contains (decZ hi) = true
    · rw [if_pos hc]
      obtain ⟨h1, h2, h3, h4⟩ := trimHi_spec but f (hi - 1)
      refine ⟨by omega, by omega, fun n a b => ?_, fun h => h4 (by omega)⟩
      by_cases e : n = hi
      · subst e; simpa using hc
      · exact h3 n (by omega) b
    · rw [if_neg hc]
      exact ⟨Int.le_refl _, by omega, fun n a b => by omega, fun _ c => hc (by simpa using c)⟩
def loOf (lo hi : Int) (but : List Txt) : Int := trimLo but (hi - lo + 1).toNat lo
def hiOf (lo hi : Int) (but : List Txt) : Int := trimHi but (hi - loOf lo hi but + 1).toNat hi
def valsOf (lo hi : Int) (but : List Txt) : List Txt := rising (but.filter (within lo hi))
/-- So many numbers from one on. -/
def ints (lo : Int) (k : Nat) : List Int := (List.range k).map fun (i : Nat) => lo + (i : Int)
theorem mem_ints (lo : Int) (k : Nat) (n : Int) : n ∈ ints lo k ↔ lo ≤ n ∧ n < lo + k := by
  unfold ints
  rw [List.mem_map]
  constructor
  · rintro ⟨i, hi, rfl⟩; rw [List.mem_range] at hi; omega
  · rintro ⟨h1, h2⟩; exact ⟨(n - lo).toNat, by rw [List.mem_range]; omega, by omega⟩
theorem nodup_ints (lo : Int) (k : Nat) : (ints lo k).Nodup := nodup_map List.nodup_range fun x y _ _ e => by omega
def listOf (lo hi : Int) (vals : List Txt) : List Txt := rising (((ints lo (hi - lo + 1).toNat).map decZ).filter fun t => !vals.contains t)
def numsAt (lo hi : Int) (but : List Txt) : Option VSet :=
  if hi - lo + 1 - ((valsOf lo hi but).length : Int) ≤ 64 then some ⟨false, false, false, listOf lo hi (valsOf lo hi but), 0, 0⟩
  else if 64 < (valsOf lo hi but).length then none else some ⟨false, true, true, valsOf lo hi but, lo, hi⟩
def numbersO (lo hi : Int) (but : List Txt) : Option VSet := numsAt (loOf lo hi but) (hiOf lo hi but) but

theorem mem_valsOf (lo hi : Int) (but : List Txt) (v : Txt) : v ∈ valsOf lo hi but ↔ v ∈ but ∧ ∃ n, numO v = some n ∧ lo < n ∧ n < hi := by
  unfold valsOf; rw [mem_rising, List.mem_filter, within_iff]
theorem mem_listOf (lo hi : Int) (vals : List Txt) (h0 : -2147483648 ≤ lo) (h1 : hi ≤ 2147483648) (v : Txt) : v ∈ listOf lo hi vals ↔ v ∉ vals ∧ ∃ n, numO v = some n ∧ lo ≤ n ∧ n ≤ hi := by
  unfold listOf
  rw [mem_rising, List.mem_filter, List.mem_map]
  constructor
  · rintro ⟨⟨n, hn, rfl⟩, hc⟩
    rw [mem_ints] at hn
    exact ⟨by simpa using hc, n, numO_dec n (by omega) (by omega), by omega, by omega⟩
  · rintro ⟨hv, n, e, a, b⟩
    obtain ⟨rfl, _, _⟩ := (numO_iff v n).1 e
    exact ⟨⟨n, (mem_ints _ _ _).2 ⟨a, by omega⟩, rfl⟩, by simpa using hv⟩
/-- How many are left. -/
theorem filter_len {α : Type} (p : α → Bool) : ∀ l : List α, (l.filter p).length + (l.filter fun x => !p x).length = l.length
  | [] => rfl
  | a :: l => by
    have ih := filter_len p l
    cases h : p a <;> simp [h] <;> omega
theorem listOf_len (lo hi : Int) (but : List Txt) (h0 : -2147483648 ≤ lo) (h1 : hi ≤ 2147483648) : ((listOf lo hi (valsOf lo hi but)).length : Int) = ((hi - lo + 1).toNat : Int) - ((valsOf lo hi but).length : Int) := by
  have hn : ((ints lo (hi - lo + 1).toNat).map decZ).Nodup := nodup_map (nodup_ints _ _) fun x y hx hy e => by
    rw [mem_ints] at hx hy
    exact decZ_inj x y (by omega) (by omega) e
  have hf := filter_len (fun t => (valsOf lo hi but).contains t) ((ints lo (hi - lo + 1).toNat).map decZ)
  have hlen : ((ints lo (hi - lo + 1).toNat).map decZ).length = (hi - lo + 1).toNat := by unfold ints; simp
  have hv : (((ints lo (hi - lo + 1).toNat).map decZ).filter fun t => (valsOf lo hi but).contains t).length = (valsOf lo hi but).length := by
    refine same_len (hn.sublist List.filter_sublist) (up_nodup (up_rising _)) fun x => ?_
    rw [List.mem_filter, List.mem_map]
    constructor
    · rintro ⟨_, hc⟩; simpa using hc
    · intro hx
      obtain ⟨_, n, e, a, b⟩ := (mem_valsOf lo hi but x).1 hx
      obtain ⟨rfl, _, _⟩ := (numO_iff x n).1 e
      exact ⟨⟨n, (mem_ints _ _ _).2 ⟨by omega, by omega⟩, rfl⟩, by simpa using hx⟩
  have hl : (listOf lo hi (valsOf lo hi but)).length = (((ints lo (hi - lo + 1).toNat).map decZ).filter fun t => !(valsOf lo hi but).contains t).length := len_rising (hn.sublist List.filter_sublist)
  rw [hl]
  rw [hv, hlen] at hf
  omega
theorem up_listOf (lo hi : Int) (vals : List Txt) : Up (listOf lo hi vals) := up_rising _

/-- What is told may be, and it has just the numbers from one to the other but some. -/
theorem numsAt_spec (lo hi : Int) (but : List Txt) (h0 : -2147483648 ≤ lo) (h1 : hi ≤ 2147483648) (s : VSet) (h : numsAt lo hi but = some s) :
    checkB s = true ∧ s.miss = false ∧ ∀ v, inB s v = true ↔ v ∉ valsOf lo hi but ∧ ∃ n, numO v = some n ∧ lo ≤ n ∧ n ≤ hi := by
  unfold numsAt at h
  by_cases hc : hi - lo + 1 - ((valsOf lo hi but).length : Int) ≤ 64
  · rw [if_pos hc] at h
    injection h with h
    subst h
    have hl : isList ⟨false, false, false, listOf lo hi (valsOf lo hi but), 0, 0⟩ := ⟨rfl, rfl, rfl, rfl⟩
    have hlen := listOf_len lo hi but h0 h1
    refine ⟨(check_iff _).2 ⟨(ordered_iff _).2 ⟨?_, fun v hv => ?_, up_listOf _ _ _⟩, Or.inl hl⟩, rfl, fun v => (in_list hl v).trans (mem_listOf lo hi _ h0 h1 v)⟩
    · show (listOf lo hi (valsOf lo hi but)).length ≤ 64
      by_cases hp : lo ≤ hi
      · omega
      · omega
    · obtain ⟨_, n, e, _⟩ := (mem_listOf lo hi _ h0 h1 v).1 hv
      exact num_value e
  · rw [if_neg hc] at h
    by_cases hm : 64 < (valsOf lo hi but).length
    · rw [if_pos hm] at h; cases h
    · rw [if_neg hm] at h
      injection h with h
      subst h
      have hl : isNums ⟨false, true, true, valsOf lo hi but, lo, hi⟩ := ⟨rfl, rfl, h0, h1, by show lo ≤ hi; omega, by show 64 < hi - lo + 1 - ((valsOf lo hi but).length : Int); omega, fun v hv => ((mem_valsOf lo hi but v).1 hv).2⟩
      refine ⟨(check_iff _).2 ⟨(ordered_iff _).2 ⟨by show (valsOf lo hi but).length ≤ 64; omega, fun v hv => ?_, up_rising _⟩, Or.inr (Or.inr hl)⟩, rfl, fun v => in_nums hl v⟩
      obtain ⟨_, n, e, _⟩ := (mem_valsOf lo hi but v).1 hv
      exact num_value e
theorem lo_spec (lo hi : Int) (but : List Txt) (hlh : lo ≤ hi + 1) : lo ≤ loOf lo hi but ∧ loOf lo hi but ≤ hi + 1 ∧ (∀ n, lo ≤ n → n < loOf lo hi but → decZ n ∈ but) ∧ (loOf lo hi but ≤ hi → decZ (loOf lo hi but) ∉ but) := by
  obtain ⟨h1, h2, h3, h4⟩ := trimLo_spec but (hi - lo + 1).toNat lo
  unfold loOf
  exact ⟨h1, by omega, h3, fun h => h4 (by omega)⟩
theorem hi_spec (lo hi : Int) (but : List Txt) (hlh : lo ≤ hi + 1) : hiOf lo hi but ≤ hi ∧ loOf lo hi but - 1 ≤ hiOf lo hi but ∧ (∀ n, n ≤ hi → hiOf lo hi but < n → decZ n ∈ but) ∧ (loOf lo hi but ≤ hiOf lo hi but → decZ (hiOf lo hi but) ∉ but) := by
  obtain ⟨l1, l2, l3, l4⟩ := lo_spec lo hi but hlh
  obtain ⟨h1, h2, h3, h4⟩ := trimHi_spec but (hi - loOf lo hi but + 1).toNat hi
  unfold hiOf
  exact ⟨h1, by omega, h3, fun h => h4 (by omega)⟩
/-- Nothing to trim: there is nothing at all. -/
theorem empty_lo (lo hi : Int) (but : List Txt) (h : hi < lo) : loOf lo hi but = lo ∧ hiOf lo hi but = hi := by
  have e : loOf lo hi but = lo := by unfold loOf; rw [show (hi - lo + 1).toNat = 0 by omega]; rfl
  refine ⟨e, ?_⟩
  unfold hiOf; rw [e, show (hi - lo + 1).toNat = 0 by omega]; rfl
theorem numbers_spec (lo hi : Int) (but : List Txt) (h0 : -2147483648 ≤ lo) (h1 : hi ≤ 2147483648) (s : VSet) (h : numbersO lo hi but = some s) :
    checkB s = true ∧ s.miss = false ∧ ∀ v, inB s v = true ↔ v ∉ but ∧ ∃ n, numO v = some n ∧ lo ≤ n ∧ n ≤ hi := by
  unfold numbersO at h
  by_cases hlh : lo ≤ hi + 1
  · obtain ⟨l1, l2, l3, l4⟩ := lo_spec lo hi but hlh
    obtain ⟨g1, g2, g3, g4⟩ := hi_spec lo hi but hlh
    obtain ⟨a, b, c⟩ := numsAt_spec _ _ but (by omega) (by omega) s h
    refine ⟨a, b, fun v => (c v).trans ⟨?_, ?_⟩⟩
    · rintro ⟨hv, n, e, n1, n2⟩
      refine ⟨fun hb => ?_, n, e, by omega, by omega⟩
      obtain ⟨rfl, _, _⟩ := (numO_iff v n).1 e
      by_cases e1 : n = loOf lo hi but
      · rw [e1] at hb; exact l4 (by omega) hb
      · by_cases e2 : n = hiOf lo hi but
        · rw [e2] at hb; exact g4 (by omega) hb
        · exact hv ((mem_valsOf _ _ _ _).2 ⟨hb, n, e, by omega, by omega⟩)
    · rintro ⟨hv, n, e, n1, n2⟩
      obtain ⟨rfl, _, _⟩ := (numO_iff v n).1 e
      refine ⟨fun hb => hv ((mem_valsOf _ _ _ _).1 hb).1, n, e, ?_, ?_⟩
      · apply Classical.byContradiction
        intro hc
        exact hv (l3 n n1 (by omega))
      · apply Classical.byContradiction
        intro hc
        exact hv (g3 n n2 (by omega))
  · obtain ⟨e1, e2⟩ := empty_lo lo hi but (by omega)
    rw [e1, e2] at h
    obtain ⟨a, b, c⟩ := numsAt_spec _ _ but h0 h1 s h
    refine ⟨a, b, fun v => (c v).trans ⟨?_, ?_⟩⟩
    · rintro ⟨hv, n, e, n1, n2⟩; omega
    · rintro ⟨hv, n, e, n1, n2⟩; omega
/-- What is left out counts as a set of texts alone. -/
theorem contains_congr {b c : List Txt} (h : ∀ x, x ∈ b ↔ x ∈ c) (x : Txt) : b.contains x = c.contains x := by
  rw [Bool.eq_iff_iff]; simpa using h x
theorem trimLo_congr {b c : List Txt} (h : ∀ x, x ∈ b ↔ x ∈ c) : ∀ (f : Nat) (lo : Int), trimLo b f lo = trimLo c f lo
  | 0, _ => rfl
  | f + 1, lo => by unfold trimLo; rw [contains_congr h, trimLo_congr h f]
theorem trimHi_congr {b c : List Txt} (h : ∀ x, x ∈ b ↔ x ∈ c) : ∀ (f : Nat) (hi : Int), trimHi b f hi = trimHi c f hi
  | 0, _ => rfl
  | f + 1, hi => by unfold trimHi; rw [contains_congr h, trimHi_congr h f]
theorem numbers_congr {b c : List Txt} (h : ∀ x, x ∈ b ↔ x ∈ c) (lo hi : Int) : numbersO lo hi b = numbersO lo hi c := by
  have e1 : loOf lo hi b = loOf lo hi c := trimLo_congr h _ _
  have e2 : hiOf lo hi b = hiOf lo hi c := by unfold hiOf; rw [e1]; exact trimHi_congr h _ _
  have e3 : ∀ l i, valsOf l i b = valsOf l i c := fun l i => rising_congr fun x => by rw [List.mem_filter, List.mem_filter, h]
  unfold numbersO numsAt
  rw [e1, e2, e3]

end Go.Proofs.YthaldbjnnbllbaaGreatDoor.Val

/- Layer 3, plain mathematics alone: where two sets meet; what a requirement admits. No program is named. -/
namespace Go.Proofs.YthaldbjnnbllbaaGreatDoor.Val
open Suf

def zeroS : VSet := ⟨false, false, false, [], 0, 0⟩
def listedS (l : List Txt) (b : VSet) : VSet := ⟨false, false, false, l.filter (hasB b), 0, 0⟩
def butS (l : List Txt) : Option VSet := if l.length ≤ 64 then some ⟨false, true, false, l, 0, 0⟩ else none
def bothLo (a b : Int) : Int := if a < b then b else a
def bothHi (a b : Int) : Int := if b < a then b else a
/-- Where two sets that may be meet, but for Miss. -/
def meetO (a b : VSet) : Option VSet :=
  if a.no = false then some (listedS a.vals b)
  else if b.no = false then some (listedS b.vals a)
  else if a.num = false ∧ b.num = false then butS (rising (a.vals ++ b.vals))
  else if a.num = false then numbersO b.lo b.hi (rising (a.vals ++ b.vals))
  else if b.num = false then numbersO a.lo a.hi (rising (a.vals ++ b.vals))
  else numbersO (bothLo a.lo b.lo) (bothHi a.hi b.hi) (rising (a.vals ++ b.vals))
def setMiss (s : VSet) (m : Bool) : VSet := ⟨m, s.no, s.num, s.vals, s.lo, s.hi⟩
/-- The answer of Meet: a set and an error. -/
def meetR (a b : VSet) : VSet × Int :=
  if checkB a = false then (zeroS, 1) else if checkB b = false then (zeroS, 1)
  else match meetO a b with | some s => (setMiss s (a.miss && b.miss), 0) | none => (zeroS, 3)

theorem check_miss (s : VSet) (m : Bool) : checkB (setMiss s m) = checkB s := rfl
theorem in_miss (s : VSet) (m : Bool) (v : Txt) : inB (setMiss s m) v = inB s v := rfl
theorem has_in {s : VSet} (h : checkB s = true) (v : Txt) (hv : valueB v = true) : hasB s v = inB s v := by unfold hasB; rw [h, hv]; rfl
theorem listed_spec {a b : VSet} (ha : checkB a = true) (hl : isList a) (hb : checkB b = true) :
    checkB (listedS a.vals b) = true ∧ ∀ v, valueB v = true → (inB (listedS a.vals b) v = true ↔ inB a v = true ∧ inB b v = true) := by
  obtain ⟨oa, _⟩ := (check_iff a).1 ha
  obtain ⟨la, va, ua⟩ := (ordered_iff _).1 oa
  have hl2 : isList (listedS a.vals b) := ⟨rfl, rfl, rfl, rfl⟩
  refine ⟨(check_iff _).2 ⟨(ordered_iff _).2 ⟨?_, fun v hv => va v (List.mem_filter.1 hv).1, up_filter _ ua⟩, Or.inl hl2⟩, fun v hv => ?_⟩
  · have := List.length_filter_le (hasB b) a.vals
    show (a.vals.filter (hasB b)).length ≤ 64
    omega
  · rw [in_list hl2, in_list hl]
    show v ∈ a.vals.filter (hasB b) ↔ _
    rw [List.mem_filter, has_in hb v hv]
theorem no_list {s : VSet} (h : checkB s = true) (hn : s.no = false) : isList s := by
  rcases ((check_iff s).1 h).2 with w | w | w
  · exact w
  · rw [w.1] at hn; cases hn
  · rw [w.1] at hn; cases hn
theorem no_but {s : VSet} (h : checkB s = true) (hn : ¬ s.no = false) (hm : s.num = false) : isBut s := by
  rcases ((check_iff s).1 h).2 with w | w | w
  · exact absurd w.1 hn
  · exact w
  · rw [w.2.1] at hm; cases hm
theorem no_nums {s : VSet} (h : checkB s = true) (hm : ¬ s.num = false) : isNums s := by
  rcases ((check_iff s).1 h).2 with w | w | w
  · exact absurd w.2.1 hm
  · exact absurd w.2.1 hm
  · exact w
theorem mem_both (a b : List Txt) (v : Txt) : v ∉ rising (a ++ b) ↔ v ∉ a ∧ v ∉ b := by
  rw [mem_rising, List.mem_append]; exact not_or
/-- What is told may be; it has what both have. -/
theorem meetO_spec {a b c : VSet} (ha : checkB a = true) (hb : checkB b = true) (h : meetO a b = some c) :
    checkB c = true ∧ ∀ v, valueB v = true → (inB c v = true ↔ inB a v = true ∧ inB b v = true) := by
  unfold meetO at h
  by_cases ha0 : a.no = false
  · rw [if_pos ha0] at h
    injection h with h; subst h
    exact listed_spec ha (no_list ha ha0) hb
  · rw [if_neg ha0] at h
    by_cases hb0 : b.no = false
    · rw [if_pos hb0] at h
      injection h with h; subst h
      have := listed_spec hb (no_list hb hb0) ha
      exact ⟨this.1, fun v hv => (this.2 v hv).trans And.comm⟩
    · rw [if_neg hb0] at h
      by_cases ha1 : a.num = false
      · have wa := no_but ha ha0 ha1
        by_cases hb1 : b.num = false
        · have wb := no_but hb hb0 hb1
          rw [if_pos ⟨ha1, hb1⟩] at h
          unfold butS at h
          by_cases hl : (rising (a.vals ++ b.vals)).length ≤ 64
          · rw [if_pos hl] at h
            injection h with h; subst h
            have w : isBut ⟨false, true, false, rising (a.vals ++ b.vals), 0, 0⟩ := ⟨rfl, rfl, rfl, rfl⟩
            refine ⟨(check_iff _).2 ⟨(ordered_iff _).2 ⟨hl, fun v hv => ?_, up_rising _⟩, Or.inr (Or.inl w)⟩, fun v _ => ?_⟩
            · rw [mem_rising, List.mem_append] at hv
              rcases hv with hv | hv
              · exact ((ordered_iff _).1 ((check_iff a).1 ha).1).2.1 v hv
              · exact ((ordered_iff _).1 ((check_iff b).1 hb).1).2.1 v hv
            · rw [in_but w, in_but wa, in_but wb]; exact mem_both _ _ _
          · rw [if_neg hl] at h; cases h
        · have wb := no_nums hb hb1
          rw [if_neg (fun c => hb1 c.2), if_pos ha1] at h
          obtain ⟨x, _, z⟩ := numbers_spec _ _ _ wb.2.2.1 wb.2.2.2.1 c h
          refine ⟨x, fun v _ => ?_⟩
          rw [z, in_but wa, in_nums wb, mem_both]
          exact ⟨fun ⟨⟨p, q⟩, r⟩ => ⟨p, q, r⟩, fun ⟨p, q, r⟩ => ⟨⟨p, q⟩, r⟩⟩
      · have wa := no_nums ha ha1
        rw [if_neg (fun c => ha1 c.1), if_neg ha1] at h
        by_cases hb1 : b.num = false
        · have wb := no_but hb hb0 hb1
          rw [if_pos hb1] at h
          obtain ⟨x, _, z⟩ := numbers_spec _ _ _ wa.2.2.1 wa.2.2.2.1 c h
          refine ⟨x, fun v _ => ?_⟩
          rw [z, in_but wb, in_nums wa, mem_both]
          exact ⟨fun ⟨⟨p, q⟩, r⟩ => ⟨⟨p, r⟩, q⟩, fun ⟨⟨p, r⟩, q⟩ => ⟨⟨p, q⟩, r⟩⟩
        · have wb := no_nums hb hb1
          rw [if_neg hb1] at h
          have b0 : -2147483648 ≤ bothLo a.lo b.lo := by
            have := wa.2.2.1; have := wb.2.2.1; unfold bothLo; split <;> omega
          have b1 : bothHi a.hi b.hi ≤ 2147483648 := by
            have := wa.2.2.2.1; have := wb.2.2.2.1; unfold bothHi; split <;> omega
          obtain ⟨x, _, z⟩ := numbers_spec _ _ _ b0 b1 c h
          refine ⟨x, fun v _ => ?_⟩
          rw [z, in_nums wa, in_nums wb, mem_both]
          have elo : ∀ n, bothLo a.lo b.lo ≤ n ↔ a.lo ≤ n ∧ b.lo ≤ n := fun n => by unfold bothLo; split <;> omega
          have ehi : ∀ n, n ≤ bothHi a.hi b.hi ↔ n ≤ a.hi ∧ n ≤ b.hi := fun n => by unfold bothHi; split <;> omega
          constructor
          · rintro ⟨⟨p, q⟩, n, e, r, t⟩
            rw [elo] at r; rw [ehi] at t
            exact ⟨⟨p, n, e, r.1, t.1⟩, ⟨q, n, e, r.2, t.2⟩⟩
          · rintro ⟨⟨p, n, e, r, t⟩, ⟨q, m, f, r2, t2⟩⟩
            rw [e] at f; injection f with f; subst f
            exact ⟨⟨p, q⟩, n, e, (elo n).2 ⟨r, r2⟩, (ehi n).2 ⟨t, t2⟩⟩
theorem numbers_miss {lo hi : Int} {but : List Txt} {s : VSet} (h : numbersO lo hi but = some s) : s.miss = false := by
  unfold numbersO numsAt at h
  split at h
  · injection h with h; subst h; rfl
  · split at h
    · cases h
    · injection h with h; subst h; rfl
theorem meetO_miss {a b c : VSet} (h : meetO a b = some c) : c.miss = false := by
  unfold meetO at h
  split at h
  · injection h with h; subst h; rfl
  · split at h
    · injection h with h; subst h; rfl
    · split at h
      · unfold butS at h
        split at h
        · injection h with h; subst h; rfl
        · cases h
      · split at h
        · exact numbers_miss h
        · split at h
          · exact numbers_miss h
          · exact numbers_miss h
theorem turn_mem (a b : List Txt) (x : Txt) : x ∈ rising (a ++ b) ↔ x ∈ rising (b ++ a) := by
  rw [mem_rising, mem_rising, List.mem_append, List.mem_append]; exact Or.comm
/-- The order of two doesn't matter. -/
theorem meetO_comm {a b : VSet} (ha : checkB a = true) (hb : checkB b = true) : meetO a b = meetO b a := by
  have hr : rising (a.vals ++ b.vals) = rising (b.vals ++ a.vals) := rising_congr fun x => by rw [List.mem_append, List.mem_append]; exact Or.comm
  by_cases ha0 : a.no = false
  · by_cases hb0 : b.no = false
    · have e1 : meetO a b = some (listedS a.vals b) := by unfold meetO; rw [if_pos ha0]
      have e2 : meetO b a = some (listedS b.vals a) := by unfold meetO; rw [if_pos hb0]
      have s1 := meetO_spec ha hb e1
      have s2 := meetO_spec hb ha e2
      rw [e1, e2]
      refine congrArg some (set_ext s1.1 s2.1 rfl fun v hv => ?_)
      rw [Bool.eq_iff_iff, s1.2 v hv, s2.2 v hv]; exact And.comm
    · unfold meetO; rw [if_pos ha0, if_neg hb0, if_pos ha0]
  · by_cases hb0 : b.no = false
    · unfold meetO; rw [if_neg ha0, if_pos hb0, if_pos hb0]
    · unfold meetO
      rw [if_neg ha0, if_neg hb0, if_neg hb0, if_neg ha0, hr]
      by_cases ha1 : a.num = false
      · by_cases hb1 : b.num = false
        · rw [if_pos ⟨ha1, hb1⟩, if_pos ⟨hb1, ha1⟩]
        · rw [if_neg (fun c => hb1 c.2), if_pos ha1, if_neg (fun c => hb1 c.1), if_neg hb1, if_pos ha1]
      · by_cases hb1 : b.num = false
        · rw [if_neg (fun c => ha1 c.1), if_neg ha1, if_pos hb1, if_neg (fun c => ha1 c.2), if_pos hb1]
        · rw [if_neg (fun c => ha1 c.1), if_neg ha1, if_neg hb1, if_neg (fun c => ha1 c.2), if_neg hb1, if_neg ha1]
          have e1 : bothLo a.lo b.lo = bothLo b.lo a.lo := by unfold bothLo; split <;> split <;> omega
          have e2 : bothHi a.hi b.hi = bothHi b.hi a.hi := by unfold bothHi; split <;> split <;> omega
          rw [e1, e2]
theorem meetR_comm (a b : VSet) : meetR a b = meetR b a := by
  unfold meetR
  cases ha : checkB a <;> cases hb : checkB b <;> simp
  rw [meetO_comm ha hb, Bool.and_comm]
/-- Numbers with what stands between them left out are told. -/
theorem numbers_told {s : VSet} (h : checkB s = true) (w : isNums s) (but : List Txt) (hbut : ∀ x, x ∈ but ↔ x ∈ s.vals) : ∃ c, numbersO s.lo s.hi but = some c := by
  obtain ⟨_, _, h0, h1, h2, h3, h4⟩ := id w
  obtain ⟨l1, l2, l3, l4⟩ := lo_spec s.lo s.hi but (by omega)
  obtain ⟨g1, g2, g3, g4⟩ := hi_spec s.lo s.hi but (by omega)
  have nlo : decZ s.lo ∉ but := fun c => by
    obtain ⟨n, e, hn, _⟩ := h4 _ ((hbut _).1 c)
    rw [numO_dec s.lo h0 (by omega)] at e; injection e with e; omega
  have nhi : decZ s.hi ∉ but := fun c => by
    obtain ⟨n, e, _, hn⟩ := h4 _ ((hbut _).1 c)
    rw [numO_dec s.hi (by omega) h1] at e; injection e with e; omega
  have elo : loOf s.lo s.hi but = s.lo := by
    apply Classical.byContradiction
    intro c
    exact nlo (l3 s.lo (Int.le_refl _) (by omega))
  have ehi : hiOf s.lo s.hi but = s.hi := by
    apply Classical.byContradiction
    intro c
    exact nhi (g3 s.hi (Int.le_refl _) (by omega))
  have hv : (valsOf s.lo s.hi but).length ≤ 64 := by
    have e : valsOf s.lo s.hi but = s.vals := up_ext (up_rising _) ((ordered_iff _).1 ((check_iff s).1 h).1).2.2 fun x => by
      rw [mem_valsOf, hbut]
      exact ⟨fun c => c.1, fun c => ⟨c, h4 x c⟩⟩
    rw [e]; exact ((ordered_iff _).1 ((check_iff s).1 h).1).1
  unfold numbersO numsAt
  rw [elo, ehi]
  split
  · exact ⟨_, rfl⟩
  · rw [if_neg (by omega)]; exact ⟨_, rfl⟩
/-- A set meets itself in itself. -/
theorem meetO_self {a : VSet} (ha : checkB a = true) : ∃ c, meetO a a = some c ∧ setMiss c a.miss = a := by
  have hself : ∀ x, x ∈ rising (a.vals ++ a.vals) ↔ x ∈ a.vals := fun x => by rw [mem_rising, List.mem_append]; exact or_self_iff
  have told : ∃ c, meetO a a = some c := by
    unfold meetO
    by_cases ha0 : a.no = false
    · rw [if_pos ha0]; exact ⟨_, rfl⟩
    · rw [if_neg ha0, if_neg ha0]
      by_cases ha1 : a.num = false
      · rw [if_pos ⟨ha1, ha1⟩]
        have e : rising (a.vals ++ a.vals) = a.vals := up_ext (up_rising _) ((ordered_iff _).1 ((check_iff a).1 ha).1).2.2 hself
        unfold butS
        rw [e, if_pos ((ordered_iff _).1 ((check_iff a).1 ha).1).1]; exact ⟨_, rfl⟩
      · rw [if_neg (fun c => ha1 c.1), if_neg ha1, if_neg ha1]
        have e1 : bothLo a.lo a.lo = a.lo := by unfold bothLo; split <;> rfl
        have e2 : bothHi a.hi a.hi = a.hi := by unfold bothHi; split <;> rfl
        rw [e1, e2]
        exact numbers_told ha (no_nums ha ha1) _ hself
  obtain ⟨c, hc⟩ := told
  have hs := meetO_spec ha ha hc
  refine ⟨c, hc, set_ext (s := setMiss c a.miss) (t := a) hs.1 ha rfl fun v hv => ?_⟩
  rw [Bool.eq_iff_iff, in_miss, hs.2 v hv]; exact and_self_iff
theorem meetR_self {a : VSet} (ha : checkB a = true) : meetR a a = (a, 0) := by
  obtain ⟨c, hc, e⟩ := meetO_self ha
  unfold meetR
  rw [if_neg (by rw [ha]; decide), if_neg (by rw [ha]; decide), hc, Bool.and_self]
  simp only [e]
theorem meetR_ok {a b c : VSet} (h : meetR a b = (c, 0)) : checkB a = true ∧ checkB b = true ∧ ∃ d, meetO a b = some d ∧ c = setMiss d (a.miss && b.miss) := by
  unfold meetR at h
  cases ha : checkB a <;> cases hb : checkB b <;> simp [ha, hb] at h
  refine ⟨rfl, rfl, ?_⟩
  cases hm : meetO a b with
  | none => rw [hm] at h; simp at h
  | some d => rw [hm] at h; simp at h; exact ⟨d, rfl, h.symm⟩
/-- What is told: it may be, has what both have, and may miss if both may. -/
theorem meetR_spec {a b c : VSet} (h : meetR a b = (c, 0)) : checkB c = true ∧ c.miss = (a.miss && b.miss) ∧ ∀ v, hasB c v = (hasB a v && hasB b v) := by
  obtain ⟨ha, hb, d, hd, rfl⟩ := meetR_ok h
  have hs := meetO_spec ha hb hd
  have hc : checkB (setMiss d (a.miss && b.miss)) = true := hs.1
  refine ⟨hc, rfl, fun v => ?_⟩
  cases hv : valueB v with
  | false => unfold hasB; rw [hv]; simp
  | true =>
    rw [has_in hc v hv, has_in ha v hv, has_in hb v hv, in_miss, Bool.eq_iff_iff, Bool.and_eq_true]
    exact hs.2 v hv
/-- Which two are taken first doesn't matter, where all is told. -/
theorem meetR_assoc {a b c ab bc x y : VSet} (h1 : meetR a b = (ab, 0)) (h2 : meetR b c = (bc, 0)) (h3 : meetR ab c = (x, 0)) (h4 : meetR a bc = (y, 0)) : x = y := by
  obtain ⟨_, m1, s1⟩ := meetR_spec h1
  obtain ⟨_, m2, s2⟩ := meetR_spec h2
  obtain ⟨c3, m3, s3⟩ := meetR_spec h3
  obtain ⟨c4, m4, s4⟩ := meetR_spec h4
  refine set_ext c3 c4 (by rw [m3, m4, m1, m2, Bool.and_assoc]) fun v hv => ?_
  rw [← has_in c3 v hv, ← has_in c4 v hv, s3, s4, s1, s2, Bool.and_assoc]

/-! What a requirement admits. -/
structure VReq where
  key : Txt
  op : Int
  vals : List Txt
  n : Int
def nodupB : List Txt → List Txt → Bool
  | _, [] => true
  | seen, v :: l => !seen.contains v && nodupB (seen ++ [v]) l
def wrongR (r : VReq) : Int :=
  if nameB r.key = false then 7
  else if r.op < 1 ∨ 6 < r.op ∨ (decide (r.op = 1 ∨ r.op = 2) != decide (0 < r.vals.length)) = true ∨ (¬ (r.op = 5 ∨ r.op = 6) ∧ ¬ r.n = 0) ∨ r.n < -2147483648 ∨ 2147483648 < r.n then 30
  else if 8 < r.vals.length then 3
  else if r.vals.all valueB = false then 20
  else if nodupB [] r.vals = false then 6
  else 0
def ofSet (r : VReq) : VSet :=
  if r.op = 1 then ⟨false, false, false, rising r.vals, 0, 0⟩
  else if r.op = 2 then ⟨true, true, false, rising r.vals, 0, 0⟩
  else if r.op = 3 then ⟨false, true, false, [], 0, 0⟩
  else if r.op = 4 then ⟨true, false, false, [], 0, 0⟩
  else if r.op = 5 then (numbersO (r.n + 1) 2147483648 []).getD zeroS
  else (numbersO (-2147483648) (r.n - 1) []).getD zeroS
def ofR (r : VReq) : VSet × Int := if wrongR r = 0 then (ofSet r, 0) else (zeroS, wrongR r)
theorem numbers_nil (lo hi : Int) : ∃ c, numbersO lo hi [] = some c := by
  unfold numbersO numsAt
  have e : ∀ l i, valsOf l i [] = [] := fun _ _ => rfl
  rw [e]
  split
  · exact ⟨_, rfl⟩
  · rw [if_neg (by decide)]; exact ⟨_, rfl⟩
/-- What the words of a requirement say. -/
def wantR (r : VReq) (v : Txt) : Bool :=
  if r.op = 1 then r.vals.contains v
  else if r.op = 2 then valueB v && !r.vals.contains v
  else if r.op = 3 then valueB v
  else if r.op = 5 then (match numO v with | some n => decide (r.n < n) | none => false)
  else if r.op = 6 then (match numO v with | some n => decide (n < r.n) | none => false)
  else false
theorem wrong_ok {r : VReq} (h : wrongR r = 0) : 1 ≤ r.op ∧ r.op ≤ 6 ∧ -2147483648 ≤ r.n ∧ r.n ≤ 2147483648 ∧ r.vals.length ≤ 8 ∧ ∀ v ∈ r.vals, valueB v = true := by
  unfold wrongR at h
  split at h
  · cases h
  · split at h
    · cases h
    · rename_i h2
      split at h
      · cases h
      · split at h
        · cases h
        · rename_i h4
          refine ⟨by omega, by omega, by omega, by omega, by omega, ?_⟩
          have : r.vals.all valueB = true := by simpa using h4
          exact List.all_eq_true.1 this
theorem list_check (l : List Txt) (m : Bool) (h8 : l.length ≤ 8) (hv : ∀ v ∈ l, valueB v = true) (n : Bool) : checkB ⟨m, n, false, rising l, 0, 0⟩ = true := by
  refine (check_iff _).2 ⟨(ordered_iff _).2 ⟨?_, fun v hx => hv v ((mem_rising l v).1 hx), up_rising _⟩, ?_⟩
  · show (rising l).length ≤ 64
    have := nodup_len (up_nodup (up_rising l)) (m := l) fun x => (mem_rising l x).1
    omega
  · cases n
    · exact Or.inl ⟨rfl, rfl, rfl, rfl⟩
    · exact Or.inr (Or.inl ⟨rfl, rfl, rfl, rfl⟩)
/-- What a requirement admits is what its words say. -/
theorem of_spec {r : VReq} (h : wrongR r = 0) : checkB (ofSet r) = true ∧ (ofSet r).miss = decide (r.op = 2 ∨ r.op = 4) ∧ ∀ v, hasB (ofSet r) v = wantR r v := by
  obtain ⟨o1, o6, n0, n1, l8, vv⟩ := wrong_ok h
  unfold ofSet wantR
  by_cases e1 : r.op = 1
  · rw [if_pos e1]
    have hc := list_check r.vals false l8 vv false
    refine ⟨hc, by rw [e1]; rfl, fun v => ?_⟩
    rw [if_pos e1, Bool.eq_iff_iff, has_iff, in_list (s := ⟨false, false, false, rising r.vals, 0, 0⟩) ⟨rfl, rfl, rfl, rfl⟩, List.contains_iff_mem]
    show _ ∧ _ ∧ v ∈ rising r.vals ↔ _
    rw [mem_rising]
    exact ⟨fun x => x.2.2, fun x => ⟨hc, vv v x, x⟩⟩
  · rw [if_neg e1]
    by_cases e2 : r.op = 2
    · rw [if_pos e2]
      have hc := list_check r.vals true l8 vv true
      refine ⟨hc, by rw [e2]; rfl, fun v => ?_⟩
      rw [if_neg e1, if_pos e2, Bool.eq_iff_iff, has_iff, in_but (s := ⟨true, true, false, rising r.vals, 0, 0⟩) ⟨rfl, rfl, rfl, rfl⟩]
      show _ ∧ _ ∧ v ∉ rising r.vals ↔ _
      rw [mem_rising, Bool.and_eq_true]
      exact ⟨fun x => ⟨x.2.1, by simpa using x.2.2⟩, fun x => ⟨hc, x.1, by simpa using x.2⟩⟩
    · rw [if_neg e2]
      by_cases e3 : r.op = 3
      · rw [if_pos e3]
        have hc : checkB ⟨false, true, false, [], 0, 0⟩ = true := by decide
        refine ⟨hc, by rw [e3]; rfl, fun v => ?_⟩
        rw [if_neg e1, if_neg e2, if_pos e3, Bool.eq_iff_iff, has_iff, in_but (s := ⟨false, true, false, [], 0, 0⟩) ⟨rfl, rfl, rfl, rfl⟩]
        exact ⟨fun x => x.2.1, fun x => ⟨hc, x, by simp⟩⟩
      · rw [if_neg e3]
        by_cases e4 : r.op = 4
        · rw [if_pos e4]
          have hc : checkB ⟨true, false, false, [], 0, 0⟩ = true := by decide
          refine ⟨hc, by rw [e4]; rfl, fun v => ?_⟩
          rw [if_neg e1, if_neg e2, if_neg e3, if_neg (by omega), if_neg (by omega), Bool.eq_iff_iff, has_iff, in_list (s := ⟨true, false, false, [], 0, 0⟩) ⟨rfl, rfl, rfl, rfl⟩]
          exact ⟨fun x => absurd x.2.2 (by simp), fun x => by cases x⟩
        · rw [if_neg e4]
          by_cases e5 : r.op = 5
          · rw [if_pos e5]
            obtain ⟨c, hc⟩ := numbers_nil (r.n + 1) 2147483648
            rw [hc]
            obtain ⟨k, m, i⟩ := numbers_spec _ _ _ (by omega) (by omega) c hc
            refine ⟨k, by show c.miss = _; rw [m, e5]; rfl, fun v => ?_⟩
            show hasB c v = _
            rw [if_neg e1, if_neg e2, if_neg e3, if_pos e5, Bool.eq_iff_iff, has_iff, i]
            constructor
            · rintro ⟨_, _, _, n, e, a, _⟩; rw [e]; simp; omega
            · intro x
              cases e : numO v with
              | none => rw [e] at x; cases x
              | some n =>
                rw [e] at x
                have := ((numO_iff v n).1 e).2
                exact ⟨k, num_value e, by simp, n, rfl, by simp at x; omega, this.2⟩
          · rw [if_neg e5]
            have e6 : r.op = 6 := by omega
            obtain ⟨c, hc⟩ := numbers_nil (-2147483648) (r.n - 1)
            rw [hc]
            obtain ⟨k, m, i⟩ := numbers_spec _ _ _ (by omega) (by omega) c hc
            refine ⟨k, by show c.miss = _; rw [m, e6]; rfl, fun v => ?_⟩
            show hasB c v = _
            rw [if_neg e1, if_neg e2, if_neg e3, if_neg e5, if_pos e6, Bool.eq_iff_iff, has_iff, i]
            constructor
            · rintro ⟨_, _, _, n, e, _, a⟩; rw [e]; simp; omega
            · intro x
              cases e : numO v with
              | none => rw [e] at x; cases x
              | some n =>
                rw [e] at x
                have := ((numO_iff v n).1 e).2
                exact ⟨k, num_value e, by simp, n, rfl, this.1, by simp at x; omega⟩

end Go.Proofs.YthaldbjnnbllbaaGreatDoor.Val
