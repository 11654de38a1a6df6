/- Layer 3,plain mathematics alone: texts in their order,lists that rise,a text laid among them. No program is named. -/
import Derived.Below
namespace Go.Proofs.YtfpfdnapamdhjaaGreatDoor.Val

abbrev Txt := List UInt8
/-- Byte by byte. -/
def lt (a b : Txt) : Bool := Go.Op.bytesLess a b
theorem lt_nil (a : Txt) : lt a [] = false := by unfold lt; cases a <;> rfl
theorem lt_cons (a b : UInt8) (x y : Txt) : lt (a :: x) (b :: y) = (decide (a < b) || (a == b && lt x y)) := rfl
theorem lt_irrefl : ∀ a : Txt,lt a a = false
  | [] => rfl
  | c :: a => by rw [lt_cons,lt_irrefl a]; simp [UInt8.lt_irrefl]
theorem lt_trans : ∀ {a b c : Txt},lt a b = true -> lt b c = true -> lt a c = true
  | _,_,[],_,h => by rw [lt_nil] at h; cases h
  | _,[],_,h,_ => by rw [lt_nil] at h; cases h
  | [],_ :: _,_ :: _,_,_ => rfl
  | a :: x,b :: y,c :: z,h1,h2 => by
    rw [lt_cons,Bool.or_eq_true,Bool.and_eq_true,decide_eq_true_eq,beq_iff_eq] at *
    rcases h1 with h1 | ⟨h1,h1'⟩ <;> rcases h2 with h2 | ⟨h2,h2'⟩
    · exact Or.inl (UInt8.lt_trans h1 h2)
    · subst h2; exact Or.inl h1
    · subst h1; exact Or.inl h2
    · subst h1 h2; exact Or.inr ⟨rfl,lt_trans h1' h2'⟩
theorem lt_total : ∀ a b : Txt,lt a b = true ∨ a = b ∨ lt b a = true
  | [],[] => Or.inr (Or.inl rfl)
  | [],_ :: _ => Or.inl rfl
  | _ :: _,[] => Or.inr (Or.inr rfl)
  | a :: x,b :: y => by
    rw [lt_cons,lt_cons]
    rcases UInt8.lt_or_lt_of_ne (a := a) (b := b) |> fun f => (Classical.em (a = b)).elim (fun e => Or.inl e) (fun n => Or.inr (f n)) with e | h | h
    · subst e
      rcases lt_total x y with h | h | h
      · left; simp [h]
      · right; left; rw [h]
      · right; right; simp [h]
    · left; simp [h]
    · right; right; simp [h]
theorem lt_asymm {a b : Txt} (h : lt a b = true) : lt b a = false := by
  cases hb : lt b a with
  | false => rfl
  | true => have := lt_trans h hb; rw [lt_irrefl] at this; cases this
theorem lt_ne {a b : Txt} (h : lt a b = true) : ¬ a = b := by
  rintro rfl; rw [lt_irrefl] at h; cases h

/-- A list that rises. -/
def Up (l : List Txt) : Prop := l.Pairwise fun a b => lt a b = true
def rises : List Txt -> Bool
  | a :: b :: l => lt a b && rises (b :: l)
  | _ => true
theorem up_nodup {l : List Txt} (h : Up l) : l.Nodup := List.Pairwise.imp (fun h => lt_ne h) h
/-- Lists that rise and have the same members are the same. -/
theorem up_ext : ∀ {l m : List Txt},Up l -> Up m -> (∀ x,x ∈ l ↔ x ∈ m) -> l = m
  | [],[],_,_,_ => rfl
  | [],b :: m,_,_,h => absurd ((h b).2 (by simp)) (by simp)
  | a :: l,[],_,_,h => absurd ((h a).1 (by simp)) (by simp)
  | a :: l,b :: m,hl,hm,h => by
    obtain ⟨la,hl'⟩ := List.pairwise_cons.1 hl
    obtain ⟨mb,hm'⟩ := List.pairwise_cons.1 hm
    have hab : a = b := by
      rcases List.mem_cons.1 ((h a).1 (by simp)) with e | ha
      · exact e
      · rcases List.mem_cons.1 ((h b).2 (by simp)) with e | hb
        · exact e.symm
        · have h1 := mb a ha
          have h2 := la b hb
          have := lt_trans h1 h2
          rw [lt_irrefl] at this; cases this
    subst hab
    have hrest : l = m := up_ext hl' hm' fun x => by
      constructor
      · intro hx
        rcases List.mem_cons.1 ((h x).1 (by simp [hx])) with e | hx'
        · subst e; have := la x hx; rw [lt_irrefl] at this; cases this
        · exact hx'
      · intro hx
        rcases List.mem_cons.1 ((h x).2 (by simp [hx])) with e | hx'
        · subst e; have := mb x hx; rw [lt_irrefl] at this; cases this
        · exact hx'
    rw [hrest]

/-- A text laid among others. -/
def put : List Txt -> Txt -> List Txt
  | [],s => [s]
  | a :: l,s => if lt a s then a :: put l s else if a = s then a :: l else s :: a :: l
theorem mem_put (s x : Txt) : ∀ l : List Txt,x ∈ put l s ↔ x = s ∨ x ∈ l
  | [] => by simp [put]
  | a :: l => by
    unfold put
    split
    · rw [List.mem_cons,mem_put s x l,List.mem_cons]
      constructor
      · rintro (h | h | h)
        · exact Or.inr (Or.inl h)
        · exact Or.inl h
        · exact Or.inr (Or.inr h)
      · rintro (h | h | h)
        · exact Or.inr (Or.inl h)
        · exact Or.inl h
        · exact Or.inr (Or.inr h)
    · split
      · rename_i e; subst e
        constructor
        · exact Or.inr
        · rintro (h | h)
          · subst h; simp
          · exact h
      · exact List.mem_cons
theorem up_put (s : Txt) : ∀ {l : List Txt},Up l -> Up (put l s)
  | [],_ => by simp [put,Up]
  | a :: l,h => by
    obtain ⟨ha,hl⟩ := List.pairwise_cons.1 h
    unfold put
    split
    · rename_i c
      refine List.pairwise_cons.2 ⟨fun x hx => ?_,up_put s hl⟩
      rcases (mem_put s x l).1 hx with rfl | hx
      · exact c
      · exact ha x hx
    · split
      · exact h
      · rename_i c e
        have hs : lt s a = true := by
          rcases lt_total a s with h1 | h1 | h1
          · exact absurd h1 c
          · exact absurd h1 e
          · exact h1
        refine List.pairwise_cons.2 ⟨fun x hx => ?_,h⟩
        rcases List.mem_cons.1 hx with rfl | hx
        · exact hs
        · exact lt_trans hs (ha x hx)
def rising (l : List Txt) : List Txt := l.foldl put []
theorem fold_put : ∀ (l acc : List Txt),Up acc -> Up (l.foldl put acc) /\ ∀ x,x ∈ l.foldl put acc ↔ x ∈ l ∨ x ∈ acc
  | [],acc,h => ⟨h,fun x => by simp⟩
  | s :: l,acc,h => by
    have ih := fold_put l (put acc s) (up_put s h)
    refine ⟨ih.1,fun x => ?_⟩
    show x ∈ l.foldl put (put acc s) ↔ _
    rw [ih.2,mem_put,List.mem_cons]
    constructor
    · rintro (h | h | h)
      · exact Or.inl (Or.inr h)
      · exact Or.inl (Or.inl h)
      · exact Or.inr h
    · rintro ((h | h) | h)
      · exact Or.inr (Or.inl h)
      · exact Or.inl h
      · exact Or.inr (Or.inr h)
theorem up_rising (l : List Txt) : Up (rising l) := (fold_put l [] List.Pairwise.nil).1
theorem mem_rising (l : List Txt) (x : Txt) : x ∈ rising l ↔ x ∈ l := by
  have := (fold_put l [] List.Pairwise.nil).2 x
  unfold rising; simpa using this
theorem rising_congr {l m : List Txt} (h : ∀ x,x ∈ l ↔ x ∈ m) : rising l = rising m :=
  up_ext (up_rising l) (up_rising m) fun x => by rw [mem_rising,mem_rising,h]

/-! How many. -/
theorem nodup_len {α : Type} [DecidableEq α] : ∀ {l m : List α},l.Nodup -> (∀ x,x ∈ l -> x ∈ m) -> l.length <= m.length
  | [],m,_,_ => Nat.zero_le _
  | a :: l,m,h,hs => by
    obtain ⟨ha,hl⟩ := List.nodup_cons.1 h
    have hm : a ∈ m := hs a (by simp)
    have ih := nodup_len (l := l) (m := m.erase a) hl fun x hx => by
      have hne : x ≠ a := fun e => ha (e ▸ hx)
      exact (List.mem_erase_of_ne hne).2 (hs x (by simp [hx]))
    rw [List.length_erase_of_mem hm] at ih
    have := List.length_pos_of_mem hm
    rw [List.length_cons]; omega
theorem same_len {α : Type} [DecidableEq α] {l m : List α} (hl : l.Nodup) (hm : m.Nodup) (h : ∀ x,x ∈ l ↔ x ∈ m) : l.length = m.length :=
  Nat.le_antisymm (nodup_len hl fun x => (h x).1) (nodup_len hm fun x => (h x).2)
theorem len_rising {l : List Txt} (h : l.Nodup) : (rising l).length = l.length := same_len (up_nodup (up_rising l)) h (mem_rising l)

end Go.Proofs.YtfpfdnapamdhjaaGreatDoor.Val

/- Layer 2,plain mathematics alone: digits,what they say,the digits of a number; texts of CPUs,bytes and dollars; that what is printed is parsed as what it was. No program is named. -/
namespace Go.Proofs.YtfpfdnapamdhjaaGreatDoor.Suf

/-- A byte 0 to 9; what it says. -/
def dig (c : UInt8) : Bool := decide (48 <= c.toNat /\ c.toNat <= 57)
def dv (c : UInt8) : Nat := c.toNat - 48
/-- What digits say,the highest one first,behind n. -/
def valFrom (n : Nat) : List UInt8 -> Nat
  | [] => n
  | c :: l => valFrom (n * 10 + dv c) l
def val (l : List UInt8) : Nat := valFrom 0 l

/-- The digits of a number. -/
def decFuel : Nat -> Nat -> List UInt8
  | 0,_ => []
  | f + 1,n => (if n < 10 then [] else decFuel f (n / 10)) ++ [UInt8.ofNat (48 + n % 10)]
def dec (n : Nat) : List UInt8 := decFuel 20 n

theorem valFrom_append (n : Nat) (xs ys : List UInt8) : valFrom n (xs ++ ys) = valFrom (valFrom n xs) ys := by
  induction xs generalizing n with
  | nil => rfl
  | cons c l ih => exact ih _
theorem val_snoc (xs : List UInt8) (c : UInt8) : val (xs ++ [c]) = val xs * 10 + dv c := by
  unfold val; rw [valFrom_append]; rfl

theorem byte_toNat (d : Nat) (h : d < 10) : (UInt8.ofNat (48 + d)).toNat = 48 + d := by
  rw [UInt8.toNat_ofNat']; omega
theorem dv_byte (d : Nat) (h : d < 10) : dv (UInt8.ofNat (48 + d)) = d := by unfold dv; rw [byte_toNat d h]; omega
theorem dig_byte (d : Nat) (h : d < 10) : dig (UInt8.ofNat (48 + d)) = true := by
  unfold dig; rw [byte_toNat d h]; exact decide_eq_true ⟨by omega,by omega⟩

theorem decFuel_val : ∀ (f n : Nat),n < 10 ^ f -> val (decFuel f n) = n
  | 0, n, h => by have : n = 0 := by simpa using h
                  subst this; rfl
  | f + 1,n,h => by
    show val ((if n < 10 then [] else decFuel f (n / 10)) ++ [UInt8.ofNat (48 + n % 10)]) = n
    rw [val_snoc,dv_byte _ (Nat.mod_lt _ (by omega))]
    by_cases hn : n < 10
    · rw [if_pos hn]; show 0 * 10 + n % 10 = n; omega
    · rw [if_neg hn,decFuel_val f (n / 10) (by rw [Nat.pow_succ] at h; omega)]; omega
theorem decFuel_all : ∀ (f n : Nat),(decFuel f n).all dig = true
  | 0,_ => rfl
  | f + 1,n => by
    show ((if n < 10 then [] else decFuel f (n / 10)) ++ [UInt8.ofNat (48 + n % 10)]).all dig = true
    have hb := dig_byte (n % 10) (Nat.mod_lt _ (by omega))
    rw [List.all_append,List.all_cons,hb]
    by_cases hn : n < 10
    · rw [if_pos hn]; rfl
    · rw [if_neg hn,decFuel_all f (n / 10)]; rfl
theorem decFuel_len : ∀ (f n k : Nat),n < 10 ^ k -> 1 <= k -> (decFuel f n).length <= k
  | 0,_,_,_,_ => Nat.zero_le _
  | f + 1,n,k,h,hk => by
    show ((if n < 10 then [] else decFuel f (n / 10)) ++ [UInt8.ofNat (48 + n % 10)]).length <= k
    rw [List.length_append]
    by_cases hn : n < 10
    · rw [if_pos hn]; simpa using hk
    · rw [if_neg hn]
      obtain ⟨j,rfl⟩ : ∃ j,k = j + 1 := ⟨k - 1,by omega⟩
      have hj : 1 <= j := by
        rcases Nat.eq_zero_or_pos j with rfl | hj
        · simp at h; omega
        · exact hj
      have := decFuel_len f (n / 10) j (by rw [Nat.pow_succ] at h; omega) hj
      show (decFuel f (n / 10)).length + 1 <= j + 1
      omega
theorem decFuel_pos (f n : Nat) : 1 <= (decFuel (f + 1) n).length := by
  show 1 <= ((if n < 10 then [] else decFuel f (n / 10)) ++ [UInt8.ofNat (48 + n % 10)]).length
  rw [List.length_append]; show 1 <= _ + 1; omega
theorem dec_val (n : Nat) (h : n < 10 ^ 18) : val (dec n) = n := decFuel_val 20 n (Nat.lt_of_lt_of_le h (by decide))

/-! Texts of CPUs: digits,or digits and an m. -/

end Go.Proofs.YtfpfdnapamdhjaaGreatDoor.Suf

/- Layer 3,plain mathematics alone: names,numbers and their texts,values. No program is named. -/
namespace Go.Proofs.YtfpfdnapamdhjaaGreatDoor.Val
open Suf

def low (c : UInt8) : Bool := decide (97 <= c.toNat /\ c.toNat <= 122)
def nameC (c : UInt8) : Bool := low c || dig c || c == 46 || c == 45
/-- A name: 1 to 16 letters,digits,points,dashes; a letter first. -/
def nameB (s : Txt) : Bool := decide (1 <= s.length /\ s.length <= 16) && (match s with | c :: _ => low c | [] => false) && s.all nameC
/-- A number's text. -/
def decZ (n : Int) : Txt := if n < 0 then 45 :: dec n.natAbs else dec n.natAbs
/-- What the digits of a text say,below 0 behind a dash. -/
def numV (s : Txt) : Int := if s.head? = some 45 then -((val (s.filter dig) : Nat) : Int) else ((val (s.filter dig) : Nat) : Int)
def numO (s : Txt) : Option Int := if s.length <= 11 /\ decZ (numV s) = s /\ -2147483648 <= numV s /\ numV s <= 2147483648 then some (numV s) else none
def valueB (s : Txt) : Bool := nameB s || (numO s).isSome

theorem filter_dec (n : Nat) : (dec n).filter dig = dec n := List.filter_eq_self.2 fun c hc => List.all_eq_true.1 (decFuel_all 20 n) c hc
theorem dec_head (n : Nat) : ¬ (dec n).head? = some 45 := by
  intro h
  have hm : (45 : UInt8) ∈ dec n := List.mem_of_head? h
  have := List.all_eq_true.1 (decFuel_all 20 n) 45 hm
  exact absurd this (by decide)
theorem numV_dec (n : Int) (h : n.natAbs < 1000000000000000000) : numV (decZ n) = n := by
  unfold decZ numV
  by_cases hn : n < 0
  · rw [if_pos hn,if_pos (show (45 :: dec n.natAbs).head? = some 45 from rfl),List.filter_cons_of_neg (by decide),filter_dec,dec_val _ h]; omega
  · rw [if_neg hn,if_neg (dec_head _),filter_dec,dec_val _ h]; omega
theorem decZ_len (n : Int) (h0 : -2147483648 <= n) (h1 : n <= 2147483648) : (decZ n).length <= 11 := by
  have := decFuel_len 20 n.natAbs 10 (Nat.lt_of_le_of_lt (show n.natAbs <= 2147483648 by omega) (by decide)) (by omega)
  unfold decZ dec
  split
  · rw [List.length_cons]; omega
  · omega
theorem numO_iff (s : Txt) (n : Int) : numO s = some n ↔ decZ n = s /\ -2147483648 <= n /\ n <= 2147483648 := by
  unfold numO
  constructor
  · intro h
    split at h
    · rename_i hc
      injection h with h
      rw [<- h]; exact hc.2
    · cases h
  · rintro ⟨rfl,h0,h1⟩
    have e := numV_dec n (Nat.lt_of_le_of_lt (show n.natAbs <= 2147483648 by omega) (by decide))
    rw [e,if_pos ⟨decZ_len n h0 h1,rfl,h0,h1⟩]
theorem numO_dec (n : Int) (h0 : -2147483648 <= n) (h1 : n <= 2147483648) : numO (decZ n) = some n := (numO_iff _ _).2 ⟨rfl,h0,h1⟩
theorem num_value {s : Txt} {n : Int} (h : numO s = some n) : valueB s = true := by unfold valueB; rw [h]; simp
/-- Names enough. -/
def nm (k : Nat) : Txt := 97 :: dec k

end Go.Proofs.YtfpfdnapamdhjaaGreatDoor.Val

/- Layer 3,plain mathematics alone: sets of values,what they have,that each is written in one way; the numbers from one to another but some. No program is named. -/
namespace Go.Proofs.YtfpfdnapamdhjaaGreatDoor.Val
open Suf

structure VSet where
  miss : Bool
  no : Bool
  num : Bool
  vals : List Txt
  lo : Int
  hi : Int
def within (lo hi : Int) (t : Txt) : Bool := match numO t with | some n => decide (lo < n /\ n < hi) | none => false

theorem within_iff (lo hi : Int) (t : Txt) : within lo hi t = true ↔ ∃ n,numO t = some n /\ lo < n /\ n < hi := by
  unfold within
  cases h : numO t with
  | none => simp
  | some n => simp

/-! Each set is written in one way. -/

end Go.Proofs.YtfpfdnapamdhjaaGreatDoor.Val

/- Layer 3,plain mathematics alone: the numbers from one to another but some,as a set. No program is named. -/
namespace Go.Proofs.YtfpfdnapamdhjaaGreatDoor.Val
open Suf

/-- From below on,and from above down,past those that are left out. -/
def trimLo (but : List Txt) : Nat -> Int -> Int
  | 0,lo => lo
  | f + 1,lo => if but.contains (decZ lo) then trimLo but f (lo + 1) else lo
def trimHi (but : List Txt) : Nat -> Int -> Int
  | 0,hi => hi
  | f + 1,hi => if but.contains (decZ hi) then trimHi but f (hi - 1) else hi
theorem trimLo_spec (but : List Txt) : ∀ (f : Nat) (lo : Int),lo <= trimLo but f lo /\ trimLo but f lo <= lo + f /\ (∀ n,lo <= n -> n < trimLo but f lo -> decZ n ∈ but) /\ (trimLo but f lo < lo + f -> decZ (trimLo but f lo) ∉ but)
  | 0,lo => ⟨Int.le_refl _,by show lo <= lo + ((0 : Nat) : Int); omega,fun n h1 h2 => by have : trimLo but 0 lo = lo := rfl; omega,fun h => by have : trimLo but 0 lo = lo := rfl; omega⟩
  | f + 1,lo => by
    unfold trimLo
    by_cases hc : but.contains (decZ lo) = true
    · rw [if_pos hc]
      obtain ⟨h1,h2,h3,h4⟩ := trimLo_spec but f (lo + 1)
      refine ⟨by omega,by omega,fun n a b => ?_,fun h => h4 (by omega)⟩
      by_cases e : n = lo
      · subst e; simpa using hc
      · exact h3 n (by omega) b
    · rw [if_neg hc]
      exact ⟨Int.le_refl _,by omega,fun n a b => by omega,fun _ c => hc (by simpa using c)⟩
theorem trimHi_spec (but : List Txt) : ∀ (f : Nat) (hi : Int),trimHi but f hi <= hi /\ hi - f <= trimHi but f hi /\ (∀ n,n <= hi -> trimHi but f hi < n -> decZ n ∈ but) /\ (hi - f < trimHi but f hi -> decZ (trimHi but f hi) ∉ but)
  | 0,hi => ⟨Int.le_refl _,by show hi - ((0 : Nat) : Int) <= hi; omega,fun n h1 h2 => by have : trimHi but 0 hi = hi := rfl; omega,fun h => by have : trimHi but 0 hi = hi := rfl; omega⟩
  | f + 1,hi => by
    unfold trimHi
    by_cases hc : but.contains (decZ hi) = true
    · rw [if_pos hc]
      obtain ⟨h1,h2,h3,h4⟩ := trimHi_spec but f (hi - 1)
      refine ⟨by omega,by omega,fun n a b => ?_,fun h => h4 (by omega)⟩
      by_cases e : n = hi
      · subst e; simpa using hc
      · exact h3 n (by omega) b
    · rw [if_neg hc]
      exact ⟨Int.le_refl _,by omega,fun n a b => by omega,fun _ c => hc (by simpa using c)⟩
def loOf (lo hi : Int) (but : List Txt) : Int := trimLo but (hi - lo + 1).toNat lo
def hiOf (lo hi : Int) (but : List Txt) : Int := trimHi but (hi - loOf lo hi but + 1).toNat hi
def valsOf (lo hi : Int) (but : List Txt) : List Txt := rising (but.filter (within lo hi))
/-- So many numbers from one on. -/
def ints (lo : Int) (k : Nat) : List Int := (List.range k).map fun (i : Nat) => lo + (i : Int)
def listOf (lo hi : Int) (vals : List Txt) : List Txt := rising (((ints lo (hi - lo + 1).toNat).map decZ).filter fun t => !vals.contains t)
def numsAt (lo hi : Int) (but : List Txt) : Option VSet :=
  if hi - lo + 1 - ((valsOf lo hi but).length : Int) <= 64 then some ⟨false,false,false,listOf lo hi (valsOf lo hi but),0,0⟩
  else if 64 < (valsOf lo hi but).length then none else some ⟨false,true,true,valsOf lo hi but,lo,hi⟩
def numbersO (lo hi : Int) (but : List Txt) : Option VSet := numsAt (loOf lo hi but) (hiOf lo hi but) but

theorem lo_spec (lo hi : Int) (but : List Txt) (hlh : lo <= hi + 1) : lo <= loOf lo hi but /\ loOf lo hi but <= hi + 1 /\ (∀ n,lo <= n -> n < loOf lo hi but -> decZ n ∈ but) /\ (loOf lo hi but <= hi -> decZ (loOf lo hi but) ∉ but) := by
  obtain ⟨h1,h2,h3,h4⟩ := trimLo_spec but (hi - lo + 1).toNat lo
  unfold loOf
  exact ⟨h1,by omega,h3,fun h => h4 (by omega)⟩
theorem hi_spec (lo hi : Int) (but : List Txt) (hlh : lo <= hi + 1) : hiOf lo hi but <= hi /\ loOf lo hi but - 1 <= hiOf lo hi but /\ (∀ n,n <= hi -> hiOf lo hi but < n -> decZ n ∈ but) /\ (loOf lo hi but <= hiOf lo hi but -> decZ (hiOf lo hi but) ∉ but) := by
  obtain ⟨l1,l2,l3,l4⟩ := lo_spec lo hi but hlh
  obtain ⟨h1,h2,h3,h4⟩ := trimHi_spec but (hi - loOf lo hi but + 1).toNat hi
  unfold hiOf
  exact ⟨h1,by omega,h3,fun h => h4 (by omega)⟩
/-- Nothing to trim: there is nothing at all. -/
theorem empty_lo (lo hi : Int) (but : List Txt) (h : hi < lo) : loOf lo hi but = lo /\ hiOf lo hi but = hi := by
  have e : loOf lo hi but = lo := by unfold loOf; rw [show (hi - lo + 1).toNat = 0 by omega]; rfl
  refine ⟨e,?_⟩
  unfold hiOf; rw [e,show (hi - lo + 1).toNat = 0 by omega]; rfl
/-- What is left out counts as a set of texts alone. -/
theorem contains_congr {b c : List Txt} (h : ∀ x,x ∈ b ↔ x ∈ c) (x : Txt) : b.contains x = c.contains x := by
  rw [Bool.eq_iff_iff]; simpa using h x

end Go.Proofs.YtfpfdnapamdhjaaGreatDoor.Val

/- Layer 3,plain mathematics alone: where two sets meet; what a requirement admits. No program is named. -/
namespace Go.Proofs.YtfpfdnapamdhjaaGreatDoor.Val
open Suf

def zeroS : VSet := ⟨false,false,false,[],0,0⟩

theorem numbers_miss {lo hi : Int} {but : List Txt} {s : VSet} (h : numbersO lo hi but = some s) : s.miss = false := by
  unfold numbersO numsAt at h
  split at h
  · injection h with h; subst h; rfl
  · split at h
    · cases h
    · injection h with h; subst h; rfl

/-! What a requirement admits. -/
structure VReq where
  key : Txt
  op : Int
  vals : List Txt
  n : Int
def nodupB : List Txt -> List Txt -> Bool
  | _,[] => true
  | seen,v :: l => !seen.contains v && nodupB (seen ++ [v]) l
def wrongR (r : VReq) : Int :=
  if nameB r.key = false then 7
  else if r.op < 1 ∨ 6 < r.op ∨ (decide (r.op = 1 ∨ r.op = 2) != decide (0 < r.vals.length)) = true ∨ (¬ (r.op = 5 ∨ r.op = 6) /\ ¬ r.n = 0) ∨ r.n < -2147483648 ∨ 2147483648 < r.n then 30
  else if 8 < r.vals.length then 3
  else if r.vals.all valueB = false then 20
  else if nodupB [] r.vals = false then 6
  else 0
def ofSet (r : VReq) : VSet :=
  if r.op = 1 then ⟨false,false,false,rising r.vals,0,0⟩
  else if r.op = 2 then ⟨true,true,false,rising r.vals,0,0⟩
  else if r.op = 3 then ⟨false,true,false,[],0,0⟩
  else if r.op = 4 then ⟨true,false,false,[],0,0⟩
  else if r.op = 5 then (numbersO (r.n + 1) 2147483648 []).getD zeroS
  else (numbersO (-2147483648) (r.n - 1) []).getD zeroS
def ofR (r : VReq) : VSet × Int := if wrongR r = 0 then (ofSet r,0) else (zeroS,wrongR r)
theorem numbers_nil (lo hi : Int) : ∃ c,numbersO lo hi [] = some c := by
  unfold numbersO numsAt
  have e : ∀ l i,valsOf l i [] = [] := fun _ _ => rfl
  rw [e]
  split
  · exact ⟨_,rfl⟩
  · rw [if_neg (by decide)]; exact ⟨_,rfl⟩
theorem wrong_ok {r : VReq} (h : wrongR r = 0) : 1 <= r.op /\ r.op <= 6 /\ -2147483648 <= r.n /\ r.n <= 2147483648 /\ r.vals.length <= 8 /\ ∀ v ∈ r.vals,valueB v = true := by
  unfold wrongR at h
  split at h
  · cases h
  · split at h
    · cases h
    · rename_i h2
      split at h
      · cases h
      · split at h
        · cases h
        · rename_i h4
          refine ⟨by omega,by omega,by omega,by omega,by omega,?_⟩
          have : r.vals.all valueB = true := by simpa using h4
          exact List.all_eq_true.1 this

end Go.Proofs.YtfpfdnapamdhjaaGreatDoor.Val
