/- Layer 9,plain mathematics alone: things written as bytes and read back. No program is named. -/
import Derived.Test.YtfpfdnapamdhjaaGreatDoorValAGZ
import Derived.RowKit
namespace Go.Proofs.YtfpfdnapamdhjaaGreatDoor.Val
open Go.RowKit

/-- What is read ahead,and what is left; or an error. -/
abbrev Got (α : Type) := Except Int (α × Txt)
/-- A kind of things: how they are written,how they are read,which may be. -/
structure Cod (α : Type) where
  w : α -> Txt
  r : Txt -> Got α
  ok : α -> Prop
  back : ∀ {x : α} (t : Txt),ok x -> r (w x ++ t) = .ok (x,t)
  fit : ∀ {b t : Txt} {x : α},r b = .ok (x,t) -> b = w x ++ t /\ ok x
  bad : ∀ {b : Txt} {e : Int} (c : Txt),r b = .error e -> (e = 90 ∨ e = 20) /\ (e ≠ 90 -> r (b ++ c) = .error e)

/-! Numbers. -/
def bytesN : Nat -> Int -> Txt
  | 0,_ => []
  | k + 1,z => UInt8.ofNat (z % 256).toNat :: bytesN k (z / 256)
def valN : Txt -> Nat
  | [] => 0
  | c :: l => c.toNat + 256 * valN l
theorem bytesN_len : ∀ (k : Nat) (z : Int),(bytesN k z).length = k
  | 0,_ => rfl
  | k + 1,z => by show (bytesN k (z / 256)).length + 1 = _; rw [bytesN_len]
theorem valN_lt : ∀ l : Txt,valN l < 256 ^ l.length
  | [] => by show 0 < 1; omega
  | c :: l => by
    have h := valN_lt l
    have hc : c.toNat < 256 := c.toNat_lt
    show c.toNat + 256 * valN l < 256 ^ (l.length + 1)
    rw [Nat.pow_succ]
    omega
theorem ofNat_mod (z : Int) : ((UInt8.ofNat (z % 256).toNat).toNat : Int) = z % 256 := by
  rw [UInt8.toNat_ofNat']
  have h0 := Int.emod_nonneg z (show (256 : Int) ≠ 0 by omega)
  have h1 := Int.emod_lt_of_pos z (show (0 : Int) < 256 by omega)
  rw [Nat.mod_eq_of_lt (by omega)]
  omega
theorem mod_split {s q M : Int} (h0 : 0 <= s) (h1 : s < 256) (hM : 0 < M) : (s + 256 * q) % (256 * M) = s + 256 * (q % M) := by
  have e1 := Int.emod_add_mul_ediv q M
  have b0 := Int.emod_nonneg q (show M ≠ 0 by omega)
  have b1 := Int.emod_lt_of_pos q hM
  obtain ⟨r,hr⟩ : ∃ r,r = q % M := ⟨_,rfl⟩
  obtain ⟨d,hd⟩ : ∃ d,d = q / M := ⟨_,rfl⟩
  rw [<- hr,<- hd] at e1
  rw [<- hr] at b0 b1 ⊢
  have e2 : s + 256 * q = (s + 256 * r) + 256 * M * d := by
    rw [<- e1,Int.mul_add,Int.mul_assoc]; omega
  rw [e2,Int.add_mul_emod_self_left]
  apply Int.emod_eq_of_lt <;> omega
theorem val_bytes : ∀ (k : Nat) (z : Int),(valN (bytesN k z) : Int) = z % (256 ^ k : Nat)
  | 0,z => by show (0 : Int) = z % 1; omega
  | k + 1,z => by
    show (((UInt8.ofNat (z % 256).toNat).toNat + 256 * valN (bytesN k (z / 256)) : Nat) : Int) = _
    have ih := val_bytes k (z / 256)
    rw [Int.natCast_add,ofNat_mod,Int.natCast_mul,ih,Nat.pow_succ,Nat.mul_comm,Int.natCast_mul]
    have hz := Int.emod_nonneg z (show (256 : Int) ≠ 0 by omega)
    have hz1 := Int.emod_lt_of_pos z (show (0 : Int) < 256 by omega)
    have hp : (0 : Int) < ((256 ^ k : Nat) : Int) := by
      have := Nat.pow_pos (n := k) (show 0 < 256 by omega); omega
    have e := mod_split (s := z % 256) (q := z / 256) hz hz1 hp
    rw [show ((256 : Nat) : Int) = 256 from rfl]
    rw [<- e]
    congr 1
    omega
theorem bytes_val : ∀ l : Txt,bytesN l.length (valN l) = l
  | [] => rfl
  | c :: l => by
    show UInt8.ofNat (((c.toNat + 256 * valN l : Nat) : Int) % 256).toNat :: bytesN l.length (((c.toNat + 256 * valN l : Nat) : Int) / 256) = _
    have hc : c.toNat < 256 := c.toNat_lt
    have e1 : (((c.toNat + 256 * valN l : Nat) : Int) % 256).toNat = c.toNat := by omega
    have e2 : ((c.toNat + 256 * valN l : Nat) : Int) / 256 = (valN l : Int) := by omega
    rw [e1,e2,bytes_val l]
    congr 1
    apply UInt8.toNat_inj.1
    rw [UInt8.toNat_ofNat']
    exact Nat.mod_eq_of_lt hc
theorem bytes_mod : ∀ (k : Nat) (z y : Int),z % (256 ^ k : Nat) = y % (256 ^ k : Nat) -> bytesN k z = bytesN k y := fun k z y h => by
  have h1 := val_bytes k z
  have h2 := val_bytes k y
  have e : valN (bytesN k z) = valN (bytesN k y) := by
    have : (valN (bytesN k z) : Int) = (valN (bytesN k y) : Int) := by rw [h1,h2,h]
    exact Int.ofNat.inj this
  have a := bytes_val (bytesN k z)
  have b := bytes_val (bytesN k y)
  rw [bytesN_len] at a b
  rw [<- a,<- b,e]
theorem wrap64_mod (z : Int) : wrap64 z % (256 ^ 8 : Nat) = z % (256 ^ 8 : Nat) := by
  unfold wrap64
  rw [show ((256 ^ 8 : Nat) : Int) = 18446744073709551616 from rfl]
  omega
theorem wrap64_of {z : Int} (h : -9223372036854775808 <= z /\ z < 9223372036854775808) : wrap64 (z % (256 ^ 8 : Nat)) = z := by
  unfold wrap64
  rw [show ((256 ^ 8 : Nat) : Int) = 18446744073709551616 from rfl]
  omega
theorem wrap64_fits (z : Int) : -9223372036854775808 <= wrap64 z /\ wrap64 z < 9223372036854775808 := by
  unfold wrap64; omega
def okN (z : Int) : Prop := -9223372036854775808 <= z /\ z < 9223372036854775808
/-- So many bytes. -/
def takeR (n : Nat) (b : Txt) : Got Txt := if b.length < n then .error 90 else .ok (b.take n,b.drop n)
theorem take_back {n : Nat} {x : Txt} (t : Txt) (h : x.length = n) : takeR n (x ++ t) = .ok (x,t) := by
  subst h
  unfold takeR
  rw [if_neg (by rw [List.length_append]; omega),List.take_left',List.drop_left'] <;> rfl
theorem take_fit {n : Nat} {b x t : Txt} (h : takeR n b = .ok (x,t)) : b = x ++ t /\ x.length = n := by
  unfold takeR at h
  by_cases hl : b.length < n
  · rw [if_pos hl] at h; cases h
  · rw [if_neg hl] at h
    injection h with h
    injection h with h1 h2
    subst h1 h2
    exact ⟨(List.take_append_drop n b).symm,by rw [List.length_take]; omega⟩
theorem take_bad {n : Nat} {b : Txt} {e : Int} (h : takeR n b = .error e) : e = 90 := by
  unfold takeR at h
  by_cases hl : b.length < n
  · rw [if_pos hl] at h; injection h with h; exact h.symm
  · rw [if_neg hl] at h; cases h
def numG : Got Txt -> Got Int
  | .error e => .error e
  | .ok (x,t) => .ok (wrap64 (valN x),t)
def numC : Cod Int where
  w := bytesN 8
  r := fun b => numG (takeR 8 b)
  ok := okN
  back := fun {x} t h => by
    rw [take_back t (bytesN_len 8 x)]
    show Except.ok (wrap64 (valN (bytesN 8 x)),t) = _
    rw [val_bytes,wrap64_of h]
  fit := fun {b t x} h => by
    cases hb : takeR 8 b with
    | error e => rw [hb] at h; cases h
    | ok y =>
      rw [hb] at h
      injection h with h
      injection h with h1 h2
      obtain ⟨e1,e2⟩ := take_fit hb
      subst h1 h2
      refine ⟨?_,wrap64_fits _⟩
      rw [e1]
      congr 1
      have a := bytes_val y.1
      rw [e2] at a
      exact a.symm.trans (bytes_mod 8 _ _ (wrap64_mod _).symm)
  bad := fun {b e} c h => by
    cases hb : takeR 8 b with
    | error f =>
      rw [hb] at h
      injection h with h
      have := take_bad hb
      exact ⟨.inl (by omega),fun hne => absurd (by omega) hne⟩
    | ok y => rw [hb] at h; cases h

/-! One byte; truths; texts. -/
def oneG : Txt -> Got Nat
  | [] => .error 90
  | c :: t => .ok (c.toNat,t)
def truthG : Got Nat -> Got Bool
  | .error e => .error e
  | .ok (n,t) => if 1 < n then .error 20 else .ok (n == 1,t)
def truthC : Cod Bool where
  w := fun x => [if x then 1 else 0]
  r := fun b => truthG (oneG b)
  ok := fun _ => True
  back := fun {x} t _ => by cases x <;> rfl
  fit := fun {b t x} h => by
    match b,h with
    | c :: b,h =>
      change (if 1 < c.toNat then Except.error 20 else Except.ok (c.toNat == 1,b)) = Except.ok (x,t) at h
      by_cases hc : 1 < c.toNat
      · rw [if_pos hc] at h; cases h
      · rw [if_neg hc] at h
        injection h with h
        injection h with h1 h2
        subst h1 h2
        refine ⟨?_,trivial⟩
        show c :: b = [if (c.toNat == 1) = true then 1 else 0] ++ b
        rw [List.singleton_append]
        congr 1
        apply UInt8.toNat_inj.1
        by_cases h1 : c.toNat = 1
        · rw [h1]; rfl
        · have : c.toNat = 0 := by omega
          rw [this]; rfl
  bad := fun {b e} c h => by
    match b,h with
    | [],h => injection h with h; exact ⟨.inl h.symm,fun hne => absurd h.symm hne⟩
    | d :: b,h =>
      change (if 1 < d.toNat then Except.error 20 else Except.ok (d.toNat == 1,b)) = Except.error e at h
      by_cases hc : 1 < d.toNat
      · rw [if_pos hc] at h
        injection h with h
        exact ⟨.inr h.symm,fun _ => by
          show (if 1 < d.toNat then Except.error 20 else Except.ok (d.toNat == 1,b ++ c)) = Except.error e
          rw [if_pos hc,h]⟩
      · rw [if_neg hc] at h; cases h
def txtG : Got Nat -> Got Txt
  | .error e => .error e
  | .ok (n,t) => takeR n t
theorem len_byte {n : Nat} (h : n < 256) : (UInt8.ofNat n).toNat = n := by rw [UInt8.toNat_ofNat']; exact Nat.mod_eq_of_lt h
theorem byte_len (c : UInt8) : UInt8.ofNat c.toNat = c := by
  apply UInt8.toNat_inj.1; exact len_byte c.toNat_lt
def txtC : Cod Txt where
  w := fun s => UInt8.ofNat s.length :: s
  r := fun b => txtG (oneG b)
  ok := fun s => s.length < 256
  back := fun {x} t h => by
    show takeR (UInt8.ofNat x.length).toNat (x ++ t) = _
    rw [len_byte h]
    exact take_back t rfl
  fit := fun {b t x} h => by
    match b,h with
    | c :: b,h =>
      change takeR c.toNat b = _ at h
      obtain ⟨e1,e2⟩ := take_fit h
      have := c.toNat_lt
      refine ⟨?_,by omega⟩
      show c :: b = UInt8.ofNat x.length :: x ++ t
      rw [e2,byte_len,e1]; rfl
  bad := fun {b e} c h => by
    match b,h with
    | [],h => injection h with h; exact ⟨.inl h.symm,fun hne => absurd h.symm hne⟩
    | d :: b,h =>
      have := take_bad (show takeR d.toNat b = .error e from h)
      exact ⟨.inl this,fun hne => absurd this hne⟩

/-! Two,one behind the other; under another name; lists. -/
section
variable {α β : Type}
def bindG (f : Txt -> Got β) : Got α -> Got (α × β)
  | .error e => .error e
  | .ok (x,t) => match f t with
    | .error e => .error e
    | .ok (y,t) => .ok ((x,y),t)
def pairC (A : Cod α) (B : Cod β) : Cod (α × β) where
  w := fun x => A.w x.1 ++ B.w x.2
  r := fun b => bindG B.r (A.r b)
  ok := fun x => A.ok x.1 /\ B.ok x.2
  back := fun {x} t h => by
    rw [List.append_assoc,A.back _ h.1]
    show (match B.r (B.w x.2 ++ t) with | .error e => Except.error e | .ok (y,t) => Except.ok ((x.1,y),t)) = _
    rw [B.back _ h.2]
  fit := fun {b t x} h => by
    cases ha : A.r b with
    | error e => rw [ha] at h; cases h
    | ok y =>
      rw [ha] at h
      obtain ⟨y1,y2⟩ := y
      change (match B.r y2 with | .error e => Except.error e | .ok (y,t) => Except.ok ((y1,y),t)) = _ at h
      cases hb : B.r y2 with
      | error e => rw [hb] at h; cases h
      | ok z =>
        rw [hb] at h
        obtain ⟨z1,z2⟩ := z
        injection h with h
        injection h with h1 h2
        subst h1 h2
        obtain ⟨e1,o1⟩ := A.fit ha
        obtain ⟨e2,o2⟩ := B.fit hb
        exact ⟨by rw [e1,e2,List.append_assoc],o1,o2⟩
  bad := fun {b e} c h => by
    cases ha : A.r b with
    | error f =>
      rw [ha] at h
      injection h with h
      subst h
      obtain ⟨h1,h2⟩ := A.bad c ha
      exact ⟨h1,fun hne => by rw [h2 hne]; rfl⟩
    | ok y =>
      rw [ha] at h
      obtain ⟨y1,y2⟩ := y
      change (match B.r y2 with | .error e => Except.error e | .ok (y,t) => Except.ok ((y1,y),t)) = _ at h
      cases hb : B.r y2 with
      | ok z => rw [hb] at h; cases h
      | error f =>
        rw [hb] at h
        injection h with h
        subst h
        obtain ⟨h1,h2⟩ := B.bad c hb
        obtain ⟨e1,o1⟩ := A.fit ha
        refine ⟨h1,fun hne => ?_⟩
        rw [e1,List.append_assoc,A.back _ o1]
        show (match B.r (y2 ++ c) with | .error e => Except.error e | .ok (y,t) => Except.ok ((y1,y),t)) = _
        rw [h2 hne]
def mapG (g : α -> β) : Got α -> Got β
  | .error e => .error e
  | .ok (x,t) => .ok (g x,t)
def isoC (A : Cod α) (f : β -> α) (g : α -> β) (hf : ∀ x,f (g x) = x) (hg : ∀ y,g (f y) = y) : Cod β where
  w := fun y => A.w (f y)
  r := fun b => mapG g (A.r b)
  ok := fun y => A.ok (f y)
  back := fun {y} t h => by rw [A.back _ h]; show Except.ok (g (f y),t) = _; rw [hg]
  fit := fun {b t y} h => by
    cases ha : A.r b with
    | error e => rw [ha] at h; cases h
    | ok z =>
      rw [ha] at h
      injection h with h
      injection h with h1 h2
      subst h1 h2
      obtain ⟨e1,o1⟩ := A.fit ha
      rw [hf]
      exact ⟨e1,o1⟩
  bad := fun {b e} c h => by
    cases ha : A.r b with
    | ok z => rw [ha] at h; cases h
    | error f =>
      rw [ha] at h
      injection h with h
      subst h
      obtain ⟨h1,h2⟩ := A.bad c ha
      exact ⟨h1,fun hne => by rw [h2 hne]; rfl⟩
def consG (x : α) : Got (List α) -> Got (List α)
  | .error e => .error e
  | .ok (l,t) => .ok (x :: l,t)
def stepG (f : Txt -> Got (List α)) : Got α -> Got (List α)
  | .error e => .error e
  | .ok (x,t) => consG x (f t)
def manyR (A : Cod α) : Nat -> Txt -> Got (List α)
  | 0,b => .ok ([],b)
  | n + 1,b => stepG (manyR A n) (A.r b)
def manyW (A : Cod α) : List α -> Txt
  | [] => []
  | x :: l => A.w x ++ manyW A l
theorem many_back (A : Cod α) : ∀ (l : List α) (t : Txt),(∀ x ∈ l,A.ok x) -> manyR A l.length (manyW A l ++ t) = .ok (l,t)
  | [],_,_ => rfl
  | x :: l,t,h => by
    show stepG (manyR A l.length) (A.r (A.w x ++ manyW A l ++ t)) = _
    rw [List.append_assoc,A.back _ (h x (List.mem_cons_self ..))]
    show consG x (manyR A l.length (manyW A l ++ t)) = _
    rw [many_back A l t fun y hy => h y (List.mem_cons_of_mem _ hy)]
    rfl
theorem many_fit (A : Cod α) : ∀ {n : Nat} {b t : Txt} {l : List α},manyR A n b = .ok (l,t) -> b = manyW A l ++ t /\ l.length = n /\ ∀ x ∈ l,A.ok x
  | 0,b,t,l,h => by
    injection h with h
    injection h with h1 h2
    subst h1 h2
    exact ⟨rfl,rfl,fun x hx => by cases hx⟩
  | n + 1,b,t,l,h => by
    change stepG (manyR A n) (A.r b) = _ at h
    cases ha : A.r b with
    | error e => rw [ha] at h; cases h
    | ok y =>
      rw [ha] at h
      obtain ⟨y1,y2⟩ := y
      change consG y1 (manyR A n y2) = _ at h
      cases hm : manyR A n y2 with
      | error e => rw [hm] at h; cases h
      | ok z =>
        rw [hm] at h
        obtain ⟨z1,z2⟩ := z
        injection h with h
        injection h with h1 h2
        subst h1 h2
        obtain ⟨e1,o1⟩ := A.fit ha
        obtain ⟨e2,e3,o2⟩ := many_fit A hm
        refine ⟨?_,by rw [List.length_cons,e3],fun x hx => ?_⟩
        · rw [e1,e2]; show _ = A.w y1 ++ manyW A z1 ++ z2; rw [List.append_assoc]
        · rcases List.mem_cons.1 hx with rfl | hx
          · exact o1
          · exact o2 x hx
theorem many_bad (A : Cod α) : ∀ {n : Nat} {b : Txt} {e : Int} (c : Txt),manyR A n b = .error e -> (e = 90 ∨ e = 20) /\ (e ≠ 90 -> manyR A n (b ++ c) = .error e)
  | 0,b,e,c,h => by cases h
  | n + 1,b,e,c,h => by
    change stepG (manyR A n) (A.r b) = _ at h
    cases ha : A.r b with
    | error f =>
      rw [ha] at h
      injection h with h
      subst h
      obtain ⟨h1,h2⟩ := A.bad c ha
      refine ⟨h1,fun hne => ?_⟩
      show stepG (manyR A n) (A.r (b ++ c)) = _
      rw [h2 hne]; rfl
    | ok y =>
      rw [ha] at h
      obtain ⟨y1,y2⟩ := y
      change consG y1 (manyR A n y2) = _ at h
      cases hm : manyR A n y2 with
      | ok z => rw [hm] at h; cases h
      | error f =>
        rw [hm] at h
        injection h with h
        subst h
        obtain ⟨h1,h2⟩ := many_bad A c hm
        obtain ⟨e1,o1⟩ := A.fit ha
        refine ⟨h1,fun hne => ?_⟩
        show stepG (manyR A n) (A.r (b ++ c)) = _
        rw [e1,List.append_assoc,A.back _ o1]
        show consG y1 (manyR A n (y2 ++ c)) = _
        rw [h2 hne]; rfl
def listG (A : Cod α) : Got Nat -> Got (List α)
  | .error e => .error e
  | .ok (n,t) => manyR A n t
def listC (A : Cod α) : Cod (List α) where
  w := fun l => UInt8.ofNat l.length :: manyW A l
  r := fun b => listG A (oneG b)
  ok := fun l => l.length < 256 /\ ∀ x ∈ l,A.ok x
  back := fun {l} t h => by
    show manyR A (UInt8.ofNat l.length).toNat (manyW A l ++ t) = _
    rw [len_byte h.1]
    exact many_back A l t h.2
  fit := fun {b t l} h => by
    match b,h with
    | c :: b,h =>
      obtain ⟨e1,e2,e3⟩ := many_fit A (show manyR A c.toNat b = .ok (l,t) from h)
      have := c.toNat_lt
      refine ⟨?_,by omega,e3⟩
      show c :: b = UInt8.ofNat l.length :: manyW A l ++ t
      rw [e2,byte_len,e1]; rfl
  bad := fun {b e} c h => by
    match b,h with
    | [],h => injection h with h; exact ⟨.inl h.symm,fun hne => absurd h.symm hne⟩
    | d :: b,h =>
      obtain ⟨h1,h2⟩ := many_bad A c (show manyR A d.toNat b = .error e from h)
      exact ⟨h1,fun hne => h2 hne⟩
theorem manyW_append (A : Cod α) : ∀ a b : List α,manyW A (a ++ b) = manyW A a ++ manyW A b
  | [],b => rfl
  | x :: a,b => by show A.w x ++ manyW A (a ++ b) = A.w x ++ manyW A a ++ manyW A b; rw [manyW_append A a b,List.append_assoc]
theorem manyW_len (A : Cod α) {m : Nat} : ∀ {l : List α},(∀ x ∈ l,(A.w x).length <= m) -> (manyW A l).length <= l.length * m
  | [],_ => by simp [manyW]
  | x :: l,h => by
    have h1 := h x (List.mem_cons_self ..)
    have h2 := manyW_len A (l := l) fun y hy => h y (List.mem_cons_of_mem _ hy)
    show (A.w x ++ manyW A l).length <= (l.length + 1) * m
    rw [List.length_append,Nat.add_mul]
    omega
/-- Nothing ends sooner. -/
theorem cod_short (A : Cod α) {x : α} (hx : A.ok x) {a c : Txt} (h : A.w x = a ++ c) (hc : c ≠ []) : A.r a = .error 90 := by
  cases ha : A.r a with
  | ok y =>
    obtain ⟨e1,o1⟩ := A.fit ha
    have h1 := A.back [] hx
    have h2 := A.back (x := y.1) (y.2 ++ c) o1
    rw [List.append_nil,h,e1,List.append_assoc] at h1
    rw [h1] at h2
    injection h2 with h2
    injection h2 with h2 h3
    rcases List.append_eq_nil_iff.1 h3.symm with ⟨_,h4⟩
    exact absurd h4 hc
  | error e =>
    obtain ⟨_,h2⟩ := A.bad c ha
    by_cases he : e = 90
    · rw [he]
    · have h1 := A.back [] hx
      rw [List.append_nil,h,h2 he] at h1
      cases h1
end
end Go.Proofs.YtfpfdnapamdhjaaGreatDoor.Val
