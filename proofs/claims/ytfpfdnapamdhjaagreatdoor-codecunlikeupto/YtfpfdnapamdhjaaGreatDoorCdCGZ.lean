/- Layer 9,plain mathematics alone: a number's bytes one by one. No program is named. -/
import Derived.Test.YtfpfdnapamdhjaaGreatDoorCdAGZ
namespace Go.Proofs.YtfpfdnapamdhjaaGreatDoor.Val
open Go.RowKit

theorem bytesN_at : ∀ (n k : Nat) (z : Int),k < n -> (bytesN n z)[k]? = some (UInt8.ofNat (z / (256 ^ k : Nat) % 256).toNat)
  | 0,k,z,h => by omega
  | n + 1,0,z,h => by show some (UInt8.ofNat (z % 256).toNat) = _; rw [show ((256 ^ 0 : Nat) : Int) = 1 from rfl,Int.ediv_one]
  | n + 1,k + 1,z,h => by
    show (bytesN n (z / 256))[k]? = _
    rw [bytesN_at n k (z / 256) (by omega),Int.ediv_ediv_of_nonneg (by omega),Nat.pow_succ,Nat.mul_comm]
    rfl
theorem bytesN_next (k : Nat) (z : Int) (h : k < 8) : (bytesN 8 z).take (k + 1) = (bytesN 8 z).take k ++ [UInt8.ofNat (z / (256 ^ k : Nat) % 256).toNat] := by
  rw [List.take_add_one,bytesN_at 8 k z h]; rfl
theorem pow8n' (k : Nat) : (2 : Nat) ^ (8 * k) = 256 ^ k := by rw [Nat.pow_mul]
theorem byte_at (k : Nat) (z : Int) : z / (2 ^ (8 * k) : Nat) % 256 = ((UInt8.ofNat (z / (256 ^ k : Nat) % 256).toNat).toNat : Int) := by
  rw [ofNat_mod,pow8n']
theorem valN_append : ∀ (a b : Txt),valN (a ++ b) = valN a + 256 ^ a.length * valN b
  | [],b => by show valN b = 0 + 1 * valN b; omega
  | c :: a,b => by
    show c.toNat + 256 * valN (a ++ b) = c.toNat + 256 * valN a + 256 ^ (a.length + 1) * valN b
    rw [valN_append a b,Nat.pow_succ,Nat.mul_add,<- Nat.mul_assoc,Nat.mul_comm 256 (256 ^ a.length)]
    omega
theorem valN_one (c : UInt8) : valN [c] = c.toNat := by show c.toNat + 256 * 0 = _; omega
theorem valN_next {x : Txt} {k : Nat} (h : k < x.length) : valN (x.take (k + 1)) = valN (x.take k) + 256 ^ k * x[k].toNat := by
  rw [<- List.take_append_getElem h,valN_append,valN_one,List.length_take,Nat.min_eq_left (by omega)]
theorem ofInt_mod {a : Int} {m : Nat} (h : a % 18446744073709551616 = (m : Int)) : (BitVec.ofInt 64 a).toNat = m := by
  rw [BitVec.toNat_ofInt]
  have : ((2 ^ 64 : Nat) : Int) = 18446744073709551616 := rfl
  rw [this,h]; rfl
theorem or_shift (v c k : Nat) (h : v < 256 ^ k) : v ||| 256 ^ k * c = v + 256 ^ k * c := by
  have h' : v < 2 ^ (8 * k) := by rw [pow8n']; exact h
  have := Nat.two_pow_add_eq_or_of_lt h' c
  rw [pow8n'] at this
  rw [Nat.or_comm,<- this]; omega
theorem wrap_i64_eq (m : Nat) : IntKind.i64.wrap (m : Int) = wrap64 (m : Int) := by
  simp only [IntKind.wrap,IntKind.bits,IntKind.signed]
  unfold wrap64
  simp
  split <;> omega
theorem wrap64_emod (z : Int) : wrap64 z % 18446744073709551616 = z % 18446744073709551616 := by unfold wrap64; omega
/-- A byte more,shifted to its place and laid over what there is. -/
theorem or_at {v c m k : Nat} (hv : v < 256 ^ k) (hm : v + 256 ^ k * c = m) (hl : m < 18446744073709551616) : bits .or .i64 (wrap64 (v : Int)) (wrap64 ((c : Int) * ((256 ^ k : Nat) : Int))) = wrap64 (m : Int) := by
  have e1 : (BitVec.ofInt 64 (wrap64 (v : Int))).toNat = v := ofInt_mod (by rw [wrap64_emod]; omega)
  have e2 : (BitVec.ofInt 64 (wrap64 ((c : Int) * ((256 ^ k : Nat) : Int)))).toNat = 256 ^ k * c := ofInt_mod (by
    rw [show (c : Int) * ((256 ^ k : Nat) : Int) = ((256 ^ k * c : Nat) : Int) by rw [Nat.mul_comm,Int.natCast_mul],wrap64_emod]
    omega)
  show IntKind.i64.wrap ((BitVec.ofInt 64 (wrap64 (v : Int)) ||| BitVec.ofInt 64 (wrap64 ((c : Int) * ((256 ^ k : Nat) : Int)))).toNat : Int) = _
  rw [BitVec.toNat_or,e1,e2,or_shift v c k hv,hm]
  exact wrap_i64_eq m
theorem pow_le8 {k : Nat} (h : k <= 8) : 256 ^ k <= 18446744073709551616 := Nat.le_trans (Nat.pow_le_pow_right (show 256 > 0 by omega) h) (by decide)
theorem or_next {x : Txt} {k c : Nat} (h8 : x.length = 8) (h : k < 8) (hc : x[k]? = some (UInt8.ofNat c)) (hc2 : c < 256) : bits .or .i64 (wrap64 (valN (x.take k))) (wrap64 ((c : Int) * ((256 ^ k : Nat) : Int))) = wrap64 (valN (x.take (k + 1))) := by
  have hv := valN_lt (x.take k)
  rw [List.length_take,Nat.min_eq_left (by omega)] at hv
  have hn := valN_next (x := x) (k := k) (by omega)
  rw [List.getElem?_eq_getElem (by omega)] at hc
  injection hc with hc
  rw [hc,len_byte hc2] at hn
  have hv1 := valN_lt (x.take (k + 1))
  rw [List.length_take,Nat.min_eq_left (by omega)] at hv1
  exact or_at hv hn.symm (Nat.lt_of_lt_of_le hv1 (pow_le8 (by omega)))
end Go.Proofs.YtfpfdnapamdhjaaGreatDoor.Val
