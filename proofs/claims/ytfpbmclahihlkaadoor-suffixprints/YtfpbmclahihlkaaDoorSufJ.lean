/- Layer 2: contracts of PrintCPU, PrintBytes and PrintMoney. -/
import Derived.Test.YtfpbmclahihlkaaDoorSufI
namespace Go.Proofs.YtfpbmclahihlkaaDoor
open Go.RowKit Suf

/-- What a print call answers: the text where the number has no error. -/
def prOut (f : Nat → List UInt8) (n : Int) : ByteArray := if chk n = 0 then ⟨(f n.toNat).toArray⟩ else ⟨#[]⟩
theorem prOut_no (f : Nat → List UInt8) (n : Int) (h : ¬ chk n = 0) : prOut f n = ⟨#[]⟩ := by unfold prOut; rw [if_neg h]
theorem prOut_yes (f : Nat → List UInt8) (m : Nat) (h : chk (m : Int) = 0) : prOut f (m : Int) = ⟨(f m).toArray⟩ := by unfold prOut; rw [if_pos h, Int.toNat_natCast]
theorem bytes_ext {a b : ByteArray} (h : a.data.toList = b.data.toList) : a = b := by
  obtain ⟨⟨a⟩⟩ := a; obtain ⟨⟨b⟩⟩ := b; simp at h; subst h; rfl
theorem decimalZ_any (z : Int) (w : World) (h0 : 0 ≤ z) (hn : z < 1000000000000000000) (hL : Laid w) :
    Calls Tryd.prog 28 #[.int .i64 z] w fun e w' => e = .returned (.string ⟨(dec z.toNat).toArray⟩) ∧ Below w.heap.size w w' := by
  obtain ⟨m, rfl⟩ : ∃ m : Nat, z = (m : Int) := ⟨z.toNat, by omega⟩
  rw [Int.toNat_natCast]
  exact decimal_any m w (by omega) hL
theorem dec_len (n : Nat) (h : n < 1000000000000000000) : (dec n).length ≤ 18 := decFuel_len 20 n 18 (by exact h) (by omega)
theorem trim_len (l : List UInt8) : (Lib.trimRightB l 48).length ≤ l.length := by
  unfold Lib.trimRightB
  rw [List.length_reverse]
  have := (List.dropWhile_sublist (· == (48 : UInt8)) (l := l.reverse)).length_le
  rw [List.length_reverse] at this; exact this
theorem ok_nat {n : Int} (h : chk n = 0) : ∃ m : Nat, n = (m : Int) ∧ m ≤ 1125899906842624 := by
  have := chk_eq h
  exact ⟨n.toNat, by omega, by omega⟩

set_option maxHeartbeats 1000000 in
theorem printCPU_any (n : Int) (w : World) (hL : Laid w) :
    Calls Tryd.prog 16 #[.int .i64 n] w fun e w' => e = .returned (.tuple #[.string (prOut prCPU n), .int .i64 (chk n)]) ∧ Below w.heap.size w w' := by
  have HL := hide hL
  clear hL
  by_cases h : chk n = 0
  · obtain ⟨m, rfl, hm⟩ := ok_nat h
    have ht : (chk (m : Int) != 0) = false := by rw [h]; rfl
    have ho := hide (prOut_yes prCPU m h)
    have hz := hide h
    clear h
    by_cases hr : m % 1000 = 0
    · have ho2 : Hid (prOut prCPU (m : Int) = ⟨(dec ((m : Int) / 1000).toNat).toArray⟩) := by
        show _ = _; rw [unhide ho]; unfold prCPU; rw [if_pos hr, show ((m : Int) / 1000).toNat = m / 1000 by omega]
      clear ho
      go_enter Tryd.func16, Tryd.ntmps16
      go_wp2_with (go_at_call 27; refine (check_any _ _).mono ?_; rintro e w' ⟨rfl, rfl⟩)
      refine (decimalZ_any _ _ (by omega) (by omega) (unhide HL)).mono ?_
      rintro e w1 ⟨rfl, hw1⟩
      have HB := hide hw1
      clear hw1
      go_wp2_with fail
      go_ret2
      exact ⟨ret_strpair (unhide ho2).symm (unhide hz).symm, unhide HB⟩
    · have ho2 : Hid (prOut prCPU (m : Int) = ⟨(dec m).toArray⟩ ++ ⟨#[109]⟩) := by
        show _ = _; rw [unhide ho]; unfold prCPU; rw [if_neg hr]; apply bytes_ext; rw [append_list]
      have hlen := dec_len m (by omega)
      clear ho
      go_enter Tryd.func16, Tryd.ntmps16
      go_wp2_with (go_at_call 27; refine (check_any _ _).mono ?_; rintro e w' ⟨rfl, rfl⟩)
      refine (decimal_any _ _ (by omega) (unhide HL)).mono ?_
      rintro e w1 ⟨rfl, hw1⟩
      have HB := hide hw1
      clear hw1
      go_wp2_with fail
      go_ret2
      exact ⟨ret_strpair (unhide ho2).symm (unhide hz).symm, unhide HB⟩
  · have ht : (chk n != 0) = true := bne_iff_ne.2 h
    have ho := hide (prOut_no prCPU n h)
    clear h
    go_enter Tryd.func16, Tryd.ntmps16
    go_wp2_with (go_at_call 27; refine (check_any _ _).mono ?_; rintro e w' ⟨rfl, rfl⟩)
    go_ret2
    exact ⟨ret_strpair (unhide ho).symm rfl, Below.refl _ _⟩

/-- A number of seven digits that opens with 1. -/
theorem decFuel_step (f n : Nat) (h : ¬ n < 10) : decFuel (f + 1) n = decFuel f (n / 10) ++ [UInt8.ofNat (48 + n % 10)] := by
  show (if n < 10 then [] else decFuel f (n / 10)) ++ [UInt8.ofNat (48 + n % 10)] = _
  rw [if_neg h]
theorem decFuel_last (f n : Nat) (h : n < 10) : decFuel (f + 1) n = [UInt8.ofNat (48 + n)] := by
  show (if n < 10 then [] else decFuel f (n / 10)) ++ [UInt8.ofNat (48 + n % 10)] = _
  rw [if_pos h, Nat.mod_eq_of_lt h]; rfl
theorem dec_million (p : Nat) (h : p < 1000000) : dec (1000000 + p) = 49 :: six p := by
  unfold dec
  rw [decFuel_step 19 _ (by omega), decFuel_step 18 _ (by omega), decFuel_step 17 _ (by omega), decFuel_step 16 _ (by omega), decFuel_step 15 _ (by omega), decFuel_step 14 _ (by omega), decFuel_last 13 _ (by omega)]
  rw [show (1000000 + p) % 10 = p % 10 by omega, show (1000000 + p) / 10 % 10 = p / 10 % 10 by omega, show (1000000 + p) / 10 / 10 % 10 = p / 100 % 10 by omega, show (1000000 + p) / 10 / 10 / 10 % 10 = p / 1000 % 10 by omega,
    show (1000000 + p) / 10 / 10 / 10 / 10 % 10 = p / 10000 % 10 by omega, show (1000000 + p) / 10 / 10 / 10 / 10 / 10 % 10 = p / 100000 % 10 by omega, show (1000000 + p) / 10 / 10 / 10 / 10 / 10 / 10 = 1 by omega]
  rfl
theorem million_size (p : Nat) (h : p < 1000000) : (⟨(dec (1000000 + p)).toArray⟩ : ByteArray).size = 7 := by
  rw [size_list, dec_million p h]; rfl
theorem million_cut (p : Nat) (h : p < 1000000) (D : ByteArray) (hD : D = ⟨(dec (1000000 + p)).toArray⟩) : (D.extract 1 D.size).data.toList = six p := by
  subst hD
  rw [million_size p h, ByteArray.data_extract, Array.toList_extract, List.extract_eq_take_drop]
  show List.take 6 (List.drop 1 (dec (1000000 + p))) = six p
  rw [dec_million p h]; rfl

set_option maxHeartbeats 1000000 in
theorem printMoney_any (n : Int) (w : World) (hL : Laid w) :
    Calls Tryd.prog 11 #[.int .i64 n] w fun e w' => e = .returned (.tuple #[.string (prOut prMoney n), .int .i64 (chk n)]) ∧ Below w.heap.size w w' := by
  have HL := hide hL
  clear hL
  by_cases h : chk n = 0
  · obtain ⟨m, rfl, hm⟩ := ok_nat h
    have ht : (chk (m : Int) != 0) = false := by rw [h]; rfl
    have ho := hide (prOut_yes prMoney m h)
    have hz := hide h
    clear h
    have hq : Hid (((m : Int) / 1000000).toNat = m / 1000000) := by show _ = _; omega
    by_cases hr : m % 1000000 = 0
    · have ho2 : Hid (prOut prMoney (m : Int) = ⟨(dec (m / 1000000)).toArray⟩) := by
        show _ = _; rw [unhide ho]; unfold prMoney; rw [if_pos hr, List.append_nil]
      clear ho
      go_enter Tryd.func11, Tryd.ntmps11
      go_wp2_with (go_at_call 27; refine (check_any _ _).mono ?_; rintro e w' ⟨rfl, rfl⟩)
      refine (decimalZ_any _ _ (by omega) (by omega) (unhide HL)).mono ?_
      rintro e w1 ⟨he, hw1⟩
      rw [unhide hq] at he
      subst he
      have HB := hide hw1
      clear hw1
      go_wp2_with fail
      go_ret2
      exact ⟨ret_strpair (unhide ho2).symm (unhide hz).symm, unhide HB⟩
    · obtain ⟨p, hp⟩ : ∃ p, p = m % 1000000 := ⟨_, rfl⟩
      have hpi : Hid (∃ D : ByteArray, D = ⟨(dec (1000000 + p)).toArray⟩) := ⟨_, rfl⟩
      have hlt : p < 1000000 := by omega
      have ho2 : Hid (prOut prMoney (m : Int) = (⟨(dec (m / 1000000)).toArray⟩ ++ ⟨#[46]⟩) ++ ⟨(Lib.trimRightB (six p) 48).toArray⟩) := by
        show _ = _; rw [unhide ho]; unfold prMoney; rw [if_neg hr, ← hp]; apply bytes_ext; rw [append_list, append_list]
        show _ = dec (m / 1000000) ++ [46] ++ strip (six p)
        rw [List.append_assoc]; rfl
      have hmp : Hid ((1000000 + (m : Int) % 1000000).toNat = 1000000 + p) := by show _ = _; omega
      have hcut := hide (fun D h => million_cut p hlt D h)
      have hsz7 := hide (million_size p hlt)
      have hlen := dec_len (m / 1000000) (by omega)
      have hlen2 := trim_len (six p)
      rw [show (six p).length = 6 from rfl] at hlen2
      clear ho hp
      go_enter Tryd.func11, Tryd.ntmps11
      go_wp2_with (go_at_call 27; refine (check_any _ _).mono ?_; rintro e w' ⟨rfl, rfl⟩)
      refine (decimalZ_any _ _ (by omega) (by omega) (unhide HL)).mono ?_
      rintro e w1 ⟨he, hw1⟩
      rw [unhide hq] at he
      subst he
      have HB := hide hw1
      have HL1 := hide ((unhide HL).below hw1)
      clear hw1 HL
      go_wp2_with fail
      refine (decimalZ_any _ _ (by omega) (by omega) (unhide HL1)).mono ?_
      rintro e w2 ⟨he, hw2⟩
      rw [unhide hmp] at he
      have HB2 := hide (chain (unhide HB) hw2)
      clear hw2 HB HL1
      obtain ⟨D, hD⟩ := unhide hpi
      have hDs : D.size = 7 := by rw [hD]; exact unhide hsz7
      have hDc : Hid ((D.extract 1 7).data.toList = six p) := by
        have := unhide hcut D hD
        rw [hDs] at this; exact this
      rw [← hD] at he
      clear hpi hD hmp hcut hsz7
      subst he
      go_wp2_with fail
      refine (Tryd.strings_TrimRight_one _ 48 (by decide) _ (by rw [ByteArray.size_extract]; omega)).mono ?_
      rintro e w3 ⟨he, rfl⟩
      rw [unhide hDc] at he
      subst he
      go_wp2_with fail
      go_ret2
      exact ⟨ret_strpair (unhide ho2).symm (unhide hz).symm, unhide HB2⟩
  · have ht : (chk n != 0) = true := bne_iff_ne.2 h
    have ho := hide (prOut_no prMoney n h)
    clear h
    go_enter Tryd.func11, Tryd.ntmps11
    go_wp2_with (go_at_call 27; refine (check_any _ _).mono ?_; rintro e w' ⟨rfl, rfl⟩)
    go_ret2
    exact ⟨ret_strpair (unhide ho).symm rfl, Below.refl _ _⟩

end Go.Proofs.YtfpbmclahihlkaaDoor
