/- Layer 2: contract of the document's PrintMoney. -/
import Derived.Test.YtfpbmclahihlkaaDoorSufU
namespace Go.Proofs.YtfpbmclahihlkaaDoor
open Go.RowKit Suf

theorem strip_snoc0 (l : List UInt8) : strip (l ++ [48]) = strip l := by
  unfold strip; rw [List.reverse_append]; show ((48 :: l.reverse).dropWhile _).reverse = _
  rw [List.dropWhile_cons]; rfl
theorem strip_snoc1 (l : List UInt8) (c : UInt8) (h : ¬ c = 48) : strip (l ++ [c]) = l ++ [c] := by
  unfold strip; rw [List.reverse_append]; show ((c :: l.reverse).dropWhile _).reverse = _
  rw [List.dropWhile_cons, if_neg (by simpa using h)]; simp
theorem last_split (S : ByteArray) (k : Nat) (h : S.size = k + 1) : S.data.toList = (S.extract 0 k).data.toList ++ [S[k]] := by
  rw [extract_take]
  have := take_snoc8 S k (by omega)
  rw [← this, List.take_of_length_le (by rw [← size_list]; omega)]
/-- What is left of six digits while noughts are cut off. -/
def cutInv (p : Nat) (S : ByteArray) : Prop := strip S.data.toList = strip (six p)
theorem cut_pos (p : Nat) (S : ByteArray) (hp : p < 1000000) (h0 : 0 < p) (h : cutInv p S) : 0 < S.size := by
  have h1 := (strip_pos p hp h0).1
  unfold cutInv at h
  rw [← h] at h1
  rcases Nat.eq_zero_or_pos S.size with e | e
  · rw [size_list] at e
    rw [List.eq_nil_of_length_eq_zero e] at h1
    exact absurd h1 (by decide)
  · exact e
theorem cut_next (p : Nat) (S : ByteArray) (k : Nat) (hk : S.size = k + 1) (h : cutInv p S) (h48 : S[k] = 48) : cutInv p (S.extract 0 k) := by
  unfold cutInv at *
  rw [last_split S k hk, h48, strip_snoc0] at h; exact h
theorem cut_end (p : Nat) (S : ByteArray) (k : Nat) (hk : S.size = k + 1) (h : cutInv p S) (h48 : ¬ S[k] = 48) : S.data.toList = strip (six p) := by
  unfold cutInv at h
  have e := last_split S k hk
  rw [e, strip_snoc1 _ _ h48] at h
  rw [e]; exact h
/-- How long a text in a slot is. -/
def strSize : Value → Nat | .string s => s.size | _ => 0
theorem eq48 (c : UInt8) : (c = 48) = ((c.toNat : Int) = 48) := propext (u8_eq c 48 (by omega))

set_option maxRecDepth 100000 in
set_option maxHeartbeats 2000000 in
theorem rprintMoney_any (n : Int) (w : World) :
    Calls Tryd.prog 20 #[.int .i64 n] w fun e w' => e = .returned (.tuple #[.string (prOut prMoney n), .int .i64 (chk n)]) ∧ Below w.heap.size w w' := by
  by_cases h : chk n = 0
  · obtain ⟨m, rfl, hm⟩ := ok_nat h
    have ht : (chk (m : Int) != 0) = false := by rw [h]; rfl
    have ho := hide (prOut_yes prMoney m h)
    have hz := hide h
    clear h
    have hq : Hid (((m : Int) / 1000000).toNat = m / 1000000) := by show _ = _; omega
    by_cases hr : m % 1000000 = 0
    · have ho2 : Hid (prOut prMoney (m : Int) = ⟨(dec (m / 1000000)).toArray⟩) := by
        show _ = _; rw [unhide ho]; unfold prMoney; rw [if_pos hr, List.append_nil]
      clear ho
      go_enter Tryd.func20, Tryd.ntmps20
      go_wp2_with (go_at_call 35; refine (rcheck_any _ _).mono ?_; rintro e w' ⟨rfl, rfl⟩)
      refine (rdecimalZ_any _ _ (by omega) (by omega)).mono ?_
      rintro e w1 ⟨he, hw1⟩
      rw [unhide hq] at he
      subst he
      have HB := hide hw1
      clear hw1
      go_wp2_with fail
      go_ret2
      exact ⟨ret_strpair (unhide ho2).symm (unhide hz).symm, unhide HB⟩
    · obtain ⟨p, hp⟩ : ∃ p, p = m % 1000000 := ⟨_, rfl⟩
      have hpi : Hid (∃ D : ByteArray, D = ⟨(dec (1000000 + p)).toArray⟩) := ⟨_, rfl⟩
      have hlt : p < 1000000 := by omega
      have hp0 : 0 < p := by omega
      have ho2 : Hid (∀ S : ByteArray, S.data.toList = strip (six p) → prOut prMoney (m : Int) = (⟨(dec (m / 1000000)).toArray⟩ ++ ⟨#[46]⟩) ++ S) := by
        intro S hS
        rw [unhide ho]; unfold prMoney; rw [if_neg hr, ← hp]; apply bytes_ext; rw [append_list, append_list, hS]
        show _ = dec (m / 1000000) ++ [46] ++ strip (six p)
        rw [List.append_assoc]; rfl
      have hmp : Hid (((m : Int) % 1000000 + 1000000).toNat = 1000000 + p) := by show _ = _; omega
      have hcut := hide (fun D h => million_cut p hlt D h)
      have hsz7 := hide (million_size p hlt)
      have hpos := hide (fun S h => cut_pos p S hlt hp0 h)
      have hlen := dec_len (m / 1000000) (by omega)
      clear ho hp hlt hp0
      go_enter Tryd.func20, Tryd.ntmps20
      go_wp2_with (go_at_call 35; refine (rcheck_any _ _).mono ?_; rintro e w' ⟨rfl, rfl⟩)
      refine (rdecimalZ_any _ _ (by omega) (by omega)).mono ?_
      rintro e w1 ⟨he, hw1⟩
      rw [unhide hq] at he
      subst he
      have HB := hide hw1
      clear hw1
      go_wp2_with fail
      refine (rdecimalZ_any _ _ (by omega) (by omega)).mono ?_
      rintro e w2 ⟨he, hw2⟩
      rw [unhide hmp] at he
      have HB2 := hide (chain (unhide HB) hw2)
      clear hw2 HB
      obtain ⟨D, hD⟩ := unhide hpi
      have hDs : D.size = 7 := by rw [hD]; exact unhide hsz7
      have hDc : Hid (cutInv p (D.extract 1 7)) := by
        have := unhide hcut D hD
        rw [hDs] at this
        show strip _ = strip _
        rw [this]
      rw [← hD] at he
      clear hpi hD hmp hcut hsz7
      subst he
      go_wp2_with fail
      go_loop [7] (fun d => ∃ S : ByteArray, d = .string S ∧ Hid (cutInv p S) ∧ S.size ≤ 6) (fun d => strSize d)
      case atStart => exact ⟨_, rfl, hDc, by rw [ByteArray.size_extract]; omega⟩
      case round =>
        obtain ⟨S, rfl, hinv, hS6⟩ := hrel
        have hp1 := unhide hpos S (unhide hinv)
        obtain ⟨k, hk⟩ : ∃ k, S.size = k + 1 := ⟨S.size - 1, by omega⟩
        have hk6 : k ≤ 5 := by omega
        by_cases h48 : S[k] = 48
        · have hnx := hide (cut_next p S k hk (unhide hinv) h48)
          have ht48 : ((S[k].toNat : Int) == 48) = true := by rw [h48]; rfl
          clear h48 hp1 hS6 hDs
          go_wp2_with fail
          exact ⟨⟨_, rfl, hnx, by rw [ByteArray.size_extract]; omega⟩, by show (S.extract 0 k).size < S.size; rw [ByteArray.size_extract]; omega⟩
        · have hend := hide (cut_end p S k hk (unhide hinv) h48)
          have ht48 : ((S[k].toNat : Int) == 48) = false := beq_eq_false_iff_ne.2 (fun c => h48 ((eq48 S[k]).mpr c))
          have ho3 := hide (unhide ho2 S (unhide hend))
          clear h48 hp1 hS6 hDs
          go_wp2_with fail
          go_ret2
          exact ⟨ret_strpair (unhide ho3).symm (unhide hz).symm, unhide HB2⟩
  · have ht : (chk n != 0) = true := bne_iff_ne.2 h
    have ho := hide (prOut_no prMoney n h)
    clear h
    go_enter Tryd.func20, Tryd.ntmps20
    go_wp2_with (go_at_call 35; refine (rcheck_any _ _).mono ?_; rintro e w' ⟨rfl, rfl⟩)
    go_ret2
    exact ⟨ret_strpair (unhide ho).symm rfl, Below.refl _ _⟩

end Go.Proofs.YtfpbmclahihlkaaDoor
