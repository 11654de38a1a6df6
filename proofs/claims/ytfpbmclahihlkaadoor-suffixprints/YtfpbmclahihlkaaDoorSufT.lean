/- Layer 2: contract of the document's Decimal. -/
import Derived.Test.YtfpbmclahihlkaaDoorSufP
namespace Go.Proofs.YtfpbmclahihlkaaDoor
open Go.RowKit Suf

/-- Kept from the walk's own search too: an inequality with a great literal behind Hid is still opened there. -/
theorem hide1 {p : Prop} (h : p) : Hid (Unit → p) := fun _ => h
theorem unhide1 {p : Prop} (h : Hid (Unit → p)) : p := h ()
/-- What is left to be told of a number, and what has been told. -/
def decInv (N m : Nat) (S : ByteArray) : Prop := ∃ f, m < 10 ^ (f + 1) ∧ decFuel (f + 1) m ++ S.data.toList = dec N
theorem decInv_start (N : Nat) (h : N < 1000000000000000000) : decInv N N ⟨#[]⟩ := ⟨19, Nat.lt_of_lt_of_le h (by decide), List.append_nil _⟩
theorem decInv_len (N m : Nat) (S : ByteArray) (hN : N < 1000000000000000000) (h : decInv N m S) : S.size ≤ 18 := by
  obtain ⟨f, _, e⟩ := h
  have := dec_len N hN
  rw [← e, List.length_append, ← size_list] at this
  omega
theorem decInv_next (N m : Nat) (S T : ByteArray) (h : decInv N m S) (hm : ¬ m < 10) (hT : T.data.toList = UInt8.ofNat (48 + m % 10) :: S.data.toList) : decInv N (m / 10) T := by
  obtain ⟨f, hf, e⟩ := h
  match f, hf, e with
  | 0, hf, _ => simp at hf; omega
  | f + 1, hf, e =>
    refine ⟨f, by rw [Nat.pow_succ] at hf; omega, ?_⟩
    rw [hT, ← e, decFuel_step (f + 1) m hm, List.append_assoc]; rfl
theorem decInv_end (N m : Nat) (S T : ByteArray) (h : decInv N m S) (hm : m < 10) (hT : T.data.toList = UInt8.ofNat (48 + m % 10) :: S.data.toList) : T = ⟨(dec N).toArray⟩ := by
  obtain ⟨f, hf, e⟩ := h
  apply bytes_ext
  rw [hT]
  show _ = dec N
  rw [← e, decFuel_last f m hm, Nat.mod_eq_of_lt hm]; rfl

theorem cons_list (c : UInt8) (S : ByteArray) : ((⟨#[c]⟩ : ByteArray) ++ S).data.toList = c :: S.data.toList := by rw [append_list]; rfl
theorem div10_lt (m : Nat) (h : ¬ m < 10) : (intOf (.int .i64 ((m : Int) / 10))).toNat < (intOf (.int .i64 (m : Int))).toNat := by
  show ((m : Int) / 10).toNat < ((m : Int)).toNat
  omega
/-- One byte as a text. -/
theorem conv_one (W : World) (z : Int) : (convert 63 9 (.slice (some ⟨W.heap.size, 0, none⟩) 1 1)).run Tryd.prog (W.alloc (.cells #[.int .u8 z] 5)) = .ok (.string ⟨#[UInt8.ofNat z.toNat]⟩) (W.alloc (.cells #[.int .u8 z] 5)) := by
  rw [run_convert_bytes_string _ _ _ _ _ _ _ Tryd.underlying63 Tryd.underlying5 Tryd.underlying9]
  rw [run_bytesToString _ _ _ _ [z] (by simp [go_sem])]
  rfl
set_option maxRecDepth 100000 in
set_option maxHeartbeats 1000000 in
theorem rdecimal_any (N : Nat) (w : World) (hN : N < 1000000000000000000) :
    Calls Tryd.prog 36 #[.int .i64 N] w fun e w' => e = .returned (.string ⟨(dec N).toArray⟩) ∧ Below w.heap.size w w' := by
  have HN := hide1 hN
  have H0 := hide (decInv_start N hN)
  clear hN
  go_enter Tryd.func36, Tryd.ntmps36
  go_wp2_with fail
  go_loopw [0, 3] (fun n s W => ∃ (m : Nat) (S : ByteArray), n = .int .i64 m ∧ s = .string S ∧ Hid (decInv N m S) ∧ Hid (Below w.heap.size w W) ∧ m ≤ N) (fun n _ _ => (intOf n).toNat)
  case atStart => exact ⟨N, ⟨#[]⟩, rfl, rfl, H0, Below.refl _ _, Nat.le_refl _⟩
  case round =>
    obtain ⟨m, S, rfl, rfl, hinv, hbel, hmN⟩ := hrel
    have hwr : wrap64 ((m : Int) / 10) = (m : Int) / 10 := by
      have := unhide1 HN
      unfold wrap64; omega
    have hS := decInv_len N m S (unhide1 HN) (unhide hinv)
    have hr0 : 0 ≤ (m : Int) % 10 := by omega
    have hr1 : (m : Int) % 10 ≤ 9 := by omega
    have hcv := conv_one wr (48 + (m : Int) % 10)
    have hu8 : (48 + (m : Int) % 10).toNat = 48 + m % 10 := by omega
    rw [hu8] at hcv
    clear hu8
    obtain ⟨c, hc⟩ : ∃ c, c = UInt8.ofNat (48 + m % 10) := ⟨_, rfl⟩
    rw [← hc] at hcv
    by_cases hm : m < 10
    · have hend := hide (decInv_end N m S (⟨#[c]⟩ ++ S) (unhide hinv) hm (by rw [cons_list, hc]))
      have hz : ((m : Int) / 10 == 0) = true := beq_iff_eq.2 (by omega)
      clear hc
      go_wp2_with fail
      go_ret
      exact ⟨ret_str (unhide hend), (unhide hbel).alloc (unhide hbel).size _⟩
    · have hnext := hide (decInv_next N m S (⟨#[c]⟩ ++ S) (unhide hinv) hm (by rw [cons_list, hc]))
      have hz : ((m : Int) / 10 == 0) = false := beq_eq_false_iff_ne.2 (by omega)
      clear hc
      go_wp2_with fail
      go_roundw
      case rel => exact ⟨m / 10, ⟨#[c]⟩ ++ S, congrArg (Value.int .i64) (by omega), rfl, hnext, (unhide hbel).alloc (unhide hbel).size _, by omega⟩
      case measure => rw [hwr]; exact div10_lt m hm
theorem rdecimalZ_any (z : Int) (w : World) (h0 : 0 ≤ z) (hn : z < 1000000000000000000) :
    Calls Tryd.prog 36 #[.int .i64 z] w fun e w' => e = .returned (.string ⟨(dec z.toNat).toArray⟩) ∧ Below w.heap.size w w' := by
  obtain ⟨m, rfl⟩ : ∃ m : Nat, z = (m : Int) := ⟨z.toNat, by omega⟩
  rw [Int.toNat_natCast]
  exact rdecimal_any m w (by omega)

/-! The document's prints. -/
set_option maxHeartbeats 1000000 in
theorem rprintCPU_any (n : Int) (w : World) :
    Calls Tryd.prog 17 #[.int .i64 n] w fun e w' => e = .returned (.tuple #[.string (prOut prCPU n), .int .i64 (chk n)]) ∧ Below w.heap.size w w' := by
  by_cases h : chk n = 0
  · obtain ⟨m, rfl, hm⟩ := ok_nat h
    have ht : (chk (m : Int) != 0) = false := by rw [h]; rfl
    have ho := hide (prOut_yes prCPU m h)
    have hz := hide h
    clear h
    by_cases hr : m % 1000 = 0
    · have ho2 : Hid (prOut prCPU (m : Int) = ⟨(dec ((m : Int) / 1000).toNat).toArray⟩) := by
        show _ = _; rw [unhide ho]; unfold prCPU; rw [if_pos hr, show ((m : Int) / 1000).toNat = m / 1000 by omega]
      clear ho
      go_enter Tryd.func17, Tryd.ntmps17
      go_wp2_with (go_at_call 35; refine (rcheck_any _ _).mono ?_; rintro e w' ⟨rfl, rfl⟩)
      refine (rdecimalZ_any _ _ (by omega) (by omega)).mono ?_
      rintro e w1 ⟨rfl, hw1⟩
      have HB := hide hw1
      clear hw1
      go_wp2_with fail
      go_ret2
      exact ⟨ret_strpair (unhide ho2).symm (unhide hz).symm, unhide HB⟩
    · have ho2 : Hid (prOut prCPU (m : Int) = ⟨(dec m).toArray⟩ ++ ⟨#[109]⟩) := by
        show _ = _; rw [unhide ho]; unfold prCPU; rw [if_neg hr]; apply bytes_ext; rw [append_list]
      have hlen := dec_len m (by omega)
      clear ho
      go_enter Tryd.func17, Tryd.ntmps17
      go_wp2_with (go_at_call 35; refine (rcheck_any _ _).mono ?_; rintro e w' ⟨rfl, rfl⟩)
      refine (rdecimal_any _ _ (by omega)).mono ?_
      rintro e w1 ⟨rfl, hw1⟩
      have HB := hide hw1
      clear hw1
      go_wp2_with fail
      go_ret2
      exact ⟨ret_strpair (unhide ho2).symm (unhide hz).symm, unhide HB⟩
  · have ht : (chk n != 0) = true := bne_iff_ne.2 h
    have ho := hide (prOut_no prCPU n h)
    clear h
    go_enter Tryd.func17, Tryd.ntmps17
    go_wp2_with (go_at_call 35; refine (rcheck_any _ _).mono ?_; rintro e w' ⟨rfl, rfl⟩)
    go_ret2
    exact ⟨ret_strpair (unhide ho).symm rfl, Below.refl _ _⟩


end Go.Proofs.YtfpbmclahihlkaaDoor
