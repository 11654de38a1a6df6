/- Layer 2: contracts of 'again' at the three kinds of texts. -/
import Derived.Test.YtfpbmclahihlkaaDoorSufL
namespace Go.Proofs.YtfpbmclahihlkaaDoor
open Go.RowKit Suf

/-- What a reading answers: an error and 0, or an amount. -/
def goodR (p : Int × Int) : Prop := (¬ p.2 = 0 ∧ p.1 = 0) ∨ (p.2 = 0 ∧ ∃ m : Nat, p.1 = m ∧ m ≤ 1125899906842624)
theorem good_times (n k : Nat) : goodR (times n k) := by
  unfold Suf.times
  by_cases h : n * k ≤ 1125899906842624
  · rw [if_pos h]; exact Or.inr ⟨rfl, _, rfl, h⟩
  · rw [if_neg h]; exact Or.inl ⟨by decide, rfl⟩
theorem good_form : goodR form := Or.inl ⟨by decide, rfl⟩
theorem good_money (n v : Nat) : goodR (money n v) := by
  unfold money
  by_cases h : n * 1000000 + v ≤ 1125899906842624
  · rw [if_pos h]; exact Or.inr ⟨rfl, _, rfl, h⟩
  · rw [if_neg h]; exact Or.inl ⟨by decide, rfl⟩
theorem good_cpu (l : List UInt8) : goodR (pCPU l) := by
  unfold pCPU; split
  · split
    · exact good_times _ _
    · exact good_form
  · split
    · exact good_times _ _
    · exact good_form
theorem good_pB (l : List UInt8) : ∀ k, goodR (pB l k)
  | 0 => by unfold pB; split
            · exact good_times _ _
            · exact good_form
  | k + 1 => by unfold pB; split
                · exact good_times _ _
                · exact good_pB l k
theorem good_bytes (l : List UInt8) : goodR (pBytes l) := good_pB l 4
theorem good_mon (l : List UInt8) : goodR (pMoney l) := by
  unfold pMoney; split
  · split
    · exact good_money _ _
    · exact good_form
  · split
    · exact good_money _ _
    · exact good_form

theorem pr_len {f : Nat → List UInt8} {n : Nat} {s : ByteArray} (h : s = ⟨(f n).toArray⟩) (hl : (f n).length ≤ 26) : s.size ≤ maxLen := by
  subst h; rw [size_list]; show (f n).length ≤ maxLen; unfold maxLen; omega
theorem suf_short (k : Nat) : (suf k).length ≤ 2 := by
  match k with
  | 0 | 1 | 2 | 3 | 4 => decide
  | k + 5 => exact Nat.zero_le 2
theorem len_cpu (n : Nat) (h : n ≤ 1125899906842624) : (prCPU n).length ≤ 26 := by
  unfold prCPU; split
  · have := dec_len (n / 1000) (by omega); omega
  · have := dec_len n (by omega); rw [List.length_append]; show _ + 1 ≤ 26; omega
theorem len_bytes (n : Nat) (h : n ≤ 1125899906842624) : (prBytes n).length ≤ 26 := by
  unfold prBytes; split
  · decide
  · have h1 := dec_len (n / 1024 ^ topK n) (by have := Nat.div_le_self n (1024 ^ topK n); omega)
    have h2 := suf_short (topK n)
    rw [List.length_append]; omega
theorem len_money (n : Nat) (h : n ≤ 1125899906842624) : (prMoney n).length ≤ 26 := by
  unfold prMoney
  have h1 := dec_len (n / 1000000) (by omega)
  rw [List.length_append]
  split
  · show _ + 0 ≤ 26; omega
  · have := trim_len (six (n % 1000000))
    rw [show (six (n % 1000000)).length = 6 from rfl] at this
    show _ + ((strip (six (n % 1000000))).length + 1) ≤ 26
    have e : strip (six (n % 1000000)) = Lib.trimRightB (six (n % 1000000)) 48 := rfl
    rw [e]; omega

set_option maxHeartbeats 1000000 in
theorem againCPU_any (x h : Int) (w : World) (hg : goodR (x, h)) (hL : Laid w) :
    Calls Tryd.prog 21 #[.int .i64 x, .int .i64 h, .func (.func 16) #[] #[], .func (.func 8) #[] #[]] w fun e w' => e = .returned (.bool true) ∧ Below w.heap.size w w' := by
  have HL := hide hL
  clear hL
  rcases hg with ⟨h0, h1⟩ | ⟨h0, m, h1, hm⟩
  · simp only at h0 h1
    subst h1
    have ht : (h != 0) = true := bne_iff_ne.2 h0
    clear h0
    go_enter Tryd.func21, Tryd.ntmps21
    go_wp2_with fail
    go_ret
    exact ⟨rfl, Below.refl _ _⟩
  · simp only at h0 h1
    subst h0 h1
    have hc := hide (chk_ok (n := (m : Int)) (by omega) (by omega))
    have ho := hide (prOut_yes prCPU m (unhide hc))
    obtain ⟨S, hS⟩ : ∃ S : ByteArray, S = ⟨(prCPU m).toArray⟩ := ⟨_, rfl⟩
    have hSl := hide (pr_len hS (len_cpu m hm))
    have hSp : Hid (pCPU S.data.toList = ((m : Int), 0)) := by
      show _ = _; rw [hS]; exact cpu_back m hm
    rw [← hS] at ho
    clear hS
    go_enter Tryd.func21, Tryd.ntmps21
    go_wp2_with fail
    refine (printCPU_any _ _ (unhide HL)).mono ?_
    rintro e w1 ⟨he, hw1⟩
    rw [unhide ho, unhide hc] at he
    subst he
    have HB1 := hide hw1
    clear hw1
    go_wp2_with fail
    refine (parseCPU_any _ _ (unhide hSl)).mono ?_
    rintro e w2 ⟨he, hw2⟩
    rw [unhide hSp] at he
    subst he
    have HB2 := hide (chain (unhide HB1) hw2)
    clear hw2 HB1
    go_wp2_with fail
    go_ret
    exact ⟨by simp, unhide HB2⟩

set_option maxHeartbeats 1000000 in
theorem againBytes_any (x h : Int) (w : World) (hg : goodR (x, h)) (hL : Laid w) :
    Calls Tryd.prog 21 #[.int .i64 x, .int .i64 h, .func (.func 18) #[] #[], .func (.func 9) #[] #[]] w fun e w' => e = .returned (.bool true) ∧ Below w.heap.size w w' := by
  have HL := hide hL
  clear hL
  rcases hg with ⟨h0, h1⟩ | ⟨h0, m, h1, hm⟩
  · simp only at h0 h1
    subst h1
    have ht : (h != 0) = true := bne_iff_ne.2 h0
    clear h0
    go_enter Tryd.func21, Tryd.ntmps21
    go_wp2_with fail
    go_ret
    exact ⟨rfl, Below.refl _ _⟩
  · simp only at h0 h1
    subst h0 h1
    have hc := hide (chk_ok (n := (m : Int)) (by omega) (by omega))
    have ho := hide (prOut_yes prBytes m (unhide hc))
    obtain ⟨S, hS⟩ : ∃ S : ByteArray, S = ⟨(prBytes m).toArray⟩ := ⟨_, rfl⟩
    have hSl := hide (pr_len hS (len_bytes m hm))
    have hSp : Hid (pBytes S.data.toList = ((m : Int), 0)) := by
      show _ = _; rw [hS]; exact bytes_back m hm
    rw [← hS] at ho
    clear hS
    go_enter Tryd.func21, Tryd.ntmps21
    go_wp2_with fail
    refine (printBytes_any _ _ (unhide HL)).mono ?_
    rintro e w1 ⟨he, hw1⟩
    rw [unhide ho, unhide hc] at he
    subst he
    have HB1 := hide hw1
    clear hw1
    go_wp2_with fail
    refine (parseBytes_any _ _ (unhide hSl) ((unhide HL).below (unhide HB1))).mono ?_
    rintro e w2 ⟨he, hw2⟩
    rw [unhide hSp] at he
    subst he
    have HB2 := hide (chain (unhide HB1) hw2)
    clear hw2 HB1
    go_wp2_with fail
    go_ret
    exact ⟨by simp, unhide HB2⟩

set_option maxHeartbeats 1000000 in
theorem againMoney_any (x h : Int) (w : World) (hg : goodR (x, h)) (hL : Laid w) :
    Calls Tryd.prog 21 #[.int .i64 x, .int .i64 h, .func (.func 11) #[] #[], .func (.func 10) #[] #[]] w fun e w' => e = .returned (.bool true) ∧ Below w.heap.size w w' := by
  have HL := hide hL
  clear hL
  rcases hg with ⟨h0, h1⟩ | ⟨h0, m, h1, hm⟩
  · simp only at h0 h1
    subst h1
    have ht : (h != 0) = true := bne_iff_ne.2 h0
    clear h0
    go_enter Tryd.func21, Tryd.ntmps21
    go_wp2_with fail
    go_ret
    exact ⟨rfl, Below.refl _ _⟩
  · simp only at h0 h1
    subst h0 h1
    have hc := hide (chk_ok (n := (m : Int)) (by omega) (by omega))
    have ho := hide (prOut_yes prMoney m (unhide hc))
    obtain ⟨S, hS⟩ : ∃ S : ByteArray, S = ⟨(prMoney m).toArray⟩ := ⟨_, rfl⟩
    have hSl := hide (pr_len hS (len_money m hm))
    have hSp : Hid (pMoney S.data.toList = ((m : Int), 0)) := by
      show _ = _; rw [hS]; exact money_back m hm
    rw [← hS] at ho
    clear hS
    go_enter Tryd.func21, Tryd.ntmps21
    go_wp2_with fail
    refine (printMoney_any _ _ (unhide HL)).mono ?_
    rintro e w1 ⟨he, hw1⟩
    rw [unhide ho, unhide hc] at he
    subst he
    have HB1 := hide hw1
    clear hw1
    go_wp2_with fail
    refine (parseMoney_any _ _ (unhide hSl)).mono ?_
    rintro e w2 ⟨he, hw2⟩
    rw [unhide hSp] at he
    subst he
    have HB2 := hide (chain (unhide HB1) hw2)
    clear hw2 HB1
    go_wp2_with fail
    go_ret
    exact ⟨by simp, unhide HB2⟩

end Go.Proofs.YtfpbmclahihlkaaDoor
