/- The walk of SuffixBack. -/
import Derived.Test.YtfpbmclahihlkaaDoorSufN
import Derived.Deep.DeepCutAuto
namespace Go.Proofs.YtfpbmclahihlkaaDoor.suffixBack
open Go.RowKit Suf

/-- Of two numbers that may be printed: their texts are the same just if they are. -/
theorem same_text {f : Nat → List UInt8} (hinj : ∀ n m : Nat, n ≤ 1125899906842624 → m ≤ 1125899906842624 → f n = f m → n = m) (n : Nat) (m : Int) (hn : n ≤ 1125899906842624) (hm : chk m = 0) (A P : ByteArray) (hA : A = prOut f n) (hP : P = prOut f m) :
    (A.toList == P.toList) = ((n : Int) == m) := by
  obtain ⟨k, rfl, hk⟩ := ok_nat hm
  rw [hA, hP, prOut_yes f n (chk_ok (by omega) (by omega)), prOut_yes f k hm, Lib.toList_data, Lib.toList_data]
  show (f n == f k) = ((n : Int) == (k : Int))
  by_cases h : n = k
  · subst h; simp
  · have h1 : ¬ f n = f k := fun c => h (hinj n k hn hk c)
    have h2 : ¬ (n : Int) = (k : Int) := by omega
    rw [beq_eq_false_iff_ne.2 h1, beq_eq_false_iff_ne.2 h2]

set_option maxRecDepth 100000 in
set_option maxHeartbeats 4000000 in
theorem walk (n m : Int) (s : ByteArray) (w : World) (_ : (Lit.int .i64 n).wf = true) (_ : (Lit.int .i64 m).wf = true) (hs : s.size ≤ maxLen) (hL : Laid w) :
    Calls Tryd.prog 6 #[.int .i64 n, .int .i64 m, .string s] w fun e w' => e = .returned (.bool true) ∧ Below w.heap.size w w' := by
  have HL := hide hL
  have HS := hide hs
  clear hL hs
  obtain ⟨A0, hA0⟩ : ∃ A, A = prOut prCPU n := ⟨_, rfl⟩
  have GA0 := hide hA0
  clear hA0
  obtain ⟨A1, hA1⟩ : ∃ A, A = prOut prBytes n := ⟨_, rfl⟩
  have GA1 := hide hA1
  clear hA1
  obtain ⟨A2, hA2⟩ : ∃ A, A = prOut prMoney n := ⟨_, rfl⟩
  have GA2 := hide hA2
  clear hA2
  go_enter Tryd.func6, Tryd.ntmps6
  go_wp2_with fail
  refine (printCPU_any _ _ (unhide HL)).mono ?_
  rintro e w1 ⟨he, hw1⟩
  rw [← unhide GA0] at he
  subst he
  have HB1 := hide hw1
  clear hw1
  go_wp2_with fail
  refine (printBytes_any _ _ ((unhide HL).below (unhide HB1))).mono ?_
  rintro e w2 ⟨he, hw2⟩
  rw [← unhide GA1] at he
  subst he
  have HB2 := hide (chain (unhide HB1) hw2)
  clear hw2 HB1
  go_wp2_with fail
  refine (printMoney_any _ _ ((unhide HL).below (unhide HB2))).mono ?_
  rintro e w3 ⟨he, hw3⟩
  rw [← unhide GA2] at he
  subst he
  have HB3 := hide (chain (unhide HB2) hw3)
  clear hw3 HB2
  go_upto_if 55 with fail
  go_cut [13] (fun _ W => Hid (Below w.heap.size w W))
  case first =>
    by_cases hE : chk n = 0
    · have hb : (chk n == 0) = true := by rw [hE]; rfl
      obtain ⟨k, hnk, hk⟩ := ok_nat hE
      have HN := hide hnk
      have y0 : Hid (A0 = ⟨(prCPU k).toArray⟩) := by
        show _ = _
        have h1 := unhide GA0
        rw [hnk] at h1
        rw [h1]; exact prOut_yes prCPU k (by rw [← hnk]; exact hE)
      have z0 := hide (pr_len (unhide y0) (len_cpu k hk))
      have p0 : Hid (pCPU A0.data.toList = (n, 0)) := by
        show _ = _
        rw [unhide y0, hnk]; exact cpu_back k hk
      have y1 : Hid (A1 = ⟨(prBytes k).toArray⟩) := by
        show _ = _
        have h1 := unhide GA1
        rw [hnk] at h1
        rw [h1]; exact prOut_yes prBytes k (by rw [← hnk]; exact hE)
      have z1 := hide (pr_len (unhide y1) (len_bytes k hk))
      have p1 : Hid (pBytes A1.data.toList = (n, 0)) := by
        show _ = _
        rw [unhide y1, hnk]; exact bytes_back k hk
      have y2 : Hid (A2 = ⟨(prMoney k).toArray⟩) := by
        show _ = _
        have h1 := unhide GA2
        rw [hnk] at h1
        rw [h1]; exact prOut_yes prMoney k (by rw [← hnk]; exact hE)
      have z2 := hide (pr_len (unhide y2) (len_money k hk))
      have p2 : Hid (pMoney A2.data.toList = (n, 0)) := by
        show _ = _
        rw [unhide y2, hnk]; exact money_back k hk
      clear hnk hE
      go_wp2_with fail
      refine (parseCPU_any _ _ (unhide z0)).mono ?_
      rintro e w4 ⟨he, hw4⟩
      rw [unhide p0] at he
      subst he
      have HB4 := hide (chain (unhide HB3) hw4)
      clear hw4 HB3
      go_wp2_with fail
      refine (parseBytes_any _ _ (unhide z1) ((unhide HL).below (unhide HB4))).mono ?_
      rintro e w5 ⟨he, hw5⟩
      rw [unhide p1] at he
      subst he
      have HB5 := hide (chain (unhide HB4) hw5)
      clear hw5 HB4
      go_wp2_with fail
      refine (parseMoney_any _ _ (unhide z2)).mono ?_
      rintro e w6 ⟨he, hw6⟩
      rw [unhide p2] at he
      subst he
      have HB6 := hide (chain (unhide HB5) hw6)
      clear hw6 HB5
      obtain ⟨P0, hP0⟩ : ∃ P, P = prOut prCPU m := ⟨_, rfl⟩
      have GP0 := hide hP0
      clear hP0
      obtain ⟨P1, hP1⟩ : ∃ P, P = prOut prBytes m := ⟨_, rfl⟩
      have GP1 := hide hP1
      clear hP1
      obtain ⟨P2, hP2⟩ : ∃ P, P = prOut prMoney m := ⟨_, rfl⟩
      have GP2 := hide hP2
      clear hP2
      go_wp2_with fail
      refine (printCPU_any _ _ ((unhide HL).below (unhide HB6))).mono ?_
      rintro e w7 ⟨he, hw7⟩
      rw [← unhide GP0] at he
      subst he
      have HB7 := hide (chain (unhide HB6) hw7)
      clear hw7 HB6
      go_wp2_with fail
      refine (printBytes_any _ _ ((unhide HL).below (unhide HB7))).mono ?_
      rintro e w8 ⟨he, hw8⟩
      rw [← unhide GP1] at he
      subst he
      have HB8 := hide (chain (unhide HB7) hw8)
      clear hw8 HB7
      go_wp2_with fail
      refine (printMoney_any _ _ ((unhide HL).below (unhide HB8))).mono ?_
      rintro e w9 ⟨he, hw9⟩
      rw [← unhide GP2] at he
      subst he
      have HB9 := hide (chain (unhide HB8) hw9)
      clear hw9 HB8
      by_cases hM : chk m = 0
      · have hb2 : (chk m == 0) = true := by rw [hM]; rfl
        have s0 : (A0.toList == P0.toList) = (n == m) := by
          have h1 := unhide GA0
          rw [unhide HN] at h1 ⊢
          exact same_text cpu_inj k m hk hM A0 P0 h1 (unhide GP0)
        have s1 : (A1.toList == P1.toList) = (n == m) := by
          have h1 := unhide GA1
          rw [unhide HN] at h1 ⊢
          exact same_text bytes_inj k m hk hM A1 P1 h1 (unhide GP1)
        have s2 : (A2.toList == P2.toList) = (n == m) := by
          have h1 := unhide GA2
          rw [unhide HN] at h1 ⊢
          exact same_text money_inj k m hk hM A2 P2 h1 (unhide GP2)
        clear hM
        go_wp2_with fail
        go_meet
        case rel => exact HB9
      · have hb2 : (chk m == 0) = false := beq_eq_false_iff_ne.2 hM
        clear hM
        go_wp2_with fail
        go_meet
        case rel => exact HB9
    · have hb : (chk n == 0) = false := beq_eq_false_iff_ne.2 hE
      clear hE
      go_wp2_with fail
      go_meet
      case rel => exact HB3
  case rest =>
    have HB4 := hcut
    clear hcut HB3
    obtain ⟨q0, hq0⟩ : ∃ q, q = pCPU s.data.toList := ⟨_, rfl⟩
    obtain ⟨q1, hq1⟩ : ∃ q, q = pBytes s.data.toList := ⟨_, rfl⟩
    obtain ⟨q2, hq2⟩ : ∃ q, q = pMoney s.data.toList := ⟨_, rfl⟩
    have g0 : Hid (goodR (q0.1, q0.2)) := by rw [hq0]; exact good_cpu _
    have g1 : Hid (goodR (q1.1, q1.2)) := by rw [hq1]; exact good_bytes _
    have g2 : Hid (goodR (q2.1, q2.2)) := by rw [hq2]; exact good_mon _
    have Q0 := hide hq0
    have Q1 := hide hq1
    have Q2 := hide hq2
    clear hq0 hq1 hq2
    go_wp2_with fail
    refine (parseCPU_any _ _ (unhide HS)).mono ?_
    rintro e w5 ⟨he, hw5⟩
    rw [← unhide Q0] at he
    subst he
    have HB5 := hide (chain (unhide HB4) hw5)
    clear hw5 HB4
    go_wp2_with fail
    refine (parseBytes_any _ _ (unhide HS) ((unhide HL).below (unhide HB5))).mono ?_
    rintro e w6 ⟨he, hw6⟩
    rw [← unhide Q1] at he
    subst he
    have HB6 := hide (chain (unhide HB5) hw6)
    clear hw6 HB5
    go_wp2_with fail
    refine (parseMoney_any _ _ (unhide HS)).mono ?_
    rintro e w7 ⟨he, hw7⟩
    rw [← unhide Q2] at he
    subst he
    have HB7 := hide (chain (unhide HB6) hw7)
    clear hw7 HB6
    go_wp2_with fail
    refine (live_any _ ((unhide HL).below (unhide HB7))).mono ?_
    rintro e w8 ⟨he, hw8⟩
    subst he
    have HB8 := hide (chain (unhide HB7) hw8)
    clear hw8 HB7
    go_wp2_with fail
    refine (againCPU_any _ _ _ (unhide g0) ((unhide HL).below (unhide HB8))).mono ?_
    rintro e w9 ⟨he, hw9⟩
    subst he
    have HB9 := hide (chain (unhide HB8) hw9)
    clear hw9 HB8
    go_wp2_with fail
    refine (againBytes_any _ _ _ (unhide g1) ((unhide HL).below (unhide HB9))).mono ?_
    rintro e w10 ⟨he, hw10⟩
    subst he
    have HB10 := hide (chain (unhide HB9) hw10)
    clear hw10 HB9
    go_wp2_with fail
    refine (againMoney_any _ _ _ (unhide g2) ((unhide HL).below (unhide HB10))).mono ?_
    rintro e w11 ⟨he, hw11⟩
    subst he
    have HB11 := hide (chain (unhide HB10) hw11)
    clear hw11 HB10
    go_wp2_with fail
    go_ret
    exact ⟨rfl, unhide HB11⟩

end Go.Proofs.YtfpbmclahihlkaaDoor.suffixBack
