/- The walk of SuffixParses. -/
import Derived.Test.YtfpbmclahihlkaaDoorSufS
namespace Go.Proofs.YtfpbmclahihlkaaDoor.suffixParses
open Go.RowKit Suf

set_option maxRecDepth 100000 in
set_option maxHeartbeats 2000000 in
theorem walk (s : ByteArray) (w : World) (hs : s.size ≤ maxLen) (hL : Laid w) :
    Calls Tryd.prog 4 #[.string s] w fun e w' => e = .returned (.bool true) ∧ Below w.heap.size w w' := by
  have HL := hide hL
  have HS := hide hs
  clear hL hs
  obtain ⟨q0, hq0⟩ : ∃ q, q = pCPU s.data.toList := ⟨_, rfl⟩
  obtain ⟨q1, hq1⟩ : ∃ q, q = pBytes s.data.toList := ⟨_, rfl⟩
  obtain ⟨q2, hq2⟩ : ∃ q, q = pMoney s.data.toList := ⟨_, rfl⟩
  have Q0 := hide hq0
  have Q1 := hide hq1
  have Q2 := hide hq2
  clear hq0 hq1 hq2
  go_enter Tryd.func4, Tryd.ntmps4
  go_wp2_with fail
  refine (parseCPU_any _ _ (unhide HS)).mono ?_
  rintro e w1 ⟨he, hw1⟩
  rw [← unhide Q0] at he
  subst he
  have HB1 := hide hw1
  clear hw1
  go_wp2_with fail
  refine (rparseCPU_any _ _ (unhide HS)).mono ?_
  rintro e w0 ⟨he, hw0⟩
  rw [← unhide Q0] at he
  subst he
  obtain rfl := hw0.symm
  clear hw0
  go_wp2_with fail
  refine (parseBytes_any _ _ (unhide HS) ((unhide HL).below (unhide HB1))).mono ?_
  rintro e w3 ⟨he, hw3⟩
  rw [← unhide Q1] at he
  subst he
  have HB3 := hide (chain (unhide HB1) hw3)
  clear hw3 HB1
  go_wp2_with fail
  refine (rparseBytes_any _ _ (unhide HS)).mono ?_
  rintro e w4 ⟨he, hw4⟩
  rw [← unhide Q1] at he
  subst he
  have HB4 := hide (chain (unhide HB3) hw4)
  clear hw4 HB3
  go_wp2_with fail
  refine (parseMoney_any _ _ (unhide HS)).mono ?_
  rintro e w5 ⟨he, hw5⟩
  rw [← unhide Q2] at he
  subst he
  have HB5 := hide (chain (unhide HB4) hw5)
  clear hw5 HB4
  go_wp2_with fail
  refine (rparseMoney_any _ _ (unhide HS)).mono ?_
  rintro e w0 ⟨he, hw0⟩
  rw [← unhide Q2] at he
  subst he
  obtain rfl := hw0.symm
  clear hw0
  go_wp2_with fail
  refine (live_any _ ((unhide HL).below (unhide HB5))).mono ?_
  rintro e w7 ⟨he, hw7⟩
  subst he
  have HB7 := hide (chain (unhide HB5) hw7)
  clear hw7 HB5
  go_wp2_with fail
  go_ret
  exact ⟨by simp, unhide HB7⟩

end Go.Proofs.YtfpbmclahihlkaaDoor.suffixParses
