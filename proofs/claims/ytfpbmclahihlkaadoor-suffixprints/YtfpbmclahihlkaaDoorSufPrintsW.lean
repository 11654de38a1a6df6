/- The walk of SuffixPrints. -/
import Derived.Test.YtfpbmclahihlkaaDoorSufV
namespace Go.Proofs.YtfpbmclahihlkaaDoor.suffixPrints
open Go.RowKit Suf

set_option maxRecDepth 100000 in
set_option maxHeartbeats 2000000 in
theorem walk (n : Int) (w : World) (_ : (Lit.int .i64 n).wf = true) (hL : Laid w) :
    Calls Tryd.prog 5 #[.int .i64 n] w fun e w' => e = .returned (.bool true) ∧ Below w.heap.size w w' := by
  have HL := hide hL
  clear hL
  obtain ⟨A0, hA0⟩ : ∃ A, A = prOut prCPU n := ⟨_, rfl⟩
  have GA0 := hide hA0
  clear hA0
  obtain ⟨A1, hA1⟩ : ∃ A, A = prOut prBytes n := ⟨_, rfl⟩
  have GA1 := hide hA1
  clear hA1
  obtain ⟨A2, hA2⟩ : ∃ A, A = prOut prMoney n := ⟨_, rfl⟩
  have GA2 := hide hA2
  clear hA2
  go_enter Tryd.func5, Tryd.ntmps5
  go_wp2_with fail
  refine (printCPU_any _ _ (unhide HL)).mono ?_
  rintro e w1 ⟨he, hw1⟩
  rw [← unhide GA0] at he
  subst he
  have HB1 := hide hw1
  clear hw1
  go_wp2_with fail
  refine (rprintCPU_any _ _).mono ?_
  rintro e w2 ⟨he, hw2⟩
  rw [← unhide GA0] at he
  subst he
  have HB2 := hide (chain (unhide HB1) hw2)
  clear hw2 HB1
  go_wp2_with fail
  refine (printBytes_any _ _ ((unhide HL).below (unhide HB2))).mono ?_
  rintro e w3 ⟨he, hw3⟩
  rw [← unhide GA1] at he
  subst he
  have HB3 := hide (chain (unhide HB2) hw3)
  clear hw3 HB2
  go_wp2_with fail
  refine (rprintBytes_any _ _).mono ?_
  rintro e w4 ⟨he, hw4⟩
  rw [← unhide GA1] at he
  subst he
  have HB4 := hide (chain (unhide HB3) hw4)
  clear hw4 HB3
  go_wp2_with fail
  refine (printMoney_any _ _ ((unhide HL).below (unhide HB4))).mono ?_
  rintro e w5 ⟨he, hw5⟩
  rw [← unhide GA2] at he
  subst he
  have HB5 := hide (chain (unhide HB4) hw5)
  clear hw5 HB4
  go_wp2_with fail
  refine (rprintMoney_any _ _).mono ?_
  rintro e w6 ⟨he, hw6⟩
  rw [← unhide GA2] at he
  subst he
  have HB6 := hide (chain (unhide HB5) hw6)
  clear hw6 HB5
  go_wp2_with fail
  refine (live_any _ ((unhide HL).below (unhide HB6))).mono ?_
  rintro e w7 ⟨he, hw7⟩
  subst he
  have HB7 := hide (chain (unhide HB6) hw7)
  clear hw7 HB6
  go_wp2_with fail
  go_ret
  exact ⟨by simp, unhide HB7⟩

end Go.Proofs.YtfpbmclahihlkaaDoor.suffixPrints
