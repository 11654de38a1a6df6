/- The walk of ValsetTexts. -/
import Derived.Test.YtkeibapcfbajjaaDoorV3W
import Derived.Test.YtkeibapcfbajjaaDoorV3S
namespace Go.Proofs.YtkeibapcfbajjaaDoor.valsetTexts
open Go.RowKit Suf Val Go.Maps

set_option maxRecDepth 100000 in
set_option maxHeartbeats 4000000 in
theorem walk (s : ByteArray) (w : World) (hs : s.size ≤ 281474976710656) (hL : Laid w) :
    Calls Tryd.prog 4 #[.string s] w fun e w' => e = .returned (.bool true) ∧ Below w.heap.size w w' := by
  have HL := hide hL
  have HS := hide1 hs
  have HM := hide1 (Nat.le_trans hs (by decide) : s.size ≤ maxLen)
  clear hL hs
  obtain ⟨p, hp⟩ : ∃ p, p = numR s.data.toList := ⟨_, rfl⟩
  obtain ⟨b, hb⟩ : ∃ b, b = nameB s.data.toList := ⟨_, rfl⟩
  obtain ⟨v, hv⟩ : ∃ v, v = valueB s.data.toList := ⟨_, rfl⟩
  have GP := hide hp
  have GB := hide hb
  have GV := hide hv
  clear hp hb hv
  obtain ⟨z, q⟩ := p
  go_enter Tryd.func4, Tryd.ntmps4
  go_wp2_with fail
  refine (number_any s _ (unhide1 HS) (unhide HL)).mono ?_
  rintro e w1 ⟨he, hw1⟩
  rw [← unhide GP] at he
  subst he
  have B1 := hide hw1
  clear hw1
  go_wp2_with fail
  refine (rnumber_any s _ (unhide1 HM)).mono ?_
  rintro e w2 ⟨he, hw2⟩
  rw [← unhide GP] at he
  subst he
  have B2 := hide (chain (unhide B1) hw2)
  clear hw2 B1
  go_wp2_with fail
  refine (rname_any s _ (unhide1 HM)).mono ?_
  rintro e w3 ⟨he, hw3⟩
  rw [← unhide GB] at he
  subst he
  obtain rfl := hw3.symm
  clear hw3
  go_wp2_with fail
  refine (rvalue_any s _ (unhide1 HS)).mono ?_
  rintro e w4 ⟨he, hw4⟩
  rw [← unhide GV] at he
  subst he
  have B4 := hide (chain (unhide B2) hw4)
  clear hw4 B2
  go_wp2_with fail
  refine (live_any _ ((unhide HL).below (unhide B4))).mono ?_
  rintro e w5 ⟨rfl, hw5⟩
  have B5 := hide (chain (unhide B4) hw5)
  clear hw5 B4
  go_wp2_with fail
  refine (name_any s _ (unhide1 HM)).mono ?_
  rintro e w6 ⟨he, hw6⟩
  rw [← unhide GB] at he
  subst he
  obtain rfl := hw6.symm
  clear hw6
  go_wp2_with fail
  refine (value_any s _ (unhide1 HS) ((unhide HL).below (unhide B5))).mono ?_
  rintro e w7 ⟨he, hw7⟩
  rw [← unhide GV] at he
  subst he
  have B7 := hide (chain (unhide B5) hw7)
  clear hw7 B5
  go_wp2_with fail
  go_ret
  exact ⟨ret_bool (by simp), unhide B7⟩

end Go.Proofs.YtkeibapcfbajjaaDoor.valsetTexts
