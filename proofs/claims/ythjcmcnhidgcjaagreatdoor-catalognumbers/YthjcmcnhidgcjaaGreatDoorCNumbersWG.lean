/- CatalogNumbers: the walk. -/
import Derived.Test.YthjcmcnhidgcjaaGreatDoorCuTG
namespace Go.Proofs.YthjcmcnhidgcjaaGreatDoor.catalogNumbers
open Go.RowKit Suf Val

def typBad : VType := ⟨tS, (2000, 4294967296), (0, 0), [(kZone, tA)], typS.offs⟩
def typOver : VType := ⟨tS, (2000, 4294967296), (3000, 0), [], typS.offs⟩
theorem v_bad : typeR typBad = 1 := by decide +kernel
theorem v_over : typeR typOver = 1 := by decide +kernel
theorem v_two : catR [typS, typS] = 6 := by decide +kernel
set_option maxHeartbeats 2000000 in
theorem long (a : Option Addr) (n c : Nat) (w : World) (h : 12 < n) : Calls Tryz.prog 12 #[.slice a n c] w fun e w' => e = .returned (.int .i64 3) ∧ w' = w := by
  have hb : decide ((12 : Int) < (n : Int)) = true := by simp; omega
  go_enter Tryz.func12, Tryz.ntmps12
  go_wp2_with fail
  go_ret
  exact ⟨rfl, rfl⟩
theorem typ_pair {w : World} {v1 v2 : Value} (h1 : Lst labK w v1 []) (h2 : Lst ofgK w v2 typS.offs) : Lst typK (w.alloc (.cells #[.string (bytesT tS), .int .i64 2000, .int .i64 4294967296, .int .i64 0, .int .i64 0, v1, v2, .string (bytesT tS), .int .i64 2000, .int .i64 4294967296, .int .i64 0, .int .i64 0, v1, v2] 27)) (.slice (some ⟨w.heap.size, 0, none⟩) 2 2) [typS, typS] :=
  rows_block (news := [.string (bytesT tS), .int .i64 2000, .int .i64 4294967296, .int .i64 0, .int .i64 0, v1, v2, .string (bytesT tS), .int .i64 2000, .int .i64 4294967296, .int .i64 0, .int .i64 0, v1, v2]) ((rows_one (typ_row (w := w) (x := typS) sh6.2.2.2.2.1 h1 h2)).append (rows_one (typ_row (w := w) (x := typS) sh6.2.2.2.2.1 h1 h2))) (by decide) rfl rfl
theorem lab_one (w : World) : Lst labK (w.alloc (.cells #[.string (bytesT kZone), .string (bytesT tA)] 31)) (.slice (some ⟨w.heap.size, 0, none⟩) 1 1) [(kZone, tA)] :=
  rows_block (news := [.string (bytesT kZone), .string (bytesT tA)]) (rows_one (lab_row (w := w) (x := (kZone, tA)) short5.2.2.2.2 sh6.1)) (by decide) rfl rfl
def zero13 : Array Value := #[.string ⟨#[]⟩, .int .i64 0, .int .i64 0, .int .i64 0, .int .i64 0, .slice none 0 0, .slice none 0 0, .string ⟨#[]⟩, .int .i64 0, .int .i64 0, .int .i64 0, .int .i64 0, .slice none 0 0, .slice none 0 0, .string ⟨#[]⟩, .int .i64 0, .int .i64 0, .int .i64 0, .int .i64 0, .slice none 0 0, .slice none 0 0, .string ⟨#[]⟩, .int .i64 0, .int .i64 0, .int .i64 0, .int .i64 0, .slice none 0 0, .slice none 0 0, .string ⟨#[]⟩, .int .i64 0, .int .i64 0, .int .i64 0, .int .i64 0, .slice none 0 0, .slice none 0 0, .string ⟨#[]⟩, .int .i64 0, .int .i64 0, .int .i64 0, .int .i64 0, .slice none 0 0, .slice none 0 0, .string ⟨#[]⟩, .int .i64 0, .int .i64 0, .int .i64 0, .int .i64 0, .slice none 0 0, .slice none 0 0, .string ⟨#[]⟩, .int .i64 0, .int .i64 0, .int .i64 0, .int .i64 0, .slice none 0 0, .slice none 0 0, .string ⟨#[]⟩, .int .i64 0, .int .i64 0, .int .i64 0, .int .i64 0, .slice none 0 0, .slice none 0 0, .string ⟨#[]⟩, .int .i64 0, .int .i64 0, .int .i64 0, .int .i64 0, .slice none 0 0, .slice none 0 0, .string ⟨#[]⟩, .int .i64 0, .int .i64 0, .int .i64 0, .int .i64 0, .slice none 0 0, .slice none 0 0, .string ⟨#[]⟩, .int .i64 0, .int .i64 0, .int .i64 0, .int .i64 0, .slice none 0 0, .slice none 0 0, .string ⟨#[]⟩, .int .i64 0, .int .i64 0, .int .i64 0, .int .i64 0, .slice none 0 0, .slice none 0 0]
set_option maxRecDepth 100000 in
theorem make13 (W : World) : (Instr.makeSlice 28 (.int .i64 13) (.int .i64 13)).run Tryz.prog W = .ok (.slice (some ⟨W.heap.size, 0, none⟩) 13 13) (W.alloc (.cells zero13 27)) := by kernel_rfl
set_option maxRecDepth 100000 in
set_option maxHeartbeats 16000000 in
theorem walk (w : World) (hL : Laid w) : Calls Tryz.prog 3 #[] w fun e w' => e = .returned (.bool true) ∧ Below w.heap.size w w' := by
  have HL := hide hL
  clear hL
  go_enter Tryz.func3, Tryz.ntmps3
  go_wp2_with fail
  refine (small_any _).mono ?_
  rintro e w1 ⟨sa, sc, rfl, hs, hw1⟩
  obtain ⟨b, o, rfl, hat⟩ := hs.at (j := 0) (by decide)
  obtain ⟨⟨h0, _⟩, ⟨h1, h2⟩, ⟨h3, h4⟩, ⟨u1, h5, hu1⟩, u2, h6, hu2⟩ := typ_at.1 hat
  rw [show typK.size = 7 from rfl] at h0 h1 h2 h3 h4 h5 h6
  obtain ⟨a1, d1, rfl⟩ := hu1.val
  obtain ⟨a2, d2, rfl⟩ := hu2.val
  have U1 : Hid (Lst labK w1 (.slice a1 0 d1) []) := hu1
  have U2 : Hid (Lst ofgK w1 (.slice a2 2 d2) typS.offs) := hu2
  have B1 := hide hw1
  clear hs hat hu1 hu2 hw1
  simp only [smallR, typS, Nat.zero_mul, Nat.add_zero, List.getElem_cons_zero, List.length_nil, List.length_cons] at h0 h1 h2 h3 h4 h5 h6
  obtain ⟨V1, hV1⟩ : ∃ V, V = w1.alloc (.cells #[.string (bytesT tS), .int .i64 2000, .int .i64 4294967296, .int .i64 0, .int .i64 0, .slice a1 0 d1, .slice a2 2 d2] 27) := ⟨_, rfl⟩
  obtain ⟨V2, hV2⟩ : ∃ V, V = V1.alloc (.cells #[.string (bytesT tS), .int .i64 2000, .int .i64 4294967296, .int .i64 0, .int .i64 0, .slice (some ⟨w1.heap.size + 1 + 1, 0, none⟩) 1 1, .slice a2 2 d2] 27) := ⟨_, rfl⟩
  obtain ⟨V3, hV3⟩ : ∃ V, V = V2.alloc (.cells #[.string ⟨#[122, 111, 110, 101]⟩, .string ⟨#[97]⟩] 31) := ⟨_, rfl⟩
  obtain ⟨V4, hV4⟩ : ∃ V, V = V3.alloc (.cells #[.string (bytesT tS), .int .i64 2000, .int .i64 4294967296, .int .i64 3000, .int .i64 0, .slice a1 0 d1, .slice a2 2 d2] 27) := ⟨_, rfl⟩
  have s1 : V1.heap.size = w1.heap.size + 1 := by rw [hV1]; simp
  have s2 : V2.heap.size = w1.heap.size + 1 + 1 := by rw [hV2]; simp [s1]
  have s3 : V3.heap.size = w1.heap.size + 1 + 1 + 1 := by rw [hV3]; simp [s2]
  have b1 : Below w1.heap.size w1 V1 := by rw [hV1]; exact boxb _
  have b2 : Below V1.heap.size V1 V2 := by rw [hV2]; exact boxb _
  have b3 : Below V2.heap.size V2 V3 := by rw [hV3]; exact boxb _
  have b4 : Below V3.heap.size V3 V4 := by rw [hV4]; exact boxb _
  have F1 : Hid (TypBox V4 w1.heap.size typS (.slice a1 0 d1) (.slice a2 2 d2)) := by
    have h : TypBox V1 w1.heap.size typS (.slice a1 0 d1) (.slice a2 2 d2) := by rw [hV1]; exact typ_box w1 typS _ _
    exact h.below (chain b2 (chain b3 b4))
  have F2 : Hid (TypBox V4 (w1.heap.size + 1) typBad (.slice (some ⟨w1.heap.size + 1 + 1, 0, none⟩) 1 1) (.slice a2 2 d2)) := by
    have h : TypBox V2 V1.heap.size typBad (.slice (some ⟨w1.heap.size + 1 + 1, 0, none⟩) 1 1) (.slice a2 2 d2) := by rw [hV2]; exact typ_box V1 typBad _ _
    rw [s1] at h
    exact h.below (chain b3 b4)
  have F3 : Hid (TypBox V4 (w1.heap.size + 1 + 1 + 1) typOver (.slice a1 0 d1) (.slice a2 2 d2)) := by
    have h : TypBox V4 V3.heap.size typOver (.slice a1 0 d1) (.slice a2 2 d2) := by rw [hV4]; exact typ_box V3 typOver _ _
    rw [s3] at h
    exact h
  have L1 : Hid (Lst labK V4 (.slice (some ⟨w1.heap.size + 1 + 1, 0, none⟩) 1 1) [(kZone, tA)]) := by
    have h := lab_one V2
    rw [s2] at h
    have h3 : Lst labK V3 (.slice (some ⟨w1.heap.size + 1 + 1, 0, none⟩) 1 1) [(kZone, tA)] := by rw [hV3]; exact h
    exact h3.below b4
  have bb := chain b1 (chain b2 (chain b3 b4))
  have U1' := hide ((unhide U1).below bb)
  have U2' := hide ((unhide U2).below bb)
  have B2 := hide (chain (unhide B1) bb)
  rw [hV3, hV2, hV1] at hV4
  have G4 := hide hV4
  clear hV4 hV3 hV2 hV1 s1 s2 s3 b1 b2 b3 b4 bb U1 U2 B1
  go_wp2_with fail
  rw [← unhide G4]
  clear h0 h1 h2 h3 h4 h5 h6
  refine (live6_any _ ((unhide HL).below (unhide B2))).mono ?_
  rintro e w2 ⟨rfl, hw2⟩
  have B3 := hide (chain (unhide B2) hw2)
  have F1a := hide ((unhide F1).below hw2)
  have F2a := hide ((unhide F2).below hw2)
  have F3a := hide ((unhide F3).below hw2)
  have L1a := hide ((unhide L1).below hw2)
  have U1a := hide ((unhide U1').below hw2)
  have U2a := hide ((unhide U2').below hw2)
  clear hw2 F1 F2 F3 L1 U1' U2' B2 G4
  obtain ⟨f0, f1, f2, f3, f4, f5, f6⟩ := unhide F2a
  go_wp2_with fail
  clear f0 f1 f2 f3 f4 f5 f6
  refine (ptype_any typBad (.slice (some ⟨w1.heap.size + 1 + 1, 0, none⟩) 1 1) (.slice a2 2 d2) _ ((unhide HL).below (unhide B3)) sh6.2.2.2.2.1 (unhide L1a) (unhide U2a)).mono ?_
  rintro e w3 ⟨he, hw3⟩
  rw [v_bad] at he
  subst he
  have B4 := hide (chain (unhide B3) hw3)
  have F1b := hide ((unhide F1a).below hw3)
  have F3b := hide ((unhide F3a).below hw3)
  have U1b := hide ((unhide U1a).below hw3)
  have U2b := hide ((unhide U2a).below hw3)
  clear hw3 F1a F2a F3a L1a U1a U2a B3
  obtain ⟨f0, f1, f2, f3, f4, f5, f6⟩ := unhide F3b
  go_wp2_with fail
  clear f0 f1 f2 f3 f4 f5 f6
  refine (ptype_any typOver (.slice a1 0 d1) (.slice a2 2 d2) _ ((unhide HL).below (unhide B4)) sh6.2.2.2.2.1 (unhide U1b) (unhide U2b)).mono ?_
  rintro e w4 ⟨he, hw4⟩
  rw [v_over] at he
  subst he
  have B5 := hide (chain (unhide B4) hw4)
  have F1c := hide ((unhide F1b).below hw4)
  have U1c := hide ((unhide U1b).below hw4)
  have U2c := hide ((unhide U2b).below hw4)
  clear hw4 F1b F3b U1b U2b B4
  obtain ⟨f0, f1, f2, f3, f4, f5, f6⟩ := unhide F1c
  obtain ⟨V5, hV5⟩ : ∃ V, V = w4.alloc (.cells #[.string (bytesT typS.name), .int .i64 typS.cap.1, .int .i64 typS.cap.2, .int .i64 typS.ovr.1, .int .i64 typS.ovr.2, .slice a1 0 d1, .slice a2 2 d2, .string (bytesT typS.name), .int .i64 typS.cap.1, .int .i64 typS.cap.2, .int .i64 typS.ovr.1, .int .i64 typS.ovr.2, .slice a1 0 d1, .slice a2 2 d2] 27) := ⟨_, rfl⟩
  have B6 : Hid (Below w.heap.size w V5) := by rw [hV5]; exact chain (unhide B5) (boxb _)
  have L5 : Hid (Lst typK V5 (.slice (some ⟨w4.heap.size, 0, none⟩) 2 2) [typS, typS]) := by rw [hV5]; exact typ_pair (unhide U1c) (unhide U2c)
  have G5 := hide hV5
  clear hV5 B5 U1c U2c F1c
  go_wp2_with fail
  clear f0 f1 f2 f3 f4 f5 f6
  rw [← unhide G5]
  refine (pcheck6_any _ [typS, typS] V5 ((unhide HL).below (unhide B6)) (unhide L5)).mono ?_
  rintro e w6 ⟨he, hw6⟩
  rw [v_two] at he
  subst he
  have B7 := hide (chain (unhide B6) hw6)
  clear hw6 L5 G5 B6
  have hmk := make13
  go_wp2_with fail
  refine (long _ 13 _ _ (by decide)).mono ?_
  rintro e w7 ⟨rfl, hw7⟩
  obtain rfl := hw7.symm
  clear hw7
  go_wp2_with fail
  go_ret
  exact ⟨rfl, chain (unhide B7) (boxb _)⟩
end Go.Proofs.YthjcmcnhidgcjaaGreatDoor.catalogNumbers
