/- Layer 6: the document's catalogue in memory; what is told of it. -/
import Derived.Test.YtepcnfnmphgccaaGreatDoorCuJG
namespace Go.Proofs.YtepcnfnmphgccaaGreatDoor
open Go.RowKit Suf Val Go.Maps Go.Sort

def tA : Txt := [97]
def tB : Txt := [98]
def tOd : Txt := [111, 100]
def tSpot : Txt := [115, 112, 111, 116]
def tS : Txt := [115]
def tL : Txt := [108]
def tP : Txt := [112]
def tC1 : Txt := [99, 49]
def typS : VType := ⟨tS, (2000, 4294967296), (0, 0), [], [⟨tA, tOd, 100, true⟩, ⟨tA, tSpot, 40, true⟩]⟩
def typL : VType := ⟨tL, (8000, 17179869184), (0, 0), [], [⟨tA, tOd, 300, true⟩]⟩
def smallR : List VType := [typS, typL]
theorem sm_cat : catR smallR = 0 := by decide +kernel
theorem sm_offers : offersR smallR = [(tS, tA, tSpot), (tS, tA, tOd), (tL, tA, tOd)] := by decide +kernel
theorem sm_has : hasR smallR (tL, tA, tOd) = ((8000, 17179869184), true) := by decide +kernel
theorem sm_price : priceR smallR (tS, tB, tOd) = (0, false) := by decide +kernel
theorem sm_match : matchR smallR [(tS, tA, tSpot), (tS, tA, tOd), (tL, tA, tOd)] [⟨kKind, 1, [tOd], 0⟩] tP tC1 = ([(tS, tA, tOd), (tL, tA, tOd)], 0) := by decide +kernel
theorem sm_labs : labsR smallR (tS, tA, tOd) tP tC1 = [(kHost, tC1), (kKind, tOd), (kPool, tP), (kType, tS), (kZone, tA)] := by decide +kernel
theorem sm_open : openR smallR (tS, tA, tSpot) = true := by decide +kernel
theorem sh6 : short tA ∧ short tB ∧ short tOd ∧ short tSpot ∧ short tS ∧ short tL ∧ short tP ∧ short tC1 := by unfold short; decide
def cO1 : Array Value := #[.string (bytesT tA), .string (bytesT tOd), .int .i64 100, .bool true, .string (bytesT tA), .string (bytesT tSpot), .int .i64 40, .bool true]
def cO2 : Array Value := #[.string (bytesT tA), .string (bytesT tOd), .int .i64 300, .bool true]
theorem ofg_two (w : World) : Lst ofgK (w.alloc (.cells cO1 65)) (.slice (some ⟨w.heap.size, 0, none⟩) 2 2) typS.offs :=
  rows_block (news := cO1.toList) ((rows_one (ofg_row (w := w) (x := ⟨tA, tOd, 100, true⟩) sh6.1 sh6.2.2.1)).append (rows_one (ofg_row (w := w) (x := ⟨tA, tSpot, 40, true⟩) sh6.1 sh6.2.2.2.1))) (by decide) rfl rfl
theorem ofg_one (w : World) : Lst ofgK (w.alloc (.cells cO2 65)) (.slice (some ⟨w.heap.size, 0, none⟩) 1 1) typL.offs :=
  rows_block (news := cO2.toList) (rows_one (ofg_row (w := w) (x := ⟨tA, tOd, 300, true⟩) sh6.1 sh6.2.2.1)) (by decide) rfl rfl
def cT (v1 v2 : Value) : Array Value := #[.string (bytesT tS), .int .i64 2000, .int .i64 4294967296, .int .i64 0, .int .i64 0, .slice none 0 0, v1, .string (bytesT tL), .int .i64 8000, .int .i64 17179869184, .int .i64 0, .int .i64 0, .slice none 0 0, v2]
theorem typ_two (w : World) (v1 v2 : Value) (h1 : Lst ofgK w v1 typS.offs) (h2 : Lst ofgK w v2 typL.offs) : Lst typK (w.alloc (.cells (cT v1 v2) 57)) (.slice (some ⟨w.heap.size, 0, none⟩) 2 2) smallR :=
  rows_block (news := (cT v1 v2).toList) ((rows_one (typ_row (w := w) (x := typS) sh6.2.2.2.2.1 (lst_nil labK w 0) h1)).append (rows_one (typ_row (w := w) (x := typL) sh6.2.2.2.2.2.1 (lst_nil labK w 0) h2))) (by decide) rfl rfl
def smallPost (w : World) (e : Ending) (w' : World) : Prop := ∃ a c, e = .returned (.slice a 2 c) ∧ Lst typK w' (.slice a 2 c) smallR ∧ Below w.heap.size w w'
set_option maxHeartbeats 4000000 in
theorem small_any (w : World) : Calls Tryz.prog 31 #[] w fun e w' => smallPost w e w' := by
  obtain ⟨W1, hW1⟩ : ∃ W, W = w.alloc (.cells cO1 65) := ⟨_, rfl⟩
  obtain ⟨W2, hW2⟩ : ∃ W, W = W1.alloc (.cells #[.string (bytesT tS), .int .i64 2000, .int .i64 4294967296, .int .i64 0, .int .i64 0, .slice none 0 0, .slice (some ⟨w.heap.size, 0, none⟩) 2 2] 57) := ⟨_, rfl⟩
  obtain ⟨W3, hW3⟩ : ∃ W, W = W2.alloc (.cells cO2 65) := ⟨_, rfl⟩
  obtain ⟨W4, hW4⟩ : ∃ W, W = W3.alloc (.cells #[.string (bytesT tL), .int .i64 8000, .int .i64 17179869184, .int .i64 0, .int .i64 0, .slice none 0 0, .slice (some ⟨W2.heap.size, 0, none⟩) 1 1] 57) := ⟨_, rfl⟩
  have s1 : W1.heap.size = w.heap.size + 1 := by rw [hW1]; simp
  have s2 : W2.heap.size = w.heap.size + 2 := by rw [hW2]; simp [s1]
  have s3 : W3.heap.size = w.heap.size + 3 := by rw [hW3]; simp [s2]
  have s4 : W4.heap.size = w.heap.size + 4 := by rw [hW4]; simp [s3]
  have b1 : Below w.heap.size w W1 := by rw [hW1]; exact boxb _
  have b2 : Below W1.heap.size W1 W2 := by rw [hW2]; exact boxb _
  have b3 : Below W2.heap.size W2 W3 := by rw [hW3]; exact boxb _
  have b4 : Below W3.heap.size W3 W4 := by rw [hW4]; exact boxb _
  have l1 : Lst ofgK W4 (.slice (some ⟨w.heap.size, 0, none⟩) 2 2) typS.offs := by
    have h := ofg_two w
    rw [← hW1] at h
    exact h.below (chain b2 (chain b3 b4))
  have l2 : Lst ofgK W4 (.slice (some ⟨W2.heap.size, 0, none⟩) 1 1) typL.offs := by
    have h := ofg_one W2
    rw [← hW3] at h
    exact h.below b4
  have hfin : Hid (smallPost w (.returned (.slice (some ⟨W4.heap.size, 0, none⟩) 2 2)) (W4.alloc (.cells (cT (.slice (some ⟨w.heap.size, 0, none⟩) 2 2) (.slice (some ⟨W2.heap.size, 0, none⟩) 1 1)) 57))) :=
    ⟨_, _, rfl, typ_two W4 _ _ l1 l2, chain b1 (chain b2 (chain b3 (chain b4 (boxb _))))⟩
  rw [s4, s2] at hfin
  have t0 : Hid (∀ i v, (#[Value.string (bytesT tS), .int .i64 2000, .int .i64 4294967296, .int .i64 0, .int .i64 0, .slice none 0 0, .slice (some ⟨w.heap.size, 0, none⟩) 2 2] : Array Value)[i]? = some v → W4.cell? ⟨w.heap.size + 1, i, none⟩ = some v) := fun i v hv => by
    have h : W2.cell? ⟨W1.heap.size, i, none⟩ = some v := by
      rw [hW2]; unfold World.cell?; rw [World.alloc_heap_new]; exact hv
    rw [s1] at h
    exact cell_kept (chain b3 b4) h
  have c0 := unhide t0 0 _ rfl
  have c1 := unhide t0 1 _ rfl
  have c2 := unhide t0 2 _ rfl
  have c3 := unhide t0 3 _ rfl
  have c4 := unhide t0 4 _ rfl
  have c5 := unhide t0 5 _ rfl
  have c6 := unhide t0 6 _ rfl
  clear t0 l1 l2 b1 b2 b3 b4 s1 s3
  obtain ⟨PP, hPP⟩ : ∃ P, P = smallPost w := ⟨_, rfl⟩
  show Calls _ _ _ _ (fun e w' => smallPost w e w')
  rw [← hPP] at hfin ⊢
  clear hPP
  rw [s2] at hW4
  rw [hW4, hW3, hW2, hW1] at hfin c0 c1 c2 c3 c4 c5 c6
  rw [hW2, hW1] at s2
  clear s4 hW4 hW3 hW2 hW1
  go_enter Tryz.func31, Tryz.ntmps31
  go_wp2_with fail
  exact unhide hfin
end Go.Proofs.YtepcnfnmphgccaaGreatDoor

/- Layer 6: live answers true. -/
namespace Go.Proofs.YtepcnfnmphgccaaGreatDoor
open Go.RowKit Suf Val Go.Maps Go.Sort

theorem strs_od (w : World) : Strs (w.alloc (.cells #[.string (bytesT tOd)] 9)) (.slice (some ⟨w.heap.size, 0, none⟩) 1 1) [tOd] :=
  ⟨_, _, rfl, fun j hj => ⟨w.heap.size, 0, rfl, by
    have : j = 0 := by simpa using hj
    subst this
    simp [go_sem]⟩, by simp, fun t ht => by rw [List.mem_singleton] at ht; rw [ht]; exact sh6.2.2.1⟩
theorem reqs_kind {w : World} {u : Value} {a : Option Addr} {c : Nat} (hu : u = .slice a 1 c) (hc : 1 ≤ c) (h : Strs w u [tOd]) : Reqs (w.alloc (.cells #[.string (bytesT kKind), .int .i64 1, u, .int .i64 0] 74)) (.slice (some ⟨w.heap.size, 0, none⟩) 1 1) [⟨kKind, 1, [tOd], 0⟩] :=
  ⟨_, _, rfl, fun j hj => ⟨w.heap.size, 0, u, rfl, by
    have : j = 0 := by simpa using hj
    subst this
    refine ⟨by simp [go_sem], by simp [go_sem], by simp [go_sem], by simp [go_sem], h.below (boxb _), short5.2.1, fun a' n' c' e => ?_⟩
    rw [hu] at e
    injection e with e1 e2 e3
    omega⟩, by simp⟩
theorem off3 {w : World} {xa : Option Addr} {xc : Nat} (h : Lst offK w (.slice xa 3 xc) [(tS, tA, tSpot), (tS, tA, tOd), (tL, tA, tOd)]) : ∃ b o, xa = some ⟨b, o, none⟩ ∧ w.cell? ⟨b, o, none⟩ = some (.string (bytesT tS)) ∧ w.cell? ⟨b, o + 1, none⟩ = some (.string (bytesT tA)) ∧ w.cell? ⟨b, o + 2, none⟩ = some (.string (bytesT tSpot)) ∧ w.cell? ⟨b, o + 6, none⟩ = some (.string (bytesT tL)) := by
  obtain ⟨b, o, rfl, h0⟩ := h.at (j := 0) (by simp)
  obtain ⟨b', o', e, h2⟩ := h.at (j := 2) (by simp)
  have e1 := Option.some.inj e
  injection e1 with e2 e3 _
  subst e2
  subst e3
  obtain ⟨⟨g0, _⟩, ⟨g1, _⟩, g2, _⟩ := off_at.1 h0
  obtain ⟨⟨k0, _⟩, _⟩ := off_at.1 h2
  rw [show offK.size = 3 from rfl] at g0 g1 g2 k0
  exact ⟨b, o, rfl, by simpa using g0, by simpa using g1, by simpa using g2, by simpa using k0⟩
theorem off2 {w : World} {xa : Option Addr} {xc : Nat} (h : Lst offK w (.slice xa 2 xc) [(tS, tA, tOd), (tL, tA, tOd)]) : ∃ b o, xa = some ⟨b, o, none⟩ ∧ w.cell? ⟨b, o, none⟩ = some (.string (bytesT tS)) := by
  obtain ⟨b, o, rfl, h0⟩ := h.at (j := 0) (by simp)
  obtain ⟨⟨g0, _⟩, _⟩ := off_at.1 h0
  exact ⟨b, o, rfl, by simpa using g0⟩
theorem lab5 {w : World} {xa : Option Addr} {xc : Nat} (h : Lst labK w (.slice xa 5 xc) [(kHost, tC1), (kKind, tOd), (kPool, tP), (kType, tS), (kZone, tA)]) : ∃ b o, xa = some ⟨b, o, none⟩ ∧ w.cell? ⟨b, o, none⟩ = some (.string (bytesT kHost)) ∧ w.cell? ⟨b, o + 9, none⟩ = some (.string (bytesT tA)) := by
  obtain ⟨b, o, rfl, h0⟩ := h.at (j := 0) (by simp)
  obtain ⟨b', o', e, h4⟩ := h.at (j := 4) (by simp)
  have e1 := Option.some.inj e
  injection e1 with e2 e3 _
  subst e2
  subst e3
  obtain ⟨⟨g0, _⟩, _⟩ := lab_at.1 h0
  obtain ⟨_, k1, _⟩ := lab_at.1 h4
  rw [show labK.size = 2 from rfl] at g0 k1
  exact ⟨b, o, rfl, by simpa using g0, by simpa [Nat.add_assoc] using k1⟩
theorem ok_offs : okO (tS, tA, tSpot) ∧ okO (tS, tA, tOd) ∧ okO (tL, tA, tOd) ∧ okO (tS, tB, tOd) :=
  ⟨⟨sh6.2.2.2.2.1, sh6.1, sh6.2.2.2.1⟩, ⟨sh6.2.2.2.2.1, sh6.1, sh6.2.2.1⟩, ⟨sh6.2.2.2.2.2.1, sh6.1, sh6.2.2.1⟩, ⟨sh6.2.2.2.2.1, sh6.2.1, sh6.2.2.1⟩⟩
set_option maxRecDepth 100000 in
set_option maxHeartbeats 32000000 in
theorem live6_any (w : World) (hL : Laid w) : Calls Tryz.prog 16 #[] w fun e w' => e = .returned (.bool true) ∧ Below w.heap.size w w' := by
  have HL := hide hL
  clear hL
  go_enter Tryz.func16, Tryz.ntmps16
  go_wp2_with fail
  refine (small_any _).mono ?_
  rintro e w1 ⟨sa1, sc1, rfl, hs1, hw1⟩
  have B1 := hide hw1
  have S1 := hide hs1
  clear hs1 hw1
  go_wp2_with fail
  refine (pOffers_any _ smallR w1 ((unhide HL).below (unhide B1)) (unhide S1)).mono ?_
  rintro e w2 ⟨v1, rfl, ho1, hw2⟩
  rw [sm_offers] at ho1
  have B2 := hide (chain (unhide B1) hw2)
  obtain ⟨xa1, xc1, rfl⟩ := ho1.val
  have L2 := hide ho1.lst
  clear hw2 ho1 B1 S1
  go_wp2_with fail
  refine (small_any _).mono ?_
  rintro e w3 ⟨sa3, sc3, rfl, hs3, hw3⟩
  have B3 := hide (chain (unhide B2) hw3)
  have L3 := hide ((unhide L2).below hw3)
  have S3 := hide hs3
  clear hs3 hw3 B2 L2
  go_wp2_with fail
  refine (phas_any _ smallR (tL, tA, tOd) w3 ((unhide HL).below (unhide B3)) (unhide S3) ok_offs.2.2.1).mono ?_
  rintro e w4 ⟨he, hw4⟩
  rw [sm_has] at he
  subst he
  have B4 := hide (chain (chain (unhide B3) hw4) (boxb (.cells #[.int .i64 8000, .int .i64 17179869184] 28)))
  have L4 := hide (((unhide L3).below hw4).below (boxb (.cells #[.int .i64 8000, .int .i64 17179869184] 28)))
  clear hw4 B3 L3 S3
  have T4 : Hid ((w4.alloc (.cells #[.int .i64 8000, .int .i64 17179869184] 28)).cell? ⟨w4.heap.size, 0, none⟩ = some (.int .i64 8000) ∧ (w4.alloc (.cells #[.int .i64 8000, .int .i64 17179869184] 28)).cell? ⟨w4.heap.size, 1, none⟩ = some (.int .i64 17179869184)) := ⟨by simp [go_sem], by simp [go_sem]⟩
  go_wp2_with fail
  obtain ⟨B4', hB4⟩ : ∃ b, b = w4.heap.size := ⟨_, rfl⟩
  rw [← hB4] at T4 ⊢
  clear hB4
  refine (small_any _).mono ?_
  rintro e w5 ⟨sa5, sc5, rfl, hs5, hw5⟩
  have B5 := hide (chain (unhide B4) hw5)
  have L5 := hide ((unhide L4).below hw5)
  have T5 := hide (And.intro (cell_kept hw5 (unhide T4).1) (cell_kept hw5 (unhide T4).2))
  have S5 := hide hs5
  clear hs5 hw5 B4 L4 T4
  go_wp2_with fail
  refine (pprice_any _ smallR (tS, tB, tOd) w5 ((unhide HL).below (unhide B5)) (unhide S5) ok_offs.2.2.2).mono ?_
  rintro e w6 ⟨he, hw6⟩
  rw [sm_price] at he
  subst he
  have B6 := hide (chain (unhide B5) hw6)
  have L6 := hide ((unhide L5).below hw6)
  have T6 := hide (And.intro (cell_kept hw6 (unhide T5).1) (cell_kept hw6 (unhide T5).2))
  clear hw6 B5 L5 T5 S5
  go_wp2_with fail
  refine (small_any _).mono ?_
  rintro e w7 ⟨sa7, sc7, rfl, hs7, hw7⟩
  obtain ⟨W8, hW8⟩ : ∃ W, W = w7.alloc (.cells #[.string ⟨#[111, 100]⟩] 9) := ⟨_, rfl⟩
  have b8 : Below w7.heap.size w7 W8 := by rw [hW8]; exact boxb _
  have hst : Strs W8 (.slice (some ⟨w7.heap.size, 0, none⟩) 1 1) [tOd] := by rw [hW8]; exact strs_od w7
  obtain ⟨W9, hW9⟩ : ∃ W, W = W8.alloc (.cells #[.string ⟨#[107, 105, 110, 100]⟩, .int .i64 1, .slice (some ⟨w7.heap.size, 0, none⟩) 1 1, .int .i64 0] 74) := ⟨_, rfl⟩
  have b9 : Below W8.heap.size W8 W9 := by rw [hW9]; exact boxb _
  have Q9 : Hid (Reqs W9 (.slice (some ⟨w7.heap.size + 1, 0, none⟩) 1 1) [⟨kKind, 1, [tOd], 0⟩]) := by
    have h := reqs_kind (c := 1) rfl (Nat.le_refl _) hst
    rw [show W8.heap.size = w7.heap.size + 1 by rw [hW8]; simp] at h
    rw [hW9]; exact h
  have hb9 := chain hw7 (chain b8 b9)
  have B9 := hide (chain (unhide B6) hb9)
  have L9 := hide ((unhide L6).below hb9)
  have T9 := hide (And.intro (cell_kept hb9 (unhide T6).1) (cell_kept hb9 (unhide T6).2))
  have S9 := hide (hs7.below (chain b8 b9))
  rw [hW8] at hW9
  have G9 := hide hW9
  clear hs7 hw7 b8 b9 hb9 hst hW9 hW8 B6 L6 T6
  go_wp2_with fail
  rw [← unhide G9]
  refine (pMatch_any _ smallR _ [(tS, tA, tSpot), (tS, tA, tOd), (tL, tA, tOd)] _ [⟨kKind, 1, [tOd], 0⟩] tP tC1 W9 ((unhide HL).below (unhide B9)) (unhide S9) (unhide L9) (by decide) (unhide Q9) sh6.2.2.2.2.2.2.1 sh6.2.2.2.2.2.2.2).mono ?_
  rintro e w10 ⟨v6, rfl, ho6, hw10⟩
  rw [sm_match] at ho6 ⊢
  obtain ⟨xa6, xc6, rfl⟩ := ho6.val
  have B10 := hide (chain (unhide B9) hw10)
  have L10 := hide ((unhide L9).below hw10)
  have M10 := hide ho6.lst
  have T10 := hide (And.intro (cell_kept hw10 (unhide T9).1) (cell_kept hw10 (unhide T9).2))
  clear ho6 hw10 B9 L9 T9 S9 Q9 G9
  go_wp2_with fail
  refine (small_any _).mono ?_
  rintro e w11 ⟨sa11, sc11, rfl, hs11, hw11⟩
  have B11 := hide (chain (unhide B10) hw11)
  have L11 := hide ((unhide L10).below hw11)
  have M11 := hide ((unhide M10).below hw11)
  have T11 := hide (And.intro (cell_kept hw11 (unhide T10).1) (cell_kept hw11 (unhide T10).2))
  have S11 := hide hs11
  clear hs11 hw11 B10 L10 M10 T10
  go_wp2_with fail
  refine (pLabels_any _ smallR (tS, tA, tOd) tP tC1 w11 ((unhide HL).below (unhide B11)) (unhide S11) ok_offs.2.1 sh6.2.2.2.2.2.2.1 sh6.2.2.2.2.2.2.2).mono ?_
  rintro e w12 ⟨v8, rfl, ho8, hw12⟩
  rw [sm_labs] at ho8
  obtain ⟨xa8, xc8, rfl⟩ := ho8.val
  obtain ⟨b1, o1, rfl, k1, k2, k3, k4⟩ := off3 ((unhide L11).below hw12)
  obtain ⟨b2, o2, rfl, k5⟩ := off2 ((unhide M11).below hw12)
  obtain ⟨b3, o3, rfl, k6, k7⟩ := lab5 ho8.lst
  have k8 := cell_kept hw12 (unhide T11).1
  have k9 := cell_kept hw12 (unhide T11).2
  have B12 := hide (chain (unhide B11) hw12)
  clear ho8 hw12 B11 L11 M11 T11 S11
  have copen : Hid (∀ V a c, Hid (Below w.heap.size w V) → Lst typK V (.slice a 2 c) smallR → Calls Tryz.prog 17 #[.slice a 2 c, .agg #[.string (bytesT tS), .string (bytesT tA), .string (bytesT tSpot)]] V fun e w' => e = .returned (.bool true) ∧ Below V.heap.size V w') := fun V a c hV hl => by
    have h := popen_any _ smallR (tS, tA, tSpot) V ((unhide HL).below (unhide hV)) hl ok_offs.1
    rw [sm_open] at h
    exact h
  have g1 := txt_is tSpot [115, 112, 111, 116]
  have g2 := txt_is tL [108]
  have g3 := txt_is tS [115]
  have g4 := txt_is kHost [104, 111, 115, 116]
  have g5 := txt_is tA [97]
  rw [show (tSpot == [115, 112, 111, 116]) = true by decide] at g1
  rw [show (tL == [108]) = true by decide] at g2
  rw [show (tS == [115]) = true by decide] at g3
  rw [show (kHost == [104, 111, 115, 116]) = true by decide] at g4
  rw [show (tA == [97]) = true by decide] at g5
  obtain ⟨X1, hX1⟩ : ∃ X, X = bytesT tS := ⟨_, rfl⟩
  obtain ⟨X2, hX2⟩ : ∃ X, X = bytesT tA := ⟨_, rfl⟩
  obtain ⟨X3, hX3⟩ : ∃ X, X = bytesT tSpot := ⟨_, rfl⟩
  obtain ⟨X4, hX4⟩ : ∃ X, X = bytesT tL := ⟨_, rfl⟩
  obtain ⟨X5, hX5⟩ : ∃ X, X = bytesT kHost := ⟨_, rfl⟩
  rw [← hX1] at g3 k1 k5 copen
  rw [← hX2] at g5 k2 k7 copen
  rw [← hX3] at g1 k3 copen
  rw [← hX4] at g2 k4
  rw [← hX5] at g4 k6
  clear hX1 hX2 hX3 hX4 hX5
  obtain ⟨B4, hB4⟩ : ∃ b, b = B4' := ⟨_, rfl⟩
  rw [← hB4] at k8 k9 ⊢
  clear hB4
  have hS : Hid (Below w.heap.size w w12) ∧ w12.cell? ⟨b1, o1, none⟩ = some (.string X1) ∧ w12.cell? ⟨b1, o1 + 1, none⟩ = some (.string X2) ∧ w12.cell? ⟨b1, o1 + 2, none⟩ = some (.string X3) ∧ w12.cell? ⟨b1, o1 + 6, none⟩ = some (.string X4) ∧ w12.cell? ⟨b2, o2, none⟩ = some (.string X1) ∧ w12.cell? ⟨b3, o3, none⟩ = some (.string X5) ∧ w12.cell? ⟨b3, o3 + 9, none⟩ = some (.string X2) ∧ w12.cell? ⟨B4, 0, none⟩ = some (.int .i64 8000) ∧ w12.cell? ⟨B4, 1, none⟩ = some (.int .i64 17179869184) := ⟨unhide B12, k1, k2, k3, k4, k5, k6, k7, k8, k9⟩
  have kbel : Hid (∀ V V', (Hid (Below w.heap.size w V) ∧ V.cell? ⟨b1, o1, none⟩ = some (.string X1) ∧ V.cell? ⟨b1, o1 + 1, none⟩ = some (.string X2) ∧ V.cell? ⟨b1, o1 + 2, none⟩ = some (.string X3) ∧ V.cell? ⟨b1, o1 + 6, none⟩ = some (.string X4) ∧ V.cell? ⟨b2, o2, none⟩ = some (.string X1) ∧ V.cell? ⟨b3, o3, none⟩ = some (.string X5) ∧ V.cell? ⟨b3, o3 + 9, none⟩ = some (.string X2) ∧ V.cell? ⟨B4, 0, none⟩ = some (.int .i64 8000) ∧ V.cell? ⟨B4, 1, none⟩ = some (.int .i64 17179869184)) → Below V.heap.size V V' → Hid (Below w.heap.size w V') ∧ V'.cell? ⟨b1, o1, none⟩ = some (.string X1) ∧ V'.cell? ⟨b1, o1 + 1, none⟩ = some (.string X2) ∧ V'.cell? ⟨b1, o1 + 2, none⟩ = some (.string X3) ∧ V'.cell? ⟨b1, o1 + 6, none⟩ = some (.string X4) ∧ V'.cell? ⟨b2, o2, none⟩ = some (.string X1) ∧ V'.cell? ⟨b3, o3, none⟩ = some (.string X5) ∧ V'.cell? ⟨b3, o3 + 9, none⟩ = some (.string X2) ∧ V'.cell? ⟨B4, 0, none⟩ = some (.int .i64 8000) ∧ V'.cell? ⟨B4, 1, none⟩ = some (.int .i64 17179869184)) := fun V V' h hb => ⟨chain (unhide h.1) hb, cell_kept hb h.2.1, cell_kept hb h.2.2.1, cell_kept hb h.2.2.2.1, cell_kept hb h.2.2.2.2.1, cell_kept hb h.2.2.2.2.2.1, cell_kept hb h.2.2.2.2.2.2.1, cell_kept hb h.2.2.2.2.2.2.2.1, cell_kept hb h.2.2.2.2.2.2.2.2.1, cell_kept hb h.2.2.2.2.2.2.2.2.2⟩
  have kdrew : Hid (∀ V, (Hid (Below w.heap.size w V) ∧ V.cell? ⟨b1, o1, none⟩ = some (.string X1) ∧ V.cell? ⟨b1, o1 + 1, none⟩ = some (.string X2) ∧ V.cell? ⟨b1, o1 + 2, none⟩ = some (.string X3) ∧ V.cell? ⟨b1, o1 + 6, none⟩ = some (.string X4) ∧ V.cell? ⟨b2, o2, none⟩ = some (.string X1) ∧ V.cell? ⟨b3, o3, none⟩ = some (.string X5) ∧ V.cell? ⟨b3, o3 + 9, none⟩ = some (.string X2) ∧ V.cell? ⟨B4, 0, none⟩ = some (.int .i64 8000) ∧ V.cell? ⟨B4, 1, none⟩ = some (.int .i64 17179869184)) → Hid (Below w.heap.size w V.drew) ∧ V.drew.cell? ⟨b1, o1, none⟩ = some (.string X1) ∧ V.drew.cell? ⟨b1, o1 + 1, none⟩ = some (.string X2) ∧ V.drew.cell? ⟨b1, o1 + 2, none⟩ = some (.string X3) ∧ V.drew.cell? ⟨b1, o1 + 6, none⟩ = some (.string X4) ∧ V.drew.cell? ⟨b2, o2, none⟩ = some (.string X1) ∧ V.drew.cell? ⟨b3, o3, none⟩ = some (.string X5) ∧ V.drew.cell? ⟨b3, o3 + 9, none⟩ = some (.string X2) ∧ V.drew.cell? ⟨B4, 0, none⟩ = some (.int .i64 8000) ∧ V.drew.cell? ⟨B4, 1, none⟩ = some (.int .i64 17179869184)) := fun V h => unhide kbel _ _ h (below_drew6 V)
  clear k1 k2 k3 k4 k5 k6 k7 k8 k9
  have qT := fun V => Am.eq2 V 8000 17179869184 8000 17179869184
  go_wp2_with fail
  go_region_held3 (fun V => Hid (Below w.heap.size w V) ∧ V.cell? ⟨b1, o1, none⟩ = some (.string X1) ∧ V.cell? ⟨b1, o1 + 1, none⟩ = some (.string X2) ∧ V.cell? ⟨b1, o1 + 2, none⟩ = some (.string X3) ∧ V.cell? ⟨b1, o1 + 6, none⟩ = some (.string X4) ∧ V.cell? ⟨b2, o2, none⟩ = some (.string X1) ∧ V.cell? ⟨b3, o3, none⟩ = some (.string X5) ∧ V.cell? ⟨b3, o3 + 9, none⟩ = some (.string X2) ∧ V.cell? ⟨B4, 0, none⟩ = some (.int .i64 8000) ∧ V.cell? ⟨B4, 1, none⟩ = some (.int .i64 17179869184))
    (first | (with_reducible exact hS) | (with_reducible assumption) | (with_reducible refine unhide kdrew _ ?_; with_reducible assumption) | (with_reducible refine unhide kbel _ _ ?_ hw14; first | (with_reducible assumption) | (with_reducible refine unhide kdrew _ ?_; with_reducible assumption)) | (with_reducible refine unhide kbel _ _ ?_ hw13; first | (with_reducible assumption) | (with_reducible refine unhide kdrew _ ?_; with_reducible assumption)))
    (first
      | (go_at_call 31; refine (small_any _).mono ?_; rintro e w13 ⟨sa13, sc13, rfl, hs13, hw13⟩)
      | (go_at_call 17; refine (unhide copen _ _ _ ?_ hs13).mono ?_; (exact And.left ‹_›); rintro e w14 ⟨rfl, hw14⟩))
  all_goals
    rename_i hH
    have BF := hH.1
    clear hH
    go_wp2_with fail
    go_ret
    exact ⟨rfl, unhide BF⟩
end Go.Proofs.YtepcnfnmphgccaaGreatDoor
