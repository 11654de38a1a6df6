/- Layer 7: till; live answers true. -/
import Derived.Test.YtcpgodkgdceocaaCoN
namespace Go.Proofs.Ytcpgodkgdceocaa
open Go.RowKit Suf Val

def tA : Txt := [97]
def tOd : Txt := [111, 100]
def tSpot : Txt := [115, 112, 111, 116]
def tS : Txt := [115]
def tL : Txt := [108]
def cS : VCool := ((tS, tA, tSpot), 30)
def cS9 : VCool := ((tS, tA, tSpot), 9)
def cL : VCool := ((tL, tA, tOd), 5)
theorem sm_put : putR [cS] cL = ([cL, cS], 0) := by decide +kernel
theorem sm_put9 : putR [cS] cS9 = ([cS9], 0) := by decide +kernel
theorem sm_next : nextR [cL, cS] 0 = (5, true) := by decide +kernel
theorem sm_left : leftR [cS] [cL.1, cS.1] 10 = [cL.1] := by decide +kernel
theorem sm_is29 : isCoolR [cS] cS.1 29 = true := by decide +kernel
theorem sm_is30 : isCoolR [cS] cS.1 30 = false := by decide +kernel
theorem sm_clean : cleanR [cL, cS] 5 = [cS] := by decide +kernel
theorem sm_check : coolR [cL, cS] = 0 := by decide +kernel
theorem sh7 : short tA ∧ short tOd ∧ short tSpot ∧ short tS ∧ short tL := by unfold short; decide
theorem okS : okO cS.1 := ⟨sh7.2.2.2.1, sh7.1, sh7.2.2.1⟩
theorem okS9 : okO cS9.1 := ⟨sh7.2.2.2.1, sh7.1, sh7.2.2.1⟩
theorem okL : okO cL.1 := ⟨sh7.2.2.2.2, sh7.1, sh7.2.1⟩
set_option maxHeartbeats 2000000 in
theorem till_any (k z n : ByteArray) (t : Int) (w : World) : Calls Try.prog 8 #[.string k, .string z, .string n, .int .i64 t] w fun e w' => e = .returned (.agg #[.string n, .string z, .string k, .int .i64 t]) ∧ Below w.heap.size w w' := by
  obtain ⟨PP, hPP⟩ : ∃ P, P = fun (e : Ending) (w' : World) => e = .returned (.agg #[.string n, .string z, .string k, .int .i64 t]) ∧ Below w.heap.size w w' := ⟨_, rfl⟩
  show Calls _ _ _ _ (fun e w' => (fun (e : Ending) (w' : World) => e = .returned (.agg #[.string n, .string z, .string k, .int .i64 t]) ∧ Below w.heap.size w w') e w')
  rw [← hPP]
  have HPP := hide hPP
  clear hPP
  go_enter Try.func8, Try.ntmps8
  go_wp2_with fail
  refine bodyPost_ret (v := .agg #[.string n, .string z, .string k, .int .i64 t]) (by simp [results, Try.results8, go_sem]) rfl ?_
  rw [unhide HPP]
  exact ⟨rfl, boxb _⟩
theorem first_c {w : World} {xa : Option Addr} {n xc : Nat} {y : VCool} {l : List VCool} (h : Lst coolK w (.slice xa n xc) (y :: l)) : ∃ b o, xa = some ⟨b, o, none⟩ ∧ w.cell? ⟨b, o, none⟩ = some (.string (bytesT y.1.1)) ∧ w.cell? ⟨b, o + 1, none⟩ = some (.string (bytesT y.1.2.1)) ∧ w.cell? ⟨b, o + 2, none⟩ = some (.string (bytesT y.1.2.2)) ∧ w.cell? ⟨b, o + 3, none⟩ = some (.int .i64 y.2) := by
  obtain ⟨b, o, rfl, h0⟩ := h.at (j := 0) (by simp)
  obtain ⟨h0, h3⟩ := cool_at.1 h0
  obtain ⟨⟨g0, _⟩, ⟨g1, _⟩, g2, _⟩ := off_at.1 h0
  rw [show coolK.size = 4 from rfl] at g0 g1 g2 h3
  exact ⟨b, o, rfl, by simpa using g0, by simpa using g1, by simpa using g2, by simpa using h3⟩
theorem two_o {W : World} (x y : VOff) (hx : okO x) (hy : okO y) : Lst offK (W.alloc (.cells #[.string (bytesT x.1), .string (bytesT x.2.1), .string (bytesT x.2.2), .string (bytesT y.1), .string (bytesT y.2.1), .string (bytesT y.2.2)] 23)) (.slice (some ⟨W.heap.size, 0, none⟩) 2 2) [x, y] :=
  rows_block (t := 23) ((rows_one (off_row (w := W) (x := x) hx.1 hx.2.1 hx.2.2)).append (rows_one (off_row (w := W) (x := y) hy.1 hy.2.1 hy.2.2))) (by simp) rfl rfl
theorem lst_two {W : World} {B : Nat} (x y : VOff) (hx : okO x) (hy : okO y) (c0 : W.cell? ⟨B, 0, none⟩ = some (.string (bytesT x.1))) (c1 : W.cell? ⟨B, 1, none⟩ = some (.string (bytesT x.2.1))) (c2 : W.cell? ⟨B, 2, none⟩ = some (.string (bytesT x.2.2))) (c3 : W.cell? ⟨B, 3, none⟩ = some (.string (bytesT y.1))) (c4 : W.cell? ⟨B, 4, none⟩ = some (.string (bytesT y.2.1))) (c5 : W.cell? ⟨B, 5, none⟩ = some (.string (bytesT y.2.2))) : Lst offK W (.slice (some ⟨B, 0, none⟩) 2 2) [x, y] :=
  ⟨_, _, rfl, fun j hj => ⟨B, 0, rfl, by
    match j, hj with
    | 0, _ => exact off_at.2 ⟨⟨by simpa using c0, hx.1⟩, ⟨by simpa using c1, hx.2.1⟩, by simpa using c2, hx.2.2⟩
    | 1, _ => exact off_at.2 ⟨⟨by simpa [offK, pairK, strK] using c3, hy.1⟩, ⟨by simpa [offK, pairK, strK] using c4, hy.2.1⟩, by simpa [offK, pairK, strK] using c5, hy.2.2⟩⟩, by simp, by simp⟩
set_option maxRecDepth 100000 in
set_option maxHeartbeats 32000000 in
theorem live7_any (w : World) : Calls Try.prog 10 #[] w fun e w' => e = .returned (.bool true) ∧ Below w.heap.size w w' := by
  go_enter Try.func10, Try.ntmps10
  go_wp2_with fail
  refine (till_any _ _ _ _ _).mono ?_
  rintro e w1 ⟨rfl, hw1⟩
  have B1 := hide hw1
  clear hw1
  have LS1 : Hid (Lst coolK (w1.alloc (.cells #[.string ⟨#[115]⟩, .string ⟨#[97]⟩, .string ⟨#[115, 112, 111, 116]⟩, .int .i64 30] 25)) (.slice (some ⟨w1.heap.size, 0, none⟩) 1 1) [cS]) := one_c (W := w1) cS okS
  have BA : Hid (Below w1.heap.size w1 (w1.alloc (.cells #[.string ⟨#[115]⟩, .string ⟨#[97]⟩, .string ⟨#[115, 112, 111, 116]⟩, .int .i64 30] 25))) := boxb _
  have B2 := hide (chain (unhide B1) (unhide BA))
  clear B1 BA
  go_wp2_with fail
  refine (till_any _ _ _ _ _).mono ?_
  rintro e w3 ⟨rfl, hw3⟩
  have B3 := hide (chain (unhide B2) hw3)
  have LS3 := hide ((unhide LS1).below hw3)
  clear hw3 B2 LS1
  have cp : Hid (Calls Try.prog 12 #[.slice (some ⟨w1.heap.size, 0, none⟩) 1 1, .agg #[.string ⟨#[108]⟩, .string ⟨#[97]⟩, .string ⟨#[111, 100]⟩, .int .i64 5]] w3 fun e w' => (∃ v', e = .returned (.tuple #[v', .int .i64 (putR [cS] cL).2]) ∧ OwnC w' w3.heap.size v' (putR [cS] cL).1) ∧ Below w3.heap.size w3 w') := pput_any _ [cS] cL w3 (unhide LS3) okL
  rw [sm_put] at cp
  go_wp2_with fail
  refine (unhide cp).mono ?_
  rintro e w4 ⟨⟨v4, rfl, hown4⟩, hw4⟩
  obtain ⟨pa, pc, rfl⟩ := hown4.val
  have B4 := hide (chain (unhide B3) hw4)
  have LS4 := hide ((unhide LS3).below hw4)
  have LP4 := hide hown4.lst
  clear hown4 hw4 cp B3 LS3
  go_wp2_with fail
  refine (till_any _ _ _ _ _).mono ?_
  rintro e w5 ⟨rfl, hw5⟩
  have B5 := hide (chain (unhide B4) hw5)
  have LS5 := hide ((unhide LS4).below hw5)
  have LP5 := hide ((unhide LP4).below hw5)
  clear hw5 B4 LS4 LP4
  have cp : Hid (Calls Try.prog 12 #[.slice (some ⟨w1.heap.size, 0, none⟩) 1 1, .agg #[.string ⟨#[115]⟩, .string ⟨#[97]⟩, .string ⟨#[115, 112, 111, 116]⟩, .int .i64 9]] w5 fun e w' => (∃ v', e = .returned (.tuple #[v', .int .i64 (putR [cS] cS9).2]) ∧ OwnC w' w5.heap.size v' (putR [cS] cS9).1) ∧ Below w5.heap.size w5 w') := pput_any _ [cS] cS9 w5 (unhide LS5) okS9
  rw [sm_put9] at cp
  go_wp2_with fail
  refine (unhide cp).mono ?_
  rintro e w6 ⟨⟨v6, rfl, hown6⟩, hw6⟩
  obtain ⟨qa, qc, rfl⟩ := hown6.val
  have B6 := hide (chain (unhide B5) hw6)
  have LS6 := hide ((unhide LS5).below hw6)
  have LP6 := hide ((unhide LP5).below hw6)
  have LQ6 := hide hown6.lst
  clear hown6 hw6 cp B5 LS5 LP5
  have cn := hide (pnext_any _ [cL, cS] 0 w6 (unhide LP6))
  rw [sm_next] at cn
  go_wp2_with fail
  refine (unhide cn).mono ?_
  rintro e w7 ⟨rfl, hw7⟩
  have B7 := hide (chain (unhide B6) hw7)
  have LS7 := hide ((unhide LS6).below hw7)
  have LP7 := hide ((unhide LP6).below hw7)
  have LQ7 := hide ((unhide LQ6).below hw7)
  clear hw7 cn B6 LS6 LP6 LQ6
  obtain ⟨pb, po, rfl, p0, p1, p2, p3⟩ := first_c (unhide LP7)
  obtain ⟨_, _, e8, s0, s1, s2, s3⟩ := first_c (unhide LS7)
  injection e8 with e8
  injection e8 with e8 e9
  subst e8 e9
  have hS : (fun W => Hid (Below w7.heap.size w7 W) ∧ W.cell? ⟨pb, po, none⟩ = some (.string ⟨#[108]⟩) ∧ W.cell? ⟨pb, po + 1, none⟩ = some (.string ⟨#[97]⟩) ∧ W.cell? ⟨pb, po + 2, none⟩ = some (.string ⟨#[111, 100]⟩) ∧ W.cell? ⟨w1.heap.size, 0, none⟩ = some (.string ⟨#[115]⟩) ∧ W.cell? ⟨w1.heap.size, 1, none⟩ = some (.string ⟨#[97]⟩) ∧ W.cell? ⟨w1.heap.size, 2, none⟩ = some (.string ⟨#[115, 112, 111, 116]⟩)) w7 := ⟨Below.refl _ _, p0, p1, p2, s0, s1, s2⟩
  simp only at hS
  clear p0 p1 p2 p3 s0 s1 s2 s3
  have cl : Hid (∀ V B', Hid (Below w7.heap.size w7 V) → V.cell? ⟨B', 0, none⟩ = some (.string ⟨#[108]⟩) → V.cell? ⟨B', 1, none⟩ = some (.string ⟨#[97]⟩) → V.cell? ⟨B', 2, none⟩ = some (.string ⟨#[111, 100]⟩) → V.cell? ⟨B', 3, none⟩ = some (.string ⟨#[115]⟩) → V.cell? ⟨B', 4, none⟩ = some (.string ⟨#[97]⟩) → V.cell? ⟨B', 5, none⟩ = some (.string ⟨#[115, 112, 111, 116]⟩) → Calls Try.prog 15 #[.slice (some ⟨w1.heap.size, 0, none⟩) 1 1, .slice (some ⟨B', 0, none⟩) 2 2, .int .i64 10] V fun e w' => (∃ sa sc, e = .returned (.slice sa 1 sc)) ∧ Below V.heap.size V w') := fun V B' hb c0 c1 c2 c3 c4 c5 => by
    refine (pleft_any _ _ [cS] [cL.1, cS.1] 10 V ((unhide LS7).below (unhide hb)) (lst_two cL.1 cS.1 okL okS c0 c1 c2 c3 c4 c5) (by decide)).mono ?_
    rintro e w' ⟨⟨v', rfl, ho⟩, hw'⟩
    rw [sm_left] at ho
    obtain ⟨sa, sc, rfl⟩ := ho.val
    exact ⟨⟨sa, sc, rfl⟩, hw'⟩
  go_wp2_with fail
  go_region_held3 (fun W => Hid (Below w7.heap.size w7 W) ∧ W.cell? ⟨pb, po, none⟩ = some (.string ⟨#[108]⟩) ∧ W.cell? ⟨pb, po + 1, none⟩ = some (.string ⟨#[97]⟩) ∧ W.cell? ⟨pb, po + 2, none⟩ = some (.string ⟨#[111, 100]⟩) ∧ W.cell? ⟨w1.heap.size, 0, none⟩ = some (.string ⟨#[115]⟩) ∧ W.cell? ⟨w1.heap.size, 1, none⟩ = some (.string ⟨#[97]⟩) ∧ W.cell? ⟨w1.heap.size, 2, none⟩ = some (.string ⟨#[115, 112, 111, 116]⟩))
    (first | (with_reducible exact hS) | (with_reducible assumption) | (with_reducible refine c6_drew7 ?_; with_reducible assumption) | (refine c6_call7 (boxb _) ?_; with_reducible assumption) | (refine c6_call7 (boxb _) (c6_drew7 ?_); with_reducible assumption) | (refine c6_drew7 (c6_call7 (boxb _) ?_); with_reducible assumption) | (refine c6_call7 (by assumption) ?_; with_reducible assumption) | (refine c6_call7 (by assumption) (c6_call7 (boxb _) ?_); with_reducible assumption))
    (first | (go_at_call 15; refine (unhide cl _ _ (by first | (exact kd7 (ka7 _ (Below.refl _ _))) | (exact ka7 _ (kd7 (Below.refl _ _))) | (exact ka7 _ (Below.refl _ _))) (by simp [go_sem]) (by simp [go_sem]) (by simp [go_sem]) (by simp [go_sem]) (by simp [go_sem]) (by simp [go_sem])).mono ?_; rintro e w9 ⟨⟨xa, xc, rfl⟩, hw9⟩))
  rename_i hH
  obtain ⟨hb9, g0, g1, g2, t0, t1, t2⟩ := hH
  have B9 := hide (chain (unhide B7) (unhide hb9))
  have LS9 := hide ((unhide LS7).below (unhide hb9))
  have LP9 := hide ((unhide LP7).below (unhide hb9))
  have LQ9 := hide ((unhide LQ7).below (unhide hb9))
  clear hS cl hw9 hb9 B7 LS7 LP7 LQ7
  obtain ⟨qb, qo, rfl, _, _, _, q3⟩ := first_c (unhide LQ9)
  have c29 : Hid (Calls Try.prog 21 #[.slice (some ⟨w1.heap.size, 0, none⟩) 1 1, .agg #[.string ⟨#[115]⟩, .string ⟨#[97]⟩, .string ⟨#[115, 112, 111, 116]⟩], .int .i64 29] w9 fun e w' => e = .returned (.bool (isCoolR [cS] cS.1 29)) ∧ Below w9.heap.size w9 w') := pisCool_any _ [cS] cS.1 29 w9 (unhide LS9)
  rw [sm_is29] at c29
  go_wp2_with fail
  refine (unhide c29).mono ?_
  rintro e w10 ⟨rfl, hw10⟩
  have B10 := hide (chain (unhide B9) hw10)
  have LS10 := hide ((unhide LS9).below hw10)
  have LP10 := hide ((unhide LP9).below hw10)
  replace t0 := cell_kept hw10 t0
  replace t1 := cell_kept hw10 t1
  replace t2 := cell_kept hw10 t2
  clear hw10 c29 g0 g1 g2 q3 B9 LS9 LP9 LQ9
  have c30 : Hid (Calls Try.prog 21 #[.slice (some ⟨w1.heap.size, 0, none⟩) 1 1, .agg #[.string ⟨#[115]⟩, .string ⟨#[97]⟩, .string ⟨#[115, 112, 111, 116]⟩], .int .i64 30] w10 fun e w' => e = .returned (.bool (isCoolR [cS] cS.1 30)) ∧ Below w10.heap.size w10 w') := pisCool_any _ [cS] cS.1 30 w10 (unhide LS10)
  rw [sm_is30] at c30
  go_wp2_with fail
  refine (unhide c30).mono ?_
  rintro e w11 ⟨rfl, hw11⟩
  have B11 := hide (chain (unhide B10) hw11)
  have LP11 := hide ((unhide LP10).below hw11)
  clear hw11 c30 t0 t1 t2 B10 LS10 LP10
  have cn := hide (pclean_any _ [cL, cS] 5 w11 (unhide LP11) (by decide))
  rw [sm_clean] at cn
  go_wp2_with fail
  refine (unhide cn).mono ?_
  rintro e w12 ⟨⟨v12, rfl, ho⟩, hw12⟩
  obtain ⟨sa, sc, rfl⟩ := ho.val
  have B12 := hide (chain (unhide B11) hw12)
  have LP12 := hide ((unhide LP11).below hw12)
  clear hw12 cn ho B11 LP11
  have cc := hide (pcheck7_any _ [cL, cS] w12 (unhide LP12))
  rw [sm_check] at cc
  go_wp2_with fail
  refine (unhide cc).mono ?_
  rintro e w13 ⟨rfl, hw13⟩
  have B13 := hide (chain (unhide B12) hw13)
  clear hw13 cc B12 LP12
  go_wp2_with fail
  go_ret
  exact ⟨rfl, unhide B13⟩
end Go.Proofs.Ytcpgodkgdceocaa
