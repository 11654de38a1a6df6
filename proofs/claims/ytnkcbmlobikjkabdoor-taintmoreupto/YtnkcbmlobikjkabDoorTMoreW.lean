/- TaintMore: the walk. -/
import Derived.Test.YtnkcbmlobikjkabDoorTaU
import Derived.Test.YtnkcbmlobikjkabDoorTaM
import Derived.Test.YtnkcbmlobikjkabDoorTaN
namespace Go.Proofs.YtnkcbmlobikjkabDoor.taintMore
open Go.RowKit Suf Val

theorem row_emptyL {w w0 : World} (hb : w0.heap.size ≤ w.heap.size) : (w.alloc (.cells #[] 26)).ownsRow w0.heap.size 26 2 (.slice (some ⟨w.heap.size, 0, none⟩) 0 0) 0 [] := ⟨rfl, Or.inr ⟨w.heap.size, 0, #[], rfl, hb, heap_alloc_new w _, Nat.le_refl _, Nat.zero_le _, rfl, rfl⟩⟩
theorem row_emptyT {w w0 : World} (hb : w0.heap.size ≤ w.heap.size) : (w.alloc (.cells #[] 28)).ownsRow w0.heap.size 28 3 (.slice (some ⟨w.heap.size, 0, none⟩) 0 0) 0 [] := ⟨rfl, Or.inr ⟨w.heap.size, 0, #[], rfl, hb, heap_alloc_new w _, Nat.le_refl _, Nat.zero_le _, rfl, rfl⟩⟩

set_option maxRecDepth 100000 in
set_option maxHeartbeats 8000000 in
theorem walk (v0 v1 v2 v3 : Value) (lm lr : List VTol) (la lb : List Lab) (w : World) (h0 : Tols w v0 lm) (h1 : Tols w v1 lr) (h2 : Labs w v2 la) (h3 : Labs w v3 lb)
    (k0 : lm.length ≤ 1048576) (k1 : lr.length ≤ 1048576) (k2 : la.length ≤ 1048576) (k3 : lb.length ≤ 1048576) (hL : Laid w) :
    Calls Tryd.prog 6 #[.agg #[v0, v1, v2, v3]] w fun e w' => e = .returned (.bool true) ∧ Below w.heap.size w w' := by
  have HL := hide hL
  have H0 := hide h0
  have H1 := hide h1
  have H2 := hide h2
  have H3 := hide h3
  obtain ⟨a0, c0, rfl⟩ := h0.val
  obtain ⟨a1, c1, rfl⟩ := h1.val
  obtain ⟨a2, c2, rfl⟩ := h2.val
  obtain ⟨a3, c3, rfl⟩ := h3.val
  obtain ⟨n0, hn0⟩ : ∃ n, n = lm.length := ⟨_, rfl⟩
  obtain ⟨n1, hn1⟩ : ∃ n, n = lr.length := ⟨_, rfl⟩
  obtain ⟨n2, hn2⟩ : ∃ n, n = la.length := ⟨_, rfl⟩
  obtain ⟨n3, hn3⟩ : ∃ n, n = lb.length := ⟨_, rfl⟩
  rw [← hn0] at H0 k0 ⊢
  rw [← hn1] at H1 k1 ⊢
  rw [← hn2] at H2 k2 ⊢
  rw [← hn3] at H3 k3 ⊢
  have N0 := hide hn0
  have N1 := hide hn1
  have N2 := hide hn2
  have N3 := hide hn3
  have K0 := hide1 k0
  have K1 := hide1 k1
  have K2 := hide1 k2
  have K3 := hide1 k3
  have b0 : n0 ≤ 4398046511104 := by omega
  have b2 : n2 ≤ 4398046511104 := by omega
  clear hL h0 h1 h2 h3 hn0 hn1 hn2 hn3 k0 k1 k2 k3
  go_enter Tryd.func6, Tryd.ntmps6
  go_wp2_with fail
  go_loopw [7, 8] (fun o i W => ∃ (k : Nat) (i' : Int), k ≤ n0 ∧ i = .int .i64 i' ∧ i' = (k : Int) - 1 ∧ Hid (W.ownsRow w.heap.size 28 3 o (n0 - k) (flatT (lm.drop k).reverse)) ∧ Hid (Below w.heap.size w W)) (fun _ i _ => (intOf i + 1).toNat)
  case atStart => exact ⟨n0, _, Nat.le_refl _, rfl, by go_num, by rw [List.drop_eq_nil_of_le (by rw [← unhide N0]; exact Nat.le_refl _), Nat.sub_self]; exact row_nilT _ _, box_below _⟩
  case round =>
    obtain ⟨k, i', hk, rfl, hi', hr, hbel⟩ := hrel
    cases k with
    | succ j =>
      obtain rfl : i' = (j : Int) := by omega
      clear hi'
      have hlk : j < lm.length := by rw [← unhide N0]; omega
      have hj0 : j < n0 := by omega
      obtain ⟨b, o, rfl, hreq⟩ := (unhide H0).at hlk
      have hdr : Hid ((lm.drop j).reverse = (lm.drop (j + 1)).reverse ++ [lm[j]]) := by show _ = _; rw [List.drop_eq_getElem_cons hlk, List.reverse_cons]
      obtain ⟨r, hrr⟩ : ∃ r, r = lm[j] := ⟨_, rfl⟩
      rw [← hrr] at hreq hdr
      obtain ⟨g0, g1, g2, g3, g4⟩ := hreq.below (unhide hbel)
      clear hreq hrr hlk
      have A0 := hide ((unhide hr).alloc (.cells #[.string (bytesT r.1), .string (bytesT r.2.1), .bool r.2.2] 28))
      have B0 := hide (chain (unhide hbel) (box_below (.cells #[.string (bytesT r.1), .string (bytesT r.2.1), .bool r.2.2] 28)))
      have L0 : Hid (Tols (wr.alloc (.cells #[.string (bytesT r.1), .string (bytesT r.2.1), .bool r.2.2] 28)) (.slice (some ⟨wr.heap.size, 0, none⟩) 1 1) [r]) := tols_box rfl g3 g4
      clear g3 g4
      go_wp2_with (at_builtin; (refine wpList_append_tols rfl _ _ rfl w.heap.size _ (n0 - (j + 1)) _ rfl (unhide A0) _ [r] rfl (unhide L0) (by have := unhide1 K0; simp only [List.length_cons, List.length_nil]; omega) (unhide B0).size ?_; intro v1 w1 hown1 hg1; have B1 := hide (row_growT (unhide B0) (unhide A0) hg1); have R1 := hide hown1; clear hown1 hg1 g0 g1 g2))
      go_roundw
      case rel => exact ⟨j, _, by omega, rfl, by go_num, by rw [unhide hdr, flatT_append, show n0 - j = n0 - (j + 1) + 1 by omega]; exact unhide R1, B1⟩
      case measure => simp [intOf]
    | zero =>
      obtain rfl : i' = -1 := by omega
      clear hi'
      have R7 : Hid (Tols wr u7 lm.reverse) := row_tols (unhide hr) (by rw [List.length_reverse]; exact unhide N0) (fun y hy => (unhide H0).short y (by simpa using hy)) (by rw [List.length_reverse, ← unhide N0]; exact b0)
      obtain ⟨a7, c7, he7⟩ := (unhide R7).val
      rw [List.length_reverse, ← unhide N0] at he7
      subst he7
      clear hr hk
      obtain ⟨V, hV⟩ : ∃ V, V = wr := ⟨_, rfl⟩
      subst hV
      go_wp2_with fail
      go_loopw [9, 10] (fun o i W => ∃ (k : Nat) (i' : Int), k ≤ n2 ∧ i = .int .i64 i' ∧ i' = (k : Int) - 1 ∧ Hid (W.ownsRow V.heap.size 26 2 o (n2 - k) (flatL (la.drop k).reverse)) ∧ Hid (Below V.heap.size V W)) (fun _ i _ => (intOf i + 1).toNat)
      case atStart => exact ⟨n2, _, Nat.le_refl _, rfl, by go_num, by rw [List.drop_eq_nil_of_le (by rw [← unhide N2]; exact Nat.le_refl _), Nat.sub_self]; exact row_nilL _ _, Below.refl _ _⟩
      case round =>
        obtain ⟨k, i', hk, rfl, hi', hr, hb2⟩ := hrel
        cases k with
        | succ j =>
          obtain rfl : i' = (j : Int) := by omega
          clear hi'
          have hlk : j < la.length := by rw [← unhide N2]; omega
          have hj0 : j < n2 := by omega
          obtain ⟨b, o, rfl, hreq⟩ := (unhide H2).at hlk
          have hdr : Hid ((la.drop j).reverse = (la.drop (j + 1)).reverse ++ [la[j]]) := by show _ = _; rw [List.drop_eq_getElem_cons hlk, List.reverse_cons]
          obtain ⟨r, hrr⟩ : ∃ r, r = la[j] := ⟨_, rfl⟩
          rw [← hrr] at hreq hdr
          obtain ⟨g0, g1, g3, g4⟩ := (hreq.below (unhide hbel)).below (unhide hb2)
          clear hreq hrr hlk
          have A0 := hide ((unhide hr).alloc (.cells #[.string (bytesT r.1), .string (bytesT r.2)] 26))
          have B0 := hide (chain (unhide hb2) (box_below (.cells #[.string (bytesT r.1), .string (bytesT r.2)] 26)))
          have L0 : Hid (Labs (wr.alloc (.cells #[.string (bytesT r.1), .string (bytesT r.2)] 26)) (.slice (some ⟨wr.heap.size, 0, none⟩) 1 1) [r]) := labs_box rfl g3 g4
          clear g3 g4
          go_wp2_with (at_builtin; (refine wpList_append_labs rfl _ _ rfl V.heap.size _ (n2 - (j + 1)) _ rfl (unhide A0) _ [r] rfl (unhide L0) (by have := unhide1 K2; simp only [List.length_cons, List.length_nil]; omega) (unhide B0).size ?_; intro v1 w1 hown1 hg1; have B1 := hide (row_growT (unhide B0) (unhide A0) hg1); have R1 := hide hown1; clear hown1 hg1 g0 g1))
          go_roundw
          case rel => exact ⟨j, _, by omega, rfl, by go_num, by rw [unhide hdr, flatL_append, show n2 - j = n2 - (j + 1) + 1 by omega]; exact unhide R1, B1⟩
          case measure => simp [intOf]
        | zero =>
          obtain rfl : i' = -1 := by omega
          clear hi'
          have R9 : Hid (Labs wr u9 la.reverse) := row_labs (unhide hr) (by rw [List.length_reverse]; exact unhide N2) (fun y hy => (unhide H2).short y (by simpa using hy)) (by rw [List.length_reverse, ← unhide N2]; exact b2)
          obtain ⟨a9, c9, he9⟩ := (unhide R9).val
          rw [List.length_reverse, ← unhide N2] at he9
          subst he9
          have S7 := hide ((unhide R7).below (unhide hb2))
          have B2 := hide (chain (unhide hbel) (unhide hb2))
          clear hr hk R7 hbel hb2
          obtain ⟨X, hX⟩ : ∃ X, X = tolerR lm la := ⟨_, rfl⟩
          obtain ⟨Y, hY⟩ : ∃ X, X = tolerR lm lb := ⟨_, rfl⟩
          obtain ⟨Z, hZ⟩ : ∃ X, X = tolerR (lr ++ lm) la := ⟨_, rfl⟩
          have GX := hide hX
          have GY := hide hY
          have GZ := hide hZ
          have XZ : Hid (X = true → Z = true) := fun h => by rw [hZ]; rw [hX] at h; exact toler_more h
          clear hX hY hZ
          go_wp2_with fail
          refine (ptol_any _ lm _ la _ ((unhide H0).below (unhide B2)) ((unhide H2).below (unhide B2))).mono ?_
          rintro e w3 ⟨he, hw3⟩
          rw [← unhide GX] at he
          subst he
          have B3 := hide (chain (unhide B2) hw3)
          have S3 := hide ((unhide S7).below hw3)
          have R3 := hide ((unhide R9).below hw3)
          clear hw3 B2 S7 R9
          go_wp2_with fail
          refine (ptol_any _ lm _ lb _ ((unhide H0).below (unhide B3)) ((unhide H3).below (unhide B3))).mono ?_
          rintro e w4 ⟨he, hw4⟩
          rw [← unhide GY] at he
          subst he
          have B4 := hide (chain (unhide B3) hw4)
          have S4 := hide ((unhide S3).below hw4)
          have R4 := hide ((unhide R3).below hw4)
          clear hw4 B3 S3 R3
          have E0 := hide (row_emptyL (w := w4) (w0 := w4) (Nat.le_refl _))
          have E1 := hide (box_below (w := w4) (.cells #[] 26))
          go_wp2_with (first
            | (at_builtin; (refine wpList_append_labs rfl _ _ rfl w4.heap.size _ 0 [] rfl (unhide E0) _ la rfl ((unhide H2).below (chain (unhide B4) (unhide E1))) (by have := unhide1 K2; have := unhide N2; omega) (unhide E1).size ?_; intro v5 w5 hown5 hg5; have E2 := hide (row_growT (unhide E1) (unhide E0) hg5); rw [Nat.zero_add, List.nil_append, ← unhide N2] at hown5; have E3 := hide hown5; clear hown5 hg5))
            | (at_builtin; (refine wpList_append_labs rfl _ _ rfl w4.heap.size _ n2 _ rfl (unhide E3) _ lb rfl ((unhide H3).below (chain (unhide B4) (unhide E2))) (by have := unhide1 K2; have := unhide1 K3; have := unhide N3; omega) (unhide E2).size ?_; intro v6 w6 hown6 hg6; have E4 := hide (row_growT (unhide E2) (unhide E3) hg6); have E5 := hide hown6; clear hown6 hg6)))
          have L6 : Hid (Labs w6 v6 (la ++ lb)) := row_labs (by rw [flatL_append]; exact unhide E5) (by rw [List.length_append, ← unhide N2]) (fun y hy => by
            rcases List.mem_append.1 hy with hy | hy
            · exact (unhide H2).short y hy
            · exact (unhide H3).short y hy) (by rw [List.length_append, ← unhide N2, ← unhide N3]; have := unhide1 K2; have := unhide1 K3; omega)
          have B6 := hide (chain (unhide B4) (unhide E4))
          have S6 := hide ((unhide S4).below (unhide E4))
          have R6 := hide ((unhide R4).below (unhide E4))
          clear B4 S4 R4 E0 E1 E2 E3 E4 E5
          refine (ptol_any _ lm _ (la ++ lb) _ ((unhide H0).below (unhide B6)) (unhide L6)).mono ?_
          rintro e w7 ⟨he, hw7⟩
          rw [toler_append, ← unhide GX, ← unhide GY] at he
          subst he
          have B7 := hide (chain (unhide B6) hw7)
          have S7 := hide ((unhide S6).below hw7)
          have R7 := hide ((unhide R6).below hw7)
          clear hw7 B6 S6 R6 L6
          obtain ⟨XY, hXY⟩ : ∃ b, b = (X && Y) := ⟨_, rfl⟩
          rw [← hXY]
          have GXY := hide hXY
          clear hXY
          have E0 := hide (row_emptyT (w := w7) (w0 := w7) (Nat.le_refl _))
          have E1 := hide (box_below (w := w7) (.cells #[] 28))
          go_wp2_with (first
            | (at_builtin; (refine wpList_append_tols rfl _ _ rfl w7.heap.size _ 0 [] rfl (unhide E0) _ lr rfl ((unhide H1).below (chain (unhide B7) (unhide E1))) (by have := unhide1 K1; have := unhide N1; omega) (unhide E1).size ?_; intro v8 w8 hown5 hg5; have E2 := hide (row_growT (unhide E1) (unhide E0) hg5); rw [Nat.zero_add, List.nil_append, ← unhide N1] at hown5; have E3 := hide hown5; clear hown5 hg5))
            | (at_builtin; (refine wpList_append_tols rfl _ _ rfl w7.heap.size _ n1 _ rfl (unhide E3) _ lm rfl ((unhide H0).below (chain (unhide B7) (unhide E2))) (by have := unhide1 K0; have := unhide1 K1; have := unhide N0; omega) (unhide E2).size ?_; intro v9 w9 hown6 hg6; have E4 := hide (row_growT (unhide E2) (unhide E3) hg6); have E5 := hide hown6; clear hown6 hg6)))
          have L9 : Hid (Tols w9 v9 (lr ++ lm)) := row_tols (by rw [flatT_append]; exact unhide E5) (by rw [List.length_append, ← unhide N1]) (fun y hy => by
            rcases List.mem_append.1 hy with hy | hy
            · exact (unhide H1).short y hy
            · exact (unhide H0).short y hy) (by rw [List.length_append, ← unhide N1, ← unhide N0]; have := unhide1 K0; have := unhide1 K1; omega)
          have B9 := hide (chain (unhide B7) (unhide E4))
          have S9 := hide ((unhide S7).below (unhide E4))
          have R9 := hide ((unhide R7).below (unhide E4))
          clear B7 S7 R7 E0 E1 E2 E3 E4 E5
          refine (ptol_any _ (lr ++ lm) _ la _ (unhide L9) ((unhide H2).below (unhide B9))).mono ?_
          rintro e w10 ⟨he, hw10⟩
          rw [← unhide GZ] at he
          subst he
          have B10 := hide (chain (unhide B9) hw10)
          have S10 := hide ((unhide S9).below hw10)
          have R10 := hide ((unhide R9).below hw10)
          clear hw10 B9 S9 R9 L9
          go_wp2_with fail
          refine (ptol_any _ [] _ la _ (nil_tols _) ((unhide H2).below (unhide B10))).mono ?_
          rintro e w11 ⟨he, hw11⟩
          rw [toler_none, ← unhide N2] at he
          have B11 := hide (chain (unhide B10) hw11)
          have S11 := hide ((unhide S10).below hw11)
          have R11 := hide ((unhide R10).below hw11)
          clear hw11 B10 S10 R10
          have hcase : (((n2 : Int) == 0) = true ∧ (n2 == 0) = true) ∨ (((n2 : Int) == 0) = false ∧ (n2 == 0) = false) := by
            by_cases h : n2 = 0
            · exact Or.inl ⟨by simp [h], by simp [h]⟩
            · exact Or.inr ⟨beq_eq_false_iff_ne.2 (by omega), beq_eq_false_iff_ne.2 h⟩
          rcases hcase with ⟨q1, q2⟩ | ⟨q1, q2⟩
          all_goals
            rw [q2] at he
            subst he
            clear q2
            go_wp2_with fail
            refine (ptol_any _ lm _ [] _ ((unhide H0).below (unhide B11)) (nil_labs _)).mono ?_
            rintro e w12 ⟨he, hw12⟩
            rw [toler_no] at he
            subst he
            have B12 := hide (chain (unhide B11) hw12)
            have S12 := hide ((unhide S11).below hw12)
            have R12 := hide ((unhide R11).below hw12)
            clear hw12
            go_wp2_with fail
            refine (live5_any _ ((unhide HL).below (unhide B12))).mono ?_
            rintro e w13 ⟨rfl, hw13⟩
            have B13 := hide (chain (unhide B12) hw13)
            have S13 := hide ((unhide S12).below hw13)
            have R13 := hide ((unhide R12).below hw13)
            clear hw13
            have hX := unhide GX
            have hXY := unhide GXY
            have hZ := unhide XZ
            clear GX GXY XZ
            cases X <;> cases Y
            all_goals
              first | (obtain rfl : XY = true := hXY) | (obtain rfl : XY = false := hXY)
              have GX := hide hX
              clear hX
              first | (have hz := hZ rfl; subst hz; clear hZ) | clear hZ
              go_wp2_with fail
              refine (ptol_any _ lm.reverse _ la.reverse _ (unhide S13) (unhide R13)).mono ?_
              rintro e w14 ⟨he, hw14⟩
              rw [toler_back, ← unhide GX] at he
              subst he
              have B14 := hide (chain (unhide B13) hw14)
              clear hw14
              go_wp2_with fail
              go_ret
              exact ⟨rfl, unhide B14⟩
end Go.Proofs.YtnkcbmlobikjkabDoor.taintMore
