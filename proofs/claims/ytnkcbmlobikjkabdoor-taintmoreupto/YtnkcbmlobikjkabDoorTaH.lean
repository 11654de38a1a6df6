/- Layer 5: contracts of the document's Check and CheckTols. -/
import Derived.Test.YtnkcbmlobikjkabDoorTaD
namespace Go.Proofs.YtnkcbmlobikjkabDoor
open Go.RowKit Suf Val

set_option maxRecDepth 100000 in
set_option maxHeartbeats 8000000 in
theorem rtols_any (v : Value) (l : List VTol) (w : World) (hv : Tols w v l) :
    Calls Tryd.prog 11 #[v] w fun e w' => e = .returned (.int .i64 (tolsR l)) ∧ Below w.heap.size w w' := by
  have HV := hide hv
  have hlen := hv.len
  obtain ⟨a, c, rfl⟩ := hv.val
  clear hv
  obtain ⟨n, hn⟩ : ∃ n, n = l.length := ⟨_, rfl⟩
  rw [← hn] at HV hlen ⊢
  have HN := hide hn
  clear hn
  obtain ⟨R, hR⟩ : ∃ R, R = tolsR l := ⟨_, rfl⟩
  rw [← hR]
  have HR := hide hR
  clear hR
  by_cases h4 : 4 < n
  · have hfin : Hid (R = 3) := by show _ = _; rw [unhide HR]; unfold tolsR; rw [if_pos (by rw [← unhide HN]; exact h4)]
    go_enter Tryd.func11, Tryd.ntmps11
    go_wp2_with fail
    go_ret
    exact ⟨ret_int (unhide hfin).symm, Below.refl _ _⟩
  have HF : Hid (R = tolF (l.take 0) (l.drop 0)) := by show _ = _; rw [unhide HR]; unfold tolsR; rw [if_neg (by rw [← unhide HN]; exact h4)]; rfl
  go_enter Tryd.func11, Tryd.ntmps11
  go_wp2_with fail
  go_loopw [3] (fun i W => ∃ k : Nat, k ≤ n ∧ i = .int .i64 k ∧ Hid (R = tolF (l.take k) (l.drop k)) ∧ Hid (Below w.heap.size w W)) (fun i _ => n - (intOf i).toNat)
  case atStart => exact ⟨0, Nat.zero_le _, rfl, HF, Below.refl _ _⟩
  case round =>
    obtain ⟨k, hk, rfl, hlab, hbel⟩ := hrel
    by_cases hlt : k < n
    · have hlk : k < l.length := by rw [← unhide HN]; exact hlt
      obtain ⟨b, o, rfl, h0, h1, h2, hs0, hs1⟩ := ((unhide HV).below (unhide hbel)).at hlk
      have hst := hide (tol_step hlk)
      obtain ⟨y, hy⟩ : ∃ y, y = l[k] := ⟨_, rfl⟩
      rw [← hy] at h0 h1 h2 hs0 hs1 hst
      obtain ⟨q0, hq0⟩ : ∃ q, q = nameB y.1 := ⟨_, rfl⟩
      obtain ⟨q1, hq1⟩ : ∃ q, q = valueB y.2.1 := ⟨_, rfl⟩
      have hnm := hide (fun W => rname_any (bytesT y.1) W (short_max hs0))
      have hvl := hide (fun W => rvalue_any (bytesT y.2.1) W (short_size hs1))
      rw [bytesT_list, ← hq0] at hnm
      rw [bytesT_list, ← hq1] at hvl
      have hfm : formedB y = if y.2.2 = true then (y.2.1 == []) else q1 := by
        unfold formedB; rw [hq1]
        by_cases h : y.2.2 = true
        · rw [if_pos h, if_pos h, Bool.eq_iff_iff]; simp
        · rw [if_neg h, if_neg h]
      rw [← hq0, hfm] at hst
      have hem := (txt_beq y.2.1 []).symm
      obtain ⟨q3, hq3⟩ : ∃ q, q = (y.2.1 == ([] : Txt)) := ⟨_, rfl⟩
      rw [← hq3] at hst hem
      clear hs0 hs1 hy hlk hq0 hq1 hfm hq3
      have HQ := hide (fun x : VTol => tol_beq x y)
      obtain ⟨Y0, hY0⟩ : ∃ X, X = bytesT y.1 := ⟨_, rfl⟩
      obtain ⟨Y1, hY1⟩ : ∃ X, X = bytesT y.2.1 := ⟨_, rfl⟩
      obtain ⟨Y2, hY2⟩ : ∃ X, X = y.2.2 := ⟨_, rfl⟩
      rw [← hY0] at h0 hnm
      rw [← hY1] at h1 hvl hem
      rw [← hY2] at h2 hst
      rw [← hY0, ← hY1, ← hY2] at HQ
      have hem2 : Y1.toList.isEmpty = q3 := by
        rw [hem, show (bytesT ([] : Txt)).toList = [] by rw [Lib.toList_data]; rfl]
        cases Y1.toList with
        | nil => rfl
        | cons a l => rfl
      clear hY0 hY1 hY2 hem
      go_wp2_with fail
      refine (unhide hnm _).mono ?_
      rintro e w1 ⟨rfl, hw1⟩
      obtain rfl := hw1.symm
      clear hw1
      cases q0
      · have hfin : Hid (R = 7) := by show _ = _; rw [unhide hlab, unhide hst]; simp
        go_wp2_with fail
        go_ret
        exact ⟨ret_int (unhide hfin).symm, unhide hbel⟩
      go_wp2_with fail
      refine (unhide hvl _).mono ?_
      rintro e w2 ⟨rfl, hw2⟩
      have B2 := hide (chain (unhide hbel) hw2)
      replace h0 := cell_kept hw2 h0
      replace h1 := cell_kept hw2 h1
      replace h2 := cell_kept hw2 h2
      clear hw2
      obtain ⟨q1', hq1'⟩ : ∃ q, q = (if Y2 = true then q3 else q1) := ⟨_, rfl⟩
      rw [← hq1'] at hst
      have HQ1 := hide hq1'
      clear hq1'
      have i2 : (0 : Int) ≤ (k : Int) := by omega
      have i3 : (k : Int) < (n : Int) := by omega
      by_cases hbad : q1' = false
      · have hfin : Hid (R = 20) := by show _ = _; rw [unhide hlab, unhide hst, hbad]; simp
        rw [hbad] at HQ1
        clear hbad hst
        cases Y2 <;> cases q3 <;> cases q1 <;> first | (have h := unhide HQ1; simp at h; done) | skip
        all_goals
          go_wp2_with fail
          go_ret
          exact ⟨ret_int (unhide hfin).symm, unhide B2⟩
      have hgood : q1' = true := by cases q1' <;> simp_all
      rw [hgood] at hst HQ1
      clear hbad hgood
      have H0 := hide h0
      have H1 := hide h1
      have H2 := hide h2
      obtain ⟨YB, hYB⟩ : ∃ b, b = Y2 := ⟨_, rfl⟩
      rw [← hYB] at H2 HQ
      clear hYB
      have hst2 : Hid ((l.take k).any (isTol y) = true → R = 6) := fun h => by
        have h3 : (l.take k).any (fun z => z == y) = true := h
        rw [unhide hlab, unhide hst, h3]; simp
      have hst3 : Hid ((l.take k).any (isTol y) = false → R = tolF (l.take (k + 1)) (l.drop (k + 1))) := fun h => by
        have h3 : (l.take k).any (fun z => z == y) = false := h
        rw [unhide hlab, unhide hst, h3]; simp
      clear hst hlab
      cases Y2 <;> cases q3 <;> cases q1 <;> first | (have h := unhide HQ1; simp at h; done) | skip
      all_goals
        clear HQ1
        go_wp2_with fail
        go_loopw [6] (fun i W => ∃ m : Nat, m ≤ k ∧ i = .int .i64 m ∧ Hid ((l.take m).any (isTol y) = false) ∧ Hid (Below w2.heap.size w2 W)) (fun i _ => k - (intOf i).toNat)
        case atStart => exact ⟨0, Nat.zero_le _, rfl, rfl, Below.refl _ _⟩
        case round =>
          obtain ⟨m, hm, rfl, hnone, hbel3⟩ := hrel
          by_cases hmk : m < k
          · have hlm : m < l.length := by rw [← unhide HN]; omega
            obtain ⟨b', o', eb, hat⟩ := ((unhide HV).below (chain (unhide B2) (unhide hbel3))).at hlm
            obtain ⟨rfl, rfl⟩ : b = b' ∧ o = o' := by injection eb with eb; injection eb with e1 e2 _; exact ⟨e1, e2⟩
            have hnx := hide (any_next (p := isTol y) l m hlm)
            have hmem : Hid (l[m] ∈ l.take k) := List.mem_take_iff_getElem.2 ⟨m, by omega, rfl⟩
            obtain ⟨x, hx⟩ : ∃ x, x = l[m] := ⟨_, rfl⟩
            rw [← hx] at hat hnx hmem
            obtain ⟨q, hq⟩ : ∃ q, q = isTol y x := ⟨_, rfl⟩
            rw [← hq] at hnx
            have hyes : Hid (q = true → (l.take k).any (isTol y) = true) := fun h => List.any_eq_true.2 ⟨x, unhide hmem, hq.symm.trans h⟩
            have hqq := (unhide HQ x).trans hq.symm
            clear hq hx hlm eb hmem
            have i0 : (0 : Int) ≤ (m : Int) := by omega
            have i1 : (m : Int) < (n : Int) := by omega
            have i2 : (0 : Int) ≤ (k : Int) := by omega
            have i3 : (k : Int) < (n : Int) := by omega
            have t0 := cell_kept (unhide hbel3) (unhide H0)
            have t1 := cell_kept (unhide hbel3) (unhide H1)
            have t2 := cell_kept (unhide hbel3) (unhide H2)
            obtain ⟨s0, s1, s2, hz1, hz2⟩ := hat
            obtain ⟨X0, hX0⟩ : ∃ X, X = bytesT x.1 := ⟨_, rfl⟩
            obtain ⟨X1, hX1⟩ : ∃ X, X = bytesT x.2.1 := ⟨_, rfl⟩
            obtain ⟨X2, hX2⟩ : ∃ X, X = x.2.2 := ⟨_, rfl⟩
            rw [← hX0] at hqq s0
            rw [← hX1] at hqq s1
            rw [← hX2] at hqq s2
            have qT : ∀ W, (binOp .eql 28 (.agg #[.string X0, .string X1, .bool X2]) (.agg #[.string Y0, .string Y1, .bool YB])).run Tryd.prog W = .ok (.bool q) W := fun W => by rw [eqlTol, hqq]
            have qG := tolGuard
            have hS := And.intro (show Hid (Below wr.heap.size wr wr) from Below.refl _ _) (And.intro s0 (And.intro s1 (And.intro s2 (And.intro t0 (And.intro t1 t2)))))
            clear hqq s0 s1 s2 t0 t1 t2 hX0 hX1 hX2 hz1 hz2
            go_wp2_with fail
            go_region_held3 (fun W => Hid (Below wr.heap.size wr W) ∧ W.cell? ⟨b, o + m * 3, none⟩ = some (.string X0) ∧ W.cell? ⟨b, o + m * 3 + 1, none⟩ = some (.string X1) ∧ W.cell? ⟨b, o + m * 3 + 2, none⟩ = some (.bool X2) ∧ W.cell? ⟨b, o + k * 3, none⟩ = some (.string Y0) ∧ W.cell? ⟨b, o + k * 3 + 1, none⟩ = some (.string Y1) ∧ W.cell? ⟨b, o + k * 3 + 2, none⟩ = some (.bool YB))
              (first | (with_reducible exact hS) | (with_reducible assumption) | (with_reducible refine c6_drew ?_; with_reducible assumption))
              (fail)
            clear qT qG
            rename_i hH
            have B6 := hide (chain (unhide hbel3) (unhide hH.1))
            clear hH hS
            cases q
            · have hn2 : Hid ((l.take (m + 1)).any (isTol y) = false) := by show _ = _; rw [unhide hnx, unhide hnone]; rfl
              go_wp2_with fail
              go_roundw
              case rel => exact ⟨m + 1, by omega, by go_num, hn2, B6⟩
              case measure => simp [intOf]; omega
            · have hfin : Hid (R = 6) := unhide hst2 (unhide hyes rfl)
              go_wp2_with fail
              go_ret
              exact ⟨ret_int (unhide hfin).symm, chain (unhide B2) (unhide B6)⟩
          · obtain rfl : m = k := by omega
            have hnx : Hid (R = tolF (l.take (m + 1)) (l.drop (m + 1))) := unhide hst3 (unhide hnone)
            have B6 := hide (chain (unhide B2) (unhide hbel3))
            go_wp2_with fail
            go_roundw
            case rel => exact ⟨m + 1, by omega, by go_num, hnx, B6⟩
            case measure => simp [intOf]; omega
    · obtain rfl : k = n := by omega
      have hfin : Hid (R = 0) := by
        show _ = _
        rw [unhide hlab, List.drop_eq_nil_of_le (by rw [← unhide HN]; exact Nat.le_refl _)]; rfl
      go_wp2_with fail
      go_ret
      exact ⟨ret_int (unhide hfin).symm, unhide hbel⟩
end Go.Proofs.YtnkcbmlobikjkabDoor
