/- Layer 5: contracts of the program's Check and CheckTols. -/
import Derived.Test.YtnkcbmlobikjkabDoorTaD
namespace Go.Proofs.YtnkcbmlobikjkabDoor
open Go.RowKit Suf Val

set_option maxRecDepth 100000 in
set_option maxHeartbeats 8000000 in
theorem ptols_any (v : Value) (l : List VTol) (w : World) (hL : Laid w) (hv : Tols w v l) :
    Calls Tryd.prog 9 #[v] w fun e w' => e = .returned (.int .i64 (tolsR l)) ∧ Below w.heap.size w w' := by
  have HL := hide hL
  have HV := hide hv
  have hlen := hv.len
  obtain ⟨a, c, rfl⟩ := hv.val
  have hcap := hv.cap
  clear hL hv
  obtain ⟨n, hn⟩ : ∃ n, n = l.length := ⟨_, rfl⟩
  rw [← hn] at HV hlen hcap ⊢
  have HN := hide hn
  clear hn
  obtain ⟨R, hR⟩ : ∃ R, R = tolsR l := ⟨_, rfl⟩
  rw [← hR]
  have HR := hide hR
  clear hR
  by_cases h4 : 4 < n
  · have hfin : Hid (R = 3) := by show _ = _; rw [unhide HR]; unfold tolsR; rw [if_pos (by rw [← unhide HN]; exact h4)]
    go_enter Tryd.func9, Tryd.ntmps9
    go_wp2_with fail
    go_ret
    exact ⟨ret_int (unhide hfin).symm, Below.refl _ _⟩
  have HF : Hid (R = tolF (l.take 0) (l.drop 0)) := by show _ = _; rw [unhide HR]; unfold tolsR; rw [if_neg (by rw [← unhide HN]; exact h4)]; rfl
  go_enter Tryd.func9, Tryd.ntmps9
  go_wp2_with fail
  go_loopw [10] (fun i W => ∃ k : Nat, k ≤ n ∧ i = .int .i64 k ∧ Hid (R = tolF (l.take k) (l.drop k)) ∧ Hid (Below w.heap.size w W)) (fun i _ => n - (intOf i).toNat)
  case atStart => exact ⟨0, Nat.zero_le _, rfl, HF, Below.refl _ _⟩
  case round =>
    obtain ⟨k, hk, rfl, hlab, hbel⟩ := hrel
    by_cases hlt : k < n
    · have hlk : k < l.length := by rw [← unhide HN]; exact hlt
      obtain ⟨b, o, rfl, h0, h1, h2, hs0, hs1⟩ := ((unhide HV).below (unhide hbel)).at hlk
      have hst := hide (tol_step hlk)
      obtain ⟨y, hy⟩ : ∃ y, y = l[k] := ⟨_, rfl⟩
      rw [← hy] at h0 h1 h2 hs0 hs1 hst
      have HS0 := hide hs0
      have HS1 := hide hs1
      clear hs0 hs1 hy hlk
      obtain ⟨q0, hq0⟩ : ∃ q, q = nameB y.1 := ⟨_, rfl⟩
      obtain ⟨q1, hq1⟩ : ∃ q, q = formedB y := ⟨_, rfl⟩
      rw [← hq0, ← hq1] at hst
      have GQ0 := hide hq0
      clear hq0
      have hform := hide (fun W h => formed_any y W h (unhide HS1))
      have hcont := hide (fun W h => contains_tol y (.slice (some ⟨b, o, none⟩) k c) (l.take k) W h)
      rw [← hq1] at hform
      clear hq1
      have hnm := hide (fun W => name_any (bytesT y.1) W (short_max (unhide HS0)))
      rw [bytesT_list, ← unhide GQ0] at hnm
      clear GQ0 HS0 HS1
      obtain ⟨q2, hq2⟩ : ∃ q, q = (l.take k).any (isTol y) := ⟨_, rfl⟩
      rw [← hq2] at hcont
      have GQ2 : Hid ((l.take k).any (fun x => x == y) = q2) := hq2.symm
      clear hq2
      unfold tolV at hform hcont
      obtain ⟨Y0, hY0⟩ : ∃ X, X = bytesT y.1 := ⟨_, rfl⟩
      obtain ⟨Y1, hY1⟩ : ∃ X, X = bytesT y.2.1 := ⟨_, rfl⟩
      obtain ⟨Y2, hY2⟩ : ∃ X, X = y.2.2 := ⟨_, rfl⟩
      rw [← hY0] at h0 hnm
      rw [← hY1] at h1
      rw [← hY2] at h2
      rw [← hY0, ← hY1, ← hY2] at hform hcont
      clear hY0 hY1 hY2
      obtain ⟨W0, hW0⟩ : ∃ W, W = wr.alloc (.cells #[.string Y0, .string Y1, .bool Y2] 28) := ⟨_, rfl⟩
      have B0 : Hid (Below wr.heap.size wr W0) := by rw [hW0]; exact box_below _
      obtain ⟨c0, c1, c2⟩ : Three W0 wr.heap.size (.string Y0) (.string Y1) (.bool Y2) := by rw [hW0]; exact three_new _ _ _ _ _
      have GW0 := hide hW0
      clear hW0
      go_wp2_with fail
      rw [← unhide GW0]
      clear h0 h1 h2
      refine (unhide hnm _).mono ?_
      rintro e w1 ⟨rfl, hw1⟩
      obtain rfl := hw1.symm
      clear hw1
      cases q0
      · have hfin : Hid (R = 7) := by show _ = _; rw [unhide hlab, unhide hst]; simp
        go_wp2_with fail
        go_ret
        exact ⟨ret_int (unhide hfin).symm, chain (unhide hbel) (unhide B0)⟩
      go_wp2_with fail
      refine (unhide hform _ ((unhide HL).below (chain (unhide hbel) (unhide B0)))).mono ?_
      rintro e w2 ⟨rfl, hw2⟩
      have B2 := hide (chain (chain (unhide hbel) (unhide B0)) hw2)
      have d0 := cell_kept hw2 c0
      have d1 := cell_kept hw2 c1
      have d2 := cell_kept hw2 c2
      clear hw2 c0 c1 c2
      cases q1
      · have hfin : Hid (R = 20) := by show _ = _; rw [unhide hlab, unhide hst]; simp
        go_wp2_with fail
        go_ret
        exact ⟨ret_int (unhide hfin).symm, unhide B2⟩
      have i0 : (0 : Int) ≤ (k : Int) := by omega
      have i1 : (k : Int) ≤ (c : Int) := by omega
      have hS := And.intro (show Hid (Below w2.heap.size w2 w2) from Below.refl _ _) (And.intro d0 (And.intro d1 d2))
      have cH : Hid (∀ W, Hid (Below w2.heap.size w2 W) ∧ W.cell? ⟨wr.heap.size, 0, none⟩ = some (.string Y0) ∧ W.cell? ⟨wr.heap.size, 1, none⟩ = some (.string Y1) ∧ W.cell? ⟨wr.heap.size, 2, none⟩ = some (.bool Y2) → Calls Tryd.prog 21 #[.slice (some ⟨b, o, none⟩) k c, .agg #[.string Y0, .string Y1, .bool Y2]] W fun e w' => e = .returned (.bool q2) ∧ Below W.heap.size W w') := fun W hs =>
        unhide hcont W (((unhide HV).below (chain (unhide B2) (unhide hs.1))).take (by rw [← unhide HN]; exact hk))
      clear d0 d1 d2
      go_wp2_with fail
      go_region_held3 (fun W => Hid (Below w2.heap.size w2 W) ∧ W.cell? ⟨wr.heap.size, 0, none⟩ = some (.string Y0) ∧ W.cell? ⟨wr.heap.size, 1, none⟩ = some (.string Y1) ∧ W.cell? ⟨wr.heap.size, 2, none⟩ = some (.bool Y2))
        (first | (with_reducible exact hS) | (with_reducible assumption) | (with_reducible refine c3_drew ?_; with_reducible assumption) | (with_reducible refine c3_next ?_ hw; with_reducible assumption))
        (first | (go_at_call 21; with_reducible refine (unhide cH _ ?_).mono ?_; with_reducible assumption; rintro e w4 ⟨rfl, hw⟩))
      rename_i hH
      have B3 := hide (chain (unhide B2) (unhide hH.1))
      clear hH hS hw cH
      cases q2
      · have hn2 : Hid (R = tolF (l.take (k + 1)) (l.drop (k + 1))) := by
          show _ = _
          rw [unhide hlab, unhide hst, unhide GQ2]; simp
        go_wp2_with fail
        go_roundw
        case rel => exact ⟨k + 1, by omega, by go_num, hn2, B3⟩
        case measure => simp [intOf]; omega
      · have hfin : Hid (R = 6) := by
          show _ = _
          rw [unhide hlab, unhide hst, unhide GQ2]; simp
        go_wp2_with fail
        go_ret
        exact ⟨ret_int (unhide hfin).symm, unhide B3⟩
    · obtain rfl : k = n := by omega
      have hfin : Hid (R = 0) := by
        show _ = _
        rw [unhide hlab, List.drop_of_length_le (by rw [← unhide HN]; exact Nat.le_refl _)]; rfl
      go_wp2_with fail
      go_ret
      exact ⟨ret_int (unhide hfin).symm, unhide hbel⟩
end Go.Proofs.YtnkcbmlobikjkabDoor
