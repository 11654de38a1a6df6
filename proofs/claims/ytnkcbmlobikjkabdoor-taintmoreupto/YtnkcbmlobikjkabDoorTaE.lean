/- Layer 5: contracts of the program's Check and CheckTols. -/
import Derived.Test.YtnkcbmlobikjkabDoorTaD
namespace Go.Proofs.YtnkcbmlobikjkabDoor
open Go.RowKit Suf Val

set_option maxRecDepth 100000 in
set_option maxHeartbeats 8000000 in
theorem pcheck_any (v : Value) (l : List Lab) (w : World) (hL : Laid w) (hv : Labs w v l) :
    Calls Tryd.prog 8 #[v] w fun e w' => e = .returned (.int .i64 (taintR l)) ∧ Below w.heap.size w w' := by
  have HL := hide hL
  have HV := hide hv
  have hlen := hv.len
  obtain ⟨a, c, rfl⟩ := hv.val
  have hcap := hv.cap
  clear hL hv
  obtain ⟨n, hn⟩ : ∃ n, n = l.length := ⟨_, rfl⟩
  rw [← hn] at HV hlen hcap ⊢
  have HN := hide hn
  clear hn
  obtain ⟨R, hR⟩ : ∃ R, R = taintR l := ⟨_, rfl⟩
  rw [← hR]
  have HR := hide hR
  clear hR
  by_cases h4 : 4 < n
  · have hfin : Hid (R = 3) := by show _ = _; rw [unhide HR]; unfold taintR; rw [if_pos (by rw [← unhide HN]; exact h4)]
    go_enter Tryd.func8, Tryd.ntmps8
    go_wp2_with fail
    go_ret
    exact ⟨ret_int (unhide hfin).symm, Below.refl _ _⟩
  have HF : Hid (R = taintF (l.take 0) (l.drop 0)) := by show _ = _; rw [unhide HR]; unfold taintR; rw [if_neg (by rw [← unhide HN]; exact h4)]; rfl
  go_enter Tryd.func8, Tryd.ntmps8
  go_wp2_with fail
  go_loopw [11] (fun i W => ∃ k : Nat, k ≤ n ∧ i = .int .i64 k ∧ Hid (R = taintF (l.take k) (l.drop k)) ∧ Hid (Below w.heap.size w W)) (fun i _ => n - (intOf i).toNat)
  case atStart => exact ⟨0, Nat.zero_le _, rfl, HF, Below.refl _ _⟩
  case round =>
    obtain ⟨k, hk, rfl, hlab, hbel⟩ := hrel
    by_cases hlt : k < n
    · have hlk : k < l.length := by rw [← unhide HN]; exact hlt
      obtain ⟨b, o, rfl, h0, h1, hs0, hs1⟩ := ((unhide HV).below (unhide hbel)).at hlk
      have hst := hide (taint_step hlk)
      obtain ⟨y, hy⟩ : ∃ y, y = l[k] := ⟨_, rfl⟩
      rw [← hy] at h0 h1 hs0 hs1 hst
      have HS0 := hide hs0
      have HS1 := hide hs1
      clear hs0 hs1 hy hlk
      obtain ⟨q0, hq0⟩ : ∃ q, q = nameB y.1 := ⟨_, rfl⟩
      obtain ⟨q1, hq1⟩ : ∃ q, q = valueB y.2 := ⟨_, rfl⟩
      rw [← hq0, ← hq1] at hst
      have GQ0 := hide hq0
      have GQ1 := hide hq1
      clear hq0 hq1
      obtain ⟨W0, hW0⟩ : ∃ W, W = wr.alloc (.cells #[.string (bytesT y.1), .string (bytesT y.2)] 26) := ⟨_, rfl⟩
      have B0 : Hid (Below wr.heap.size wr W0) := by rw [hW0]; exact box_below _
      obtain ⟨c0, c1⟩ : Two W0 wr.heap.size (.string (bytesT y.1)) (.string (bytesT y.2)) := by rw [hW0]; exact two_new _ _ _ _
      have GW0 := hide hW0
      clear hW0
      go_wp2_with fail
      rw [← unhide GW0]
      clear h0 h1
      refine (name_any (bytesT y.1) _ (short_max (unhide HS0))).mono ?_
      rintro e w1 ⟨he, hw1⟩
      rw [bytesT_list, ← unhide GQ0] at he
      subst he
      obtain rfl := hw1.symm
      clear hw1
      cases q0
      · have hfin : Hid (R = 7) := by show _ = _; rw [unhide hlab, unhide hst]; simp
        go_wp2_with fail
        go_ret
        exact ⟨ret_int (unhide hfin).symm, chain (unhide hbel) (unhide B0)⟩
      go_wp2_with fail
      refine (value_any (bytesT y.2) _ (short_size (unhide HS1)) ((unhide HL).below (chain (unhide hbel) (unhide B0)))).mono ?_
      rintro e w2 ⟨he, hw2⟩
      rw [bytesT_list, ← unhide GQ1] at he
      subst he
      have B2 := hide (chain (chain (unhide hbel) (unhide B0)) hw2)
      have C0 := hide (cell_kept hw2 c0)
      clear hw2 c0 c1
      cases q1
      · have hfin : Hid (R = 20) := by show _ = _; rw [unhide hlab, unhide hst]; simp
        go_wp2_with fail
        go_ret
        exact ⟨ret_int (unhide hfin).symm, unhide B2⟩
      have i0 : (0 : Int) ≤ (k : Int) := by omega
      have i1 : (k : Int) ≤ (c : Int) := by omega
      go_wp2_with fail
      refine (contains_key wr.heap.size y _ (l.take k) _ (((unhide HV).below (unhide B2)).take (by rw [← unhide HN]; exact hk)) (unhide C0)).mono ?_
      rintro e w3 ⟨he, hw3⟩
      obtain ⟨q2, hq2⟩ : ∃ q, q = (l.take k).any (sameKey y) := ⟨_, rfl⟩
      rw [← hq2] at he
      have GQ2 := hide hq2
      subst he
      have B3 := hide (chain (unhide B2) hw3)
      clear hw3 hq2
      cases q2
      · have hn2 : Hid (R = taintF (l.take (k + 1)) (l.drop (k + 1))) := by
          show _ = _
          have h3 : (l.take k).any (fun x => x.1 == y.1) = false := (unhide GQ2).symm
          rw [unhide hlab, unhide hst, h3]; simp
        go_wp2_with fail
        go_roundw
        case rel => exact ⟨k + 1, by omega, by go_num, hn2, B3⟩
        case measure => simp [intOf]; omega
      · have hfin : Hid (R = 6) := by
          show _ = _
          have h3 : (l.take k).any (fun x => x.1 == y.1) = true := (unhide GQ2).symm
          rw [unhide hlab, unhide hst, h3]; simp
        go_wp2_with fail
        go_ret
        exact ⟨ret_int (unhide hfin).symm, unhide B3⟩
    · obtain rfl : k = n := by omega
      have hfin : Hid (R = 0) := by
        show _ = _
        rw [unhide hlab, List.drop_of_length_le (by rw [← unhide HN]; exact Nat.le_refl _)]; rfl
      go_wp2_with fail
      go_ret
      exact ⟨ret_int (unhide hfin).symm, unhide hbel⟩
end Go.Proofs.YtnkcbmlobikjkabDoor
