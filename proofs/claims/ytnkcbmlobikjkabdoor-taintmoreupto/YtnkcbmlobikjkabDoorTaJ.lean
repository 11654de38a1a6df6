/- Layer 5: contracts of the document's First and Tolerates. -/
import Derived.Test.YtnkcbmlobikjkabDoorTaI
import Derived.Deep.QuietTactic
import Derived.BigQuiet
namespace Go.Proofs.YtnkcbmlobikjkabDoor
open Go.RowKit Suf Val

theorem tol_parts (x : VTol) (y : Lab) : tolB y x = (((bytesT x.1).toList == (bytesT y.1).toList) && (x.2.2 || ((bytesT x.2.1).toList == (bytesT y.2).toList))) := by rw [txt_beq, txt_beq]; rfl
set_option maxRecDepth 100000 in
set_option maxHeartbeats 8000000 in
theorem rfirst_any (v : Value) (m : List VTol) (u : Value) (l : List Lab) (w : World) (hv : Tols w v m) (hu : Labs w u l) :
    Calls Tryd.prog 13 #[v, u] w fun e w' => e = .returned (.tuple #[labV (firstR m l).1, .bool (firstR m l).2]) ∧ Below w.heap.size w w' := by
  have HV := hide hv
  have HU := hide hu
  have hlen := hu.len
  have hlen2 := hv.len
  obtain ⟨a, c, rfl⟩ := hv.val
  obtain ⟨a2, c2, rfl⟩ := hu.val
  obtain ⟨mn, hmn⟩ : ∃ n, n = m.length := ⟨_, rfl⟩
  obtain ⟨n, hn⟩ : ∃ n, n = l.length := ⟨_, rfl⟩
  rw [← hn] at HU hlen ⊢
  rw [← hmn] at HV hlen2 ⊢
  have HN := hide hn
  have HM := hide hmn
  clear hv hu hn hmn
  obtain ⟨R, hR⟩ : ∃ R, R = firstR m l := ⟨_, rfl⟩
  rw [← hR]
  have HR : Hid (R = firstR m (l.drop 0)) := hR
  clear hR
  unfold labV
  obtain ⟨W0, hW0⟩ : ∃ W0, W0 = w.alloc (.cells #[.string ⟨#[]⟩, .string ⟨#[]⟩] 26) := ⟨_, rfl⟩
  have B0 : Hid (Below w.heap.size w W0) := by rw [hW0]; exact box_below _
  have F0 : Hid (LBox W0 w.heap.size) := by rw [hW0]; exact lbox_new _ _
  have GW0 := hide hW0
  clear hW0
  go_enter Tryd.func13, Tryd.ntmps13
  go_wp2_with fail
  rw [← unhide GW0]
  go_loopw [6] (fun i W => ∃ k : Nat, k ≤ n ∧ i = .int .i64 k ∧ Hid (R = firstR m (l.drop k)) ∧ Hid (Below W0.heap.size W0 W)) (fun i _ => n - (intOf i).toNat)
  case atStart => exact ⟨0, Nat.zero_le _, rfl, HR, Below.refl _ _⟩
  case round =>
    obtain ⟨k, hk, rfl, hlab, hbel⟩ := hrel
    by_cases hlt : k < n
    · have hlk : k < l.length := by rw [← unhide HN]; exact hlt
      obtain ⟨b, o, rfl, h0, h1, hs0, hs1⟩ := ((unhide HU).below (chain (unhide B0) (unhide hbel))).at hlk
      have hgo := hide (fun h => first_next (m := m) hlk h)
      have hno := hide (fun h => first_stop (m := m) hlk h)
      obtain ⟨y, hy⟩ : ∃ y, y = l[k] := ⟨_, rfl⟩
      rw [← hy] at h0 h1 hgo hno
      clear hs0 hs1 hy hlk
      have HQ := hide (fun x : VTol => tol_parts x y)
      obtain ⟨Y0, hY0⟩ : ∃ X, X = bytesT y.1 := ⟨_, rfl⟩
      obtain ⟨Y1, hY1⟩ : ∃ X, X = bytesT y.2 := ⟨_, rfl⟩
      rw [← hY0] at h0
      rw [← hY1] at h1
      rw [← hY0, ← hY1] at HQ
      have G0 := hide hY0
      have G1 := hide hY1
      have H0 := hide h0
      have H1 := hide h1
      clear hY0 hY1 h0 h1
      have BV := hide (show Below wr.heap.size wr wr from Below.refl _ _)
      obtain ⟨V, hV⟩ : ∃ V, V = wr := ⟨_, rfl⟩
      rw [← hV] at BV hbel H0 H1 ⊢
      clear hV BV
      go_wp2_with fail
      go_loopw [7, 8] (fun s i W => ∃ (sb : Bool) (j : Nat), j ≤ mn ∧ s = .bool sb ∧ i = .int .i64 j ∧ Hid (sb = (m.take j).any (tolB y)) ∧ Hid (Below V.heap.size V W)) (fun _ i _ => mn - (intOf i).toNat)
      case atStart => exact ⟨false, 0, Nat.zero_le _, rfl, rfl, rfl, Below.refl _ _⟩
      case round =>
        obtain ⟨sb, j, hj, rfl, rfl, hsb, hbel3⟩ := hrel
        by_cases hjm : j < mn
        · have hlj : j < m.length := by rw [← unhide HM]; exact hjm
          obtain ⟨b', o', rfl, s0, s1, s2, hz1, hz2⟩ := ((unhide HV).below (chain (chain (unhide B0) (unhide hbel)) (unhide hbel3))).at hlj
          have hnx := hide (any_next (p := tolB y) m j hlj)
          obtain ⟨x, hx⟩ : ∃ x, x = m[j] := ⟨_, rfl⟩
          rw [← hx] at s0 s1 s2 hnx
          rw [unhide HQ x, ← unhide hsb] at hnx
          obtain ⟨X0, hX0⟩ : ∃ X, X = bytesT x.1 := ⟨_, rfl⟩
          obtain ⟨X1, hX1⟩ : ∃ X, X = bytesT x.2.1 := ⟨_, rfl⟩
          obtain ⟨X2, hX2⟩ : ∃ X, X = x.2.2 := ⟨_, rfl⟩
          rw [← hX0] at hnx s0
          rw [← hX1] at hnx s1
          rw [← hX2] at hnx s2
          obtain ⟨p0, hp0⟩ : ∃ p, p = (X0.toList == Y0.toList) := ⟨_, rfl⟩
          obtain ⟨p1, hp1⟩ : ∃ p, p = (X1.toList == Y1.toList) := ⟨_, rfl⟩
          rw [← hp0, ← hp1] at hnx
          replace hp0 := hp0.symm
          replace hp1 := hp1.symm
          have g0 := cell_kept (unhide hbel3) (unhide H0)
          have g1 := cell_kept (unhide hbel3) (unhide H1)
          have i0 : (0 : Int) ≤ (j : Int) := by omega
          have i1 : (j : Int) < (mn : Int) := by omega
          have i2 : (0 : Int) ≤ (k : Int) := by omega
          have i3 : (k : Int) < (n : Int) := by omega
          clear hx hX0 hX1 hX2 hz1 hz2 hlj hsb
          cases p0 <;> cases X2 <;> cases p1
          all_goals
            go_wp2_with fail
            go_quiet (fail)
            go_wp2_with fail
            go_roundw
            case rel => exact ⟨_, j + 1, by omega, rfl, by go_num, by show _ = _; rw [unhide hnx]; cases sb <;> rfl, below_drewN (unhide hbel3) _⟩
            case measure => simp [intOf]; omega
        · obtain rfl : j = mn := by omega
          have hq : Hid (sb = okT m y) := by
            show _ = _
            rw [unhide hsb, List.take_of_length_le (by rw [← unhide HM]; exact Nat.le_refl _)]; rfl
          rw [← unhide hq] at hgo hno
          have B3 := hide (chain (unhide hbel) (unhide hbel3))
          have g0 := cell_kept (unhide hbel3) (unhide H0)
          have g1 := cell_kept (unhide hbel3) (unhide H1)
          obtain ⟨⟨z0, z1⟩, zf, zl⟩ := (unhide F0).below (unhide B3)
          have zf0 := zf 0
          have zf1 := zf 1
          have i2 : (0 : Int) ≤ (k : Int) := by omega
          have i3 : (k : Int) < (n : Int) := by omega
          clear hq hsb
          cases sb
          · have hfin : Hid (R = (y, true)) := by show _ = _; rw [unhide hlab]; exact unhide hno (by trivial)
            go_wp2_with fail
            exact bodyPost_ret (v := .tuple #[.agg #[.string Y0, .string Y1], .bool true]) (by simp [results, Tryd.results13, go_sem, z0, z1]) rfl
              ⟨ret_lab (by rw [unhide hfin, unhide G0, unhide G1]) (by rw [unhide hfin]), (((chain (unhide B0) (unhide B3)).setCell (Nat.le_refl _) _).setCell (Nat.le_refl _) _)⟩
          · have hn2 : Hid (R = firstR m (l.drop (k + 1))) := by show _ = _; rw [unhide hlab]; exact unhide hgo (by trivial)
            go_wp2_with fail
            go_roundw
            case rel => exact ⟨k + 1, by omega, by go_num, hn2, B3⟩
            case measure => simp [intOf]; omega
    · obtain rfl : k = n := by omega
      have hfin : Hid (R = (([], []), false)) := by show _ = _; rw [unhide hlab]; exact first_end (unhide HN)
      obtain ⟨⟨z0, z1⟩, zf, zl⟩ := (unhide F0).below (unhide hbel)
      have zf0 := zf 0
      have zf1 := zf 1
      go_wp2_with fail
      exact bodyPost_ret (v := .tuple #[.agg #[.string ⟨#[]⟩, .string ⟨#[]⟩], .bool false]) (by simp [results, Tryd.results13, go_sem, z0, z1]) rfl
        ⟨ret_lab (by rw [unhide hfin]; rfl) (by rw [unhide hfin]), (((chain (unhide B0) (unhide hbel)).setCell (Nat.le_refl _) _).setCell (Nat.le_refl _) _)⟩

set_option maxHeartbeats 4000000 in
theorem rtol_any (v : Value) (m : List VTol) (u : Value) (l : List Lab) (w : World) (hv : Tols w v m) (hu : Labs w u l) :
    Calls Tryd.prog 14 #[v, u] w fun e w' => e = .returned (.bool (tolerR m l)) ∧ Below w.heap.size w w' := by
  have hcon := hide (rfirst_any v m u l w hv hu)
  have hR := hide (not_first m l)
  obtain ⟨a, c, rfl⟩ := hv.val
  obtain ⟨a2, c2, rfl⟩ := hu.val
  clear hv hu
  obtain ⟨mn, hmn⟩ : ∃ n, n = m.length := ⟨_, rfl⟩
  obtain ⟨n, hn⟩ : ∃ n, n = l.length := ⟨_, rfl⟩
  rw [← hn, ← hmn] at hcon ⊢
  clear hn hmn
  unfold labV at hcon
  obtain ⟨R, hR2⟩ : ∃ R, R = tolerR m l := ⟨_, rfl⟩
  rw [← hR2] at hR ⊢
  obtain ⟨⟨⟨x0, x1⟩, q⟩, hx⟩ : ∃ x, x = firstR m l := ⟨_, rfl⟩
  rw [← hx] at hR hcon
  clear hR2 hx
  simp only at hcon hR
  go_enter Tryd.func14, Tryd.ntmps14
  go_wp2_with fail
  refine (unhide hcon).mono ?_
  rintro e w1 ⟨rfl, hw1⟩
  have B1 := hide hw1
  clear hw1
  go_wp2_with fail
  go_ret
  exact ⟨ret_bool (unhide hR), chain (unhide B1) (box_below _)⟩
end Go.Proofs.YtnkcbmlobikjkabDoor
