/- Layer 5: contracts of the program's by, First, Tolerates. -/
import Derived.Test.YtnkcbmlobikjkabDoorTaD
namespace Go.Proofs.YtnkcbmlobikjkabDoor
open Go.RowKit Suf Val

set_option maxHeartbeats 4000000 in
theorem by_any (a : Option Addr) (n c : Nat) (w : World) :
    Calls Tryd.prog 24 #[.slice a n c] w fun e w' => e = .returned (.func (.func 31) #[] #[.pointer (some ⟨w.heap.size, 0, none⟩)]) ∧ w'.cell? ⟨w.heap.size, 0, none⟩ = some (.slice a n c) ∧ Below w.heap.size w w' := by
  go_enter Tryd.func24, Tryd.ntmps24
  go_wp2_with fail
  go_ret
  exact ⟨rfl, by simp [go_sem], box_below _⟩
theorem enters_by1 : ∀ args w, (callFunc 31 args).run Tryd.prog w = .ok (.enter 31 args) w := enters_of Tryd.func31 (by kernel_rfl) rfl
set_option maxHeartbeats 4000000 in
theorem by1_any (B : Nat) (t : Lab) (v : Value) (m : List VTol) (W : World) (hv : Tols W v m) (hc : W.cell? ⟨B, 0, none⟩ = some v) :
    Calls Tryd.prog 31 #[labV t, .pointer (some ⟨B, 0, none⟩)] W fun e w' => e = .returned (.bool (okT m t)) ∧ Below W.heap.size W w' := by
  have HV := hide hv
  obtain ⟨a, c, rfl⟩ := hv.val
  obtain ⟨n, hn⟩ : ∃ n, n = m.length := ⟨_, rfl⟩
  rw [← hn] at HV hc
  clear hv hn
  unfold labV
  have hcon := hide (fun W B h1 h2 => contains_by B t (.slice a n c) m W h1 h2)
  obtain ⟨R, hR⟩ : ∃ R, R = okT m t := ⟨_, rfl⟩
  have hR2 : m.any (tolB t) = R := hR.symm
  rw [← hR]
  rw [hR2] at hcon
  clear hR hR2
  obtain ⟨W0, hW0⟩ : ∃ W0, W0 = W.alloc (.cells #[.string (bytesT t.1), .string (bytesT t.2)] 26) := ⟨_, rfl⟩
  have B0 : Hid (Below W.heap.size W W0) := by rw [hW0]; exact box_below _
  have F0 : Hid (LabBox W0 W.heap.size t) := by rw [hW0]; exact two_new _ _ _ _
  have hc2 : (W.alloc (.cells #[.string (bytesT t.1), .string (bytesT t.2)] 26)).cell? ⟨B, 0, none⟩ = some (.slice a n c) := cell_box _ hc
  have GW0 := hide hW0
  clear hW0 hc
  go_enter Tryd.func31, Tryd.ntmps31
  go_wp2_with fail
  rw [← unhide GW0]
  refine (unhide hcon _ _ ((unhide HV).below (unhide B0)) (unhide F0)).mono ?_
  rintro e w1 ⟨rfl, hw1⟩
  have B1 := hide (chain (unhide B0) hw1)
  clear hw1
  go_wp2_with fail
  go_ret
  exact ⟨rfl, unhide B1⟩

theorem ret_lab {x y : Value} {a b : Bool} (h : x = y) (h2 : a = b) : Ending.returned (.tuple #[x, .bool a]) = .returned (.tuple #[y, .bool b]) := by rw [h, h2]
set_option maxRecDepth 100000 in
set_option maxHeartbeats 8000000 in
theorem pfirst_any (v : Value) (m : List VTol) (u : Value) (l : List Lab) (w : World) (hv : Tols w v m) (hu : Labs w u l) :
    Calls Tryd.prog 12 #[v, u] w fun e w' => e = .returned (.tuple #[labV (firstR m l).1, .bool (firstR m l).2]) ∧ Below w.heap.size w w' := by
  have HV := hide hv
  have HU := hide hu
  have hlen := hu.len
  obtain ⟨a, c, rfl⟩ := hv.val
  obtain ⟨a2, c2, rfl⟩ := hu.val
  obtain ⟨mn, hmn⟩ : ∃ n, n = m.length := ⟨_, rfl⟩
  obtain ⟨n, hn⟩ : ∃ n, n = l.length := ⟨_, rfl⟩
  rw [← hn] at HU hlen ⊢
  rw [← hmn] at HV ⊢
  have HN := hide hn
  clear hv hu hn hmn
  obtain ⟨R, hR⟩ : ∃ R, R = firstR m l := ⟨_, rfl⟩
  rw [← hR]
  have HR : Hid (R = firstR m (l.drop 0)) := hR
  clear hR
  unfold labV
  obtain ⟨W0, hW0⟩ : ∃ W0, W0 = w.alloc (.cells #[.string ⟨#[]⟩, .string ⟨#[]⟩] 26) := ⟨_, rfl⟩
  have B0 : Hid (Below w.heap.size w W0) := by rw [hW0]; exact box_below _
  have F0 : Hid (LBox W0 w.heap.size) := by rw [hW0]; exact lbox_new _ _
  have GW0 := hide hW0
  clear hW0
  have eg := enters_by1
  go_enter Tryd.func12, Tryd.ntmps12
  go_wp2_with fail
  rw [← unhide GW0]
  refine (by_any a mn c _).mono ?_
  rintro e w1 ⟨rfl, hc1, hw1⟩
  have B1 := hide (chain (unhide B0) hw1)
  have F1 := hide ((unhide F0).below hw1)
  have C1 := hide hc1
  obtain ⟨P, hP⟩ : ∃ P, P = W0.heap.size := ⟨_, rfl⟩
  rw [← hP] at C1 ⊢
  clear hw1 hc1 hP F0
  go_wp2_with fail
  go_loopw [13] (fun i W => ∃ k : Nat, k ≤ n ∧ i = .int .i64 k ∧ Hid (R = firstR m (l.drop k)) ∧ Hid (Below w1.heap.size w1 W)) (fun i _ => n - (intOf i).toNat)
  case atStart => exact ⟨0, Nat.zero_le _, rfl, HR, Below.refl _ _⟩
  case round =>
    obtain ⟨k, hk, rfl, hlab, hbel⟩ := hrel
    by_cases hlt : k < n
    · have hlk : k < l.length := by rw [← unhide HN]; exact hlt
      obtain ⟨b, o, rfl, h0, h1, hs0, hs1⟩ := ((unhide HU).below (chain (unhide B1) (unhide hbel))).at hlk
      have hgo := hide (fun h => first_next (m := m) hlk h)
      have hno := hide (fun h => first_stop (m := m) hlk h)
      obtain ⟨y, hy⟩ : ∃ y, y = l[k] := ⟨_, rfl⟩
      rw [← hy] at h0 h1 hgo hno
      clear hs0 hs1 hy hlk
      have hby := hide (fun W h1 h2 => by1_any P y (.slice a mn c) m W h1 h2)
      obtain ⟨q, hq⟩ : ∃ q, q = okT m y := ⟨_, rfl⟩
      rw [← hq] at hgo hno hby
      clear hq
      unfold labV at hby
      obtain ⟨Y0, hY0⟩ : ∃ X, X = bytesT y.1 := ⟨_, rfl⟩
      obtain ⟨Y1, hY1⟩ : ∃ X, X = bytesT y.2 := ⟨_, rfl⟩
      rw [← hY0] at h0
      rw [← hY1] at h1
      rw [← hY0, ← hY1] at hby
      have G0 := hide hY0
      have G1 := hide hY1
      clear hY0 hY1
      obtain ⟨W2, hW2⟩ : ∃ W2, W2 = wr.alloc (.cells #[.string Y0, .string Y1] 26) := ⟨_, rfl⟩
      have B2 : Hid (Below wr.heap.size wr W2) := by rw [hW2]; exact box_below _
      have F2 : Hid (Two W2 wr.heap.size (.string Y0) (.string Y1)) := by rw [hW2]; exact two_new _ _ _ _
      have GW2 := hide hW2
      clear hW2
      go_wp2_with (go_at_fn 31; rw [← unhide GW2]; refine (unhide hby _ ((unhide HV).below (chain (unhide B1) (chain (unhide hbel) (unhide B2)))) (cell_kept (chain (unhide hbel) (unhide B2)) (unhide C1))).mono ?_; rintro e w3 ⟨rfl, hw3⟩; have B3 := hide (chain (chain (unhide hbel) (unhide B2)) hw3); have F3 := hide ((unhide F2).below hw3); clear hw3 F2 h0 h1; obtain ⟨f0, f1⟩ := unhide F3; obtain ⟨⟨z0, z1⟩, zf, zl⟩ := (unhide F1).below (unhide B3); have zf0 := zf 0; have zf1 := zf 1; cases q)
      · have hfin : Hid (R = (y, true)) := by show _ = _; rw [unhide hlab]; exact unhide hno (by trivial)
        go_wp2_with fail
        exact bodyPost_ret (v := .tuple #[.agg #[.string Y0, .string Y1], .bool true]) (by simp [results, Tryd.results12, go_sem, z0, z1]) rfl
          ⟨ret_lab (by rw [unhide hfin, unhide G0, unhide G1]) (by rw [unhide hfin]), (((chain (unhide B1) (unhide B3)).setCell (Nat.le_refl _) _).setCell (Nat.le_refl _) _)⟩
      · have hn2 : Hid (R = firstR m (l.drop (k + 1))) := by show _ = _; rw [unhide hlab]; exact unhide hgo (by trivial)
        go_wp2_with fail
        go_roundw
        case rel => exact ⟨k + 1, by omega, by go_num, hn2, B3⟩
        case measure => simp [intOf]; omega
    · obtain rfl : k = n := by omega
      have hfin : Hid (R = (([], []), false)) := by show _ = _; rw [unhide hlab]; exact first_end (unhide HN)
      obtain ⟨⟨z0, z1⟩, zf, zl⟩ := (unhide F1).below (unhide hbel)
      have zf0 := zf 0
      have zf1 := zf 1
      go_wp2_with fail
      exact bodyPost_ret (v := .tuple #[.agg #[.string ⟨#[]⟩, .string ⟨#[]⟩], .bool false]) (by simp [results, Tryd.results12, go_sem, z0, z1]) rfl
        ⟨ret_lab (by rw [unhide hfin]; rfl) (by rw [unhide hfin]), (((chain (unhide B1) (unhide hbel)).setCell (Nat.le_refl _) _).setCell (Nat.le_refl _) _)⟩

theorem not_first (m : List VTol) (l : List Lab) : (!(firstR m l).2) = tolerR m l := by rw [first_toler, Bool.not_not]
set_option maxHeartbeats 4000000 in
theorem ptol_any (v : Value) (m : List VTol) (u : Value) (l : List Lab) (w : World) (hv : Tols w v m) (hu : Labs w u l) :
    Calls Tryd.prog 15 #[v, u] w fun e w' => e = .returned (.bool (tolerR m l)) ∧ Below w.heap.size w w' := by
  have hcon := hide (pfirst_any v m u l w hv hu)
  have hR := hide (not_first m l)
  obtain ⟨a, c, rfl⟩ := hv.val
  obtain ⟨a2, c2, rfl⟩ := hu.val
  clear hv hu
  obtain ⟨mn, hmn⟩ : ∃ n, n = m.length := ⟨_, rfl⟩
  obtain ⟨n, hn⟩ : ∃ n, n = l.length := ⟨_, rfl⟩
  rw [← hn, ← hmn] at hcon ⊢
  clear hn hmn
  unfold labV at hcon
  obtain ⟨R, hR2⟩ : ∃ R, R = tolerR m l := ⟨_, rfl⟩
  rw [← hR2] at hR ⊢
  obtain ⟨⟨⟨x0, x1⟩, q⟩, hx⟩ : ∃ x, x = firstR m l := ⟨_, rfl⟩
  rw [← hx] at hR hcon
  clear hR2 hx
  simp only at hcon hR
  go_enter Tryd.func15, Tryd.ntmps15
  go_wp2_with fail
  refine (unhide hcon).mono ?_
  rintro e w1 ⟨rfl, hw1⟩
  have B1 := hide hw1
  clear hw1
  go_wp2_with fail
  go_ret
  exact ⟨ret_bool (unhide hR), chain (unhide B1) (box_below _)⟩
end Go.Proofs.YtnkcbmlobikjkabDoor
