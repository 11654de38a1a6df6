/- Layer 7: Next, the program's and the document's. -/
import Derived.Test.YtcpgodkgdceocaaCoF
namespace Go.Proofs.Ytcpgodkgdceocaa
open Go.RowKit Suf Val

theorem next_no {now : Int} {s : Int × Bool} {c : VCool} (h : ¬ now < c.2) : nextS now s c = s := by unfold nextS; rw [if_neg (fun e => h e.1)]
theorem next_new {now : Int} {s : Int × Bool} {c : VCool} (h : now < c.2) (h2 : s.2 = false ∨ c.2 < s.1) : nextS now s c = (c.2, true) := by unfold nextS; rw [if_pos ⟨h, h2⟩]
theorem next_old {now : Int} {s : Int × Bool} {c : VCool} (h2 : s.2 = true) (h3 : ¬ c.2 < s.1) : nextS now s c = s := by
  unfold nextS; rw [if_neg]; rintro ⟨_, h | h⟩
  · rw [h2] at h; cases h
  · exact h3 h
set_option maxRecDepth 100000 in
set_option maxHeartbeats 8000000 in
theorem pnext_any (v : Value) (l : List VCool) (now : Int) (w : World) (hv : Lst coolK w v l) :
    Calls Try.prog 19 #[v, .int .i64 now] w fun e w' => e = .returned (.tuple #[.int .i64 (nextR l now).1, .bool (nextR l now).2]) ∧ Below w.heap.size w w' := by
  have HV := hide hv
  have hlen := hv.len
  obtain ⟨a, c, rfl⟩ := hv.val
  clear hv
  obtain ⟨n, hn⟩ : ∃ n, n = l.length := ⟨_, rfl⟩
  rw [← hn] at HV hlen ⊢
  have HN := hide hn
  clear hn
  obtain ⟨R, hR⟩ : ∃ R, R = nextR l now := ⟨_, rfl⟩
  rw [← hR]
  have HR := hide hR
  clear hR
  go_enter Try.func19, Try.ntmps19
  go_wp2_with fail
  go_loopw [6, 7, 12] (fun t u i W => ∃ (k : Nat) (s : Int × Bool), k ≤ n ∧ i = .int .i64 k ∧ t = .int .i64 s.1 ∧ u = .bool s.2 ∧ Hid ((l.take k).foldl (nextS now) (0, false) = s) ∧ Hid (Below w.heap.size w W)) (fun _ _ i _ => n - (intOf i).toNat)
  case atStart => exact ⟨0, (0, false), Nat.zero_le _, rfl, rfl, rfl, rfl, Below.refl _ _⟩
  case round =>
    obtain ⟨k, ⟨s1, s2⟩, hk, rfl, rfl, rfl, hfold, hbel⟩ := hrel
    simp only at *
    by_cases hlt : k < n
    · have hlk : k < l.length := by rw [← unhide HN]; exact hlt
      obtain ⟨b, o, rfl, hat⟩ := ((unhide HV).below (unhide hbel)).at hlk
      have hst := hide (next_step (now := now) hlk)
      rw [unhide hfold] at hst
      obtain ⟨y, hy⟩ : ∃ y, y = l[k] := ⟨_, rfl⟩
      rw [← hy] at hat hst
      obtain ⟨h0123, h3⟩ := cool_at.1 hat
      obtain ⟨⟨h0, hs0⟩, ⟨h1, hs1⟩, h2, hs2⟩ := off_at.1 h0123
      rw [show coolK.size = 4 from rfl] at h0 h1 h2 h3
      clear hs0 hs1 hs2 hy hat h0123 hlk hfold
      obtain ⟨X0, hX0⟩ : ∃ X, X = bytesT y.1.1 := ⟨_, rfl⟩
      obtain ⟨X1, hX1⟩ : ∃ X, X = bytesT y.1.2.1 := ⟨_, rfl⟩
      obtain ⟨X2, hX2⟩ : ∃ X, X = bytesT y.1.2.2 := ⟨_, rfl⟩
      obtain ⟨X3, hX3⟩ : ∃ X, X = y.2 := ⟨_, rfl⟩
      have hno : Hid (X3 ≤ now → (l.take (k + 1)).foldl (nextS now) (0, false) = (s1, s2)) := fun h => by rw [unhide hst]; exact next_no (by rw [← hX3]; omega)
      have hnew : Hid (now < X3 → s2 = false ∨ X3 < s1 → (l.take (k + 1)).foldl (nextS now) (0, false) = (X3, true)) := fun h h2 => by rw [unhide hst, next_new (by rw [← hX3]; exact h) (by rw [← hX3]; exact h2), hX3]
      have hold : Hid (s2 = true → s1 ≤ X3 → (l.take (k + 1)).foldl (nextS now) (0, false) = (s1, s2)) := fun h h2 => by rw [unhide hst]; exact next_old h (by rw [← hX3]; simpa using h2)
      have cc := hide (fun V => pcounts_any y now V)
      unfold coolA at cc
      rw [← hX0, ← hX1, ← hX2, ← hX3] at cc
      rw [← hX0] at h0
      rw [← hX1] at h1
      rw [← hX2] at h2
      rw [← hX3] at h3
      clear hX0 hX1 hX2 hX3 hst
      obtain ⟨W0, hW0⟩ : ∃ W, W = wr.alloc (.cells #[.string X0, .string X1, .string X2, .int .i64 X3] 25) := ⟨_, rfl⟩
      have B0 : Hid (Below wr.heap.size wr W0) := by rw [hW0]; exact boxb _
      have f3 : W0.cell? ⟨wr.heap.size, 3, none⟩ = some (.int .i64 X3) := by rw [hW0]; simp [go_sem]
      have GW := hide hW0
      clear hW0
      go_wp2_with fail
      rw [← unhide GW]
      clear h0 h1 h2 h3
      refine (unhide cc _).mono ?_
      rintro e w1 ⟨rfl, hw1⟩
      have B3 := hide (chain (chain (unhide hbel) (unhide B0)) hw1)
      have g3 := cell_kept hw1 f3
      clear hw1 f3 cc GW B0
      by_cases hd : now < X3
      case neg =>
        have hn2 := hide (unhide hno (by omega))
        have hdd : decide (now < X3) = false := decide_eq_false hd
        rw [hdd]
        clear hdd hd hno hnew hold g3
        go_wp2_with fail
        exact ⟨⟨k + 1, (s1, s2), by omega, by go_num, rfl, rfl, hn2, B3⟩, by simp [intOf]; omega⟩
      have hdd : decide (now < X3) = true := decide_eq_true hd
      rw [hdd]
      clear hdd
      cases s2 with
      | false =>
          have hn2 := hide (unhide hnew hd (Or.inl rfl))
          clear hno hnew hold
          go_wp2_with fail
          exact ⟨⟨k + 1, (X3, true), by omega, by go_num, rfl, rfl, hn2, B3⟩, by simp [intOf]; omega⟩
      | true =>
        by_cases hm : X3 < s1
        · have hn2 := hide (unhide hnew hd (Or.inr hm))
          clear hno hnew hold
          go_wp2_with fail
          exact ⟨⟨k + 1, (X3, true), by omega, by go_num, rfl, rfl, hn2, B3⟩, by simp [intOf]; omega⟩
        · have hn2 := hide (unhide hold rfl (by omega))
          clear hno hnew hold
          go_wp2_with fail
          exact ⟨⟨k + 1, (s1, true), by omega, by go_num, rfl, rfl, hn2, B3⟩, by simp [intOf]; omega⟩
    · obtain rfl : k = n := by omega
      have hfin : Hid (R = (s1, s2)) := by
        show _ = _
        have := unhide hfold
        rw [List.take_of_length_le (by rw [← unhide HN]; exact Nat.le_refl _)] at this
        rw [unhide HR]; exact this
      go_wp2_with fail
      go_ret2
      exact ⟨by rw [unhide hfin]; rfl, unhide hbel⟩
set_option maxRecDepth 100000 in
set_option maxHeartbeats 8000000 in
theorem rnext_any (v : Value) (l : List VCool) (now : Int) (w : World) (hv : Lst coolK w v l) :
    Calls Try.prog 20 #[v, .int .i64 now] w fun e w' => e = .returned (.tuple #[.int .i64 (nextR l now).1, .bool (nextR l now).2]) ∧ Below w.heap.size w w' := by
  have HV := hide hv
  have hlen := hv.len
  obtain ⟨a, c, rfl⟩ := hv.val
  clear hv
  obtain ⟨n, hn⟩ : ∃ n, n = l.length := ⟨_, rfl⟩
  rw [← hn] at HV hlen ⊢
  have HN := hide hn
  clear hn
  obtain ⟨R, hR⟩ : ∃ R, R = nextR l now := ⟨_, rfl⟩
  rw [← hR]
  have HR := hide hR
  clear hR
  go_enter Try.func20, Try.ntmps20
  go_wp2_with fail
  go_loopw [6, 7, 8] (fun t u i W => ∃ (k : Nat) (s : Int × Bool), k ≤ n ∧ i = .int .i64 k ∧ t = .int .i64 s.1 ∧ u = .bool s.2 ∧ Hid ((l.take k).foldl (nextS now) (0, false) = s) ∧ Hid (Below w.heap.size w W)) (fun _ _ i _ => n - (intOf i).toNat)
  case atStart => exact ⟨0, (0, false), Nat.zero_le _, rfl, rfl, rfl, rfl, Below.refl _ _⟩
  case round =>
    obtain ⟨k, ⟨s1, s2⟩, hk, rfl, rfl, rfl, hfold, hbel⟩ := hrel
    simp only at *
    by_cases hlt : k < n
    · have hlk : k < l.length := by rw [← unhide HN]; exact hlt
      obtain ⟨b, o, rfl, hat⟩ := ((unhide HV).below (unhide hbel)).at hlk
      have hst := hide (next_step (now := now) hlk)
      rw [unhide hfold] at hst
      obtain ⟨y, hy⟩ : ∃ y, y = l[k] := ⟨_, rfl⟩
      rw [← hy] at hat hst
      obtain ⟨h0123, h3⟩ := cool_at.1 hat
      obtain ⟨⟨h0, hs0⟩, ⟨h1, hs1⟩, h2, hs2⟩ := off_at.1 h0123
      rw [show coolK.size = 4 from rfl] at h0 h1 h2 h3
      clear hs0 hs1 hs2 hy hat h0123 hlk hfold
      obtain ⟨X0, hX0⟩ : ∃ X, X = bytesT y.1.1 := ⟨_, rfl⟩
      obtain ⟨X1, hX1⟩ : ∃ X, X = bytesT y.1.2.1 := ⟨_, rfl⟩
      obtain ⟨X2, hX2⟩ : ∃ X, X = bytesT y.1.2.2 := ⟨_, rfl⟩
      obtain ⟨X3, hX3⟩ : ∃ X, X = y.2 := ⟨_, rfl⟩
      have hno : Hid (X3 ≤ now → (l.take (k + 1)).foldl (nextS now) (0, false) = (s1, s2)) := fun h => by rw [unhide hst]; exact next_no (by rw [← hX3]; omega)
      have hnew : Hid (now < X3 → s2 = false ∨ X3 < s1 → (l.take (k + 1)).foldl (nextS now) (0, false) = (X3, true)) := fun h h2 => by rw [unhide hst, next_new (by rw [← hX3]; exact h) (by rw [← hX3]; exact h2), hX3]
      have hold : Hid (s2 = true → s1 ≤ X3 → (l.take (k + 1)).foldl (nextS now) (0, false) = (s1, s2)) := fun h h2 => by rw [unhide hst]; exact next_old h (by rw [← hX3]; simpa using h2)
      rw [← hX0] at h0
      rw [← hX1] at h1
      rw [← hX2] at h2
      rw [← hX3] at h3
      clear hX0 hX1 hX2 hX3 hst
      have B3 := hbel
      have i0 : (0 : Int) ≤ (k : Int) := by omega
      have i1 : (k : Int) < (n : Int) := by omega
      by_cases hd : now < X3
      case neg =>
        have hn2 := hide (unhide hno (by omega))
        clear hno hnew hold
        go_wp2_with fail
        go_roundw
        case rel => exact ⟨k + 1, (s1, s2), by omega, by go_num, rfl, rfl, hn2, B3⟩
        case measure => simp [intOf]; omega
      cases s2 with
      | false =>
          have hn2 := hide (unhide hnew hd (Or.inl rfl))
          clear hno hnew hold
          go_wp2_with fail
          go_roundw
          case rel => exact ⟨k + 1, (X3, true), by omega, by go_num, rfl, rfl, hn2, B3⟩
          case measure => simp [intOf]; omega
      | true =>
        by_cases hm : X3 < s1
        · have hn2 := hide (unhide hnew hd (Or.inr hm))
          clear hno hnew hold
          go_wp2_with fail
          go_roundw
          case rel => exact ⟨k + 1, (X3, true), by omega, by go_num, rfl, rfl, hn2, B3⟩
          case measure => simp [intOf]; omega
        · have hn2 := hide (unhide hold rfl (by omega))
          clear hno hnew hold
          go_wp2_with fail
          go_roundw
          case rel => exact ⟨k + 1, (s1, true), by omega, by go_num, rfl, rfl, hn2, B3⟩
          case measure => simp [intOf]; omega
    · obtain rfl : k = n := by omega
      have hfin : Hid (R = (s1, s2)) := by
        show _ = _
        have := unhide hfold
        rw [List.take_of_length_le (by rw [← unhide HN]; exact Nat.le_refl _)] at this
        rw [unhide HR]; exact this
      go_wp2_with fail
      go_ret2
      exact ⟨by rw [unhide hfin]; rfl, unhide hbel⟩
end Go.Proofs.Ytcpgodkgdceocaa
