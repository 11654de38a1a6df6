/- Layer 6: the document's own and labels. -/
import Derived.Test.YthjcmcnhidgcjaaGreatDoorCtCG
import Derived.Test.YthjcmcnhidgcjaaGreatDoorV3VG
import Derived.Deep.RegionHeld3
namespace Go.Proofs.YthjcmcnhidgcjaaGreatDoor
open Go.RowKit Suf Val

theorem c2_drew {V W : World} {p0 p1 : Addr} {v0 v1 : Value} (h : Hid (Below V.heap.size V W) ∧ W.cell? p0 = some v0 ∧ W.cell? p1 = some v1) : Hid (Below V.heap.size V W.drew) ∧ W.drew.cell? p0 = some v0 ∧ W.drew.cell? p1 = some v1 :=
  ⟨(unhide h.1).drew, h.2.1, h.2.2⟩

set_option maxHeartbeats 2000000 in
theorem own6_any (k : Txt) (w : World) : Calls Tryz.prog 68 #[.string (bytesT k)] w fun e w' => e = .returned (.bool (own5 k)) ∧ w' = w := by
  have g1 := txt_is k kZone
  have g2 := txt_is k kType
  have g3 := txt_is k kKind
  have g4 := txt_is k kPool
  have g5 := txt_is k kHost
  unfold own5
  obtain ⟨q1, e1⟩ : ∃ q, q = (k == kZone) := ⟨_, rfl⟩
  obtain ⟨q2, e2⟩ : ∃ q, q = (k == kType) := ⟨_, rfl⟩
  obtain ⟨q3, e3⟩ : ∃ q, q = (k == kKind) := ⟨_, rfl⟩
  obtain ⟨q4, e4⟩ : ∃ q, q = (k == kPool) := ⟨_, rfl⟩
  obtain ⟨q5, e5⟩ : ∃ q, q = (k == kHost) := ⟨_, rfl⟩
  rw [← e1] at g1; rw [← e2] at g2; rw [← e3] at g3; rw [← e4] at g4; rw [← e5] at g5
  rw [← e1, ← e2, ← e3, ← e4, ← e5]
  clear e1 e2 e3 e4 e5
  unfold kZone at g1
  unfold kType at g2
  unfold kKind at g3
  unfold kPool at g4
  unfold kHost at g5
  obtain ⟨X, hX⟩ : ∃ X, X = bytesT k := ⟨_, rfl⟩
  rw [← hX] at g1 g2 g3 g4 g5 ⊢
  clear hX
  cases q1 <;> cases q2 <;> cases q3 <;> cases q4 <;> cases q5 <;>
  (go_enter Tryz.func68, Tryz.ntmps68
   go_wp2_with fail
   go_ret
   exact ⟨rfl, rfl⟩)
set_option maxRecDepth 100000 in
set_option maxHeartbeats 8000000 in
theorem rlab6_any (v : Value) (l : List Lab) (w : World) (hv : Lst labK w v l) :
    Calls Tryz.prog 40 #[v] w fun e w' => e = .returned (.int .i64 (tlabR l)) ∧ Below w.heap.size w w' := by
  have HV := hide hv
  have hlen := hv.len
  obtain ⟨a, c, rfl⟩ := hv.val
  clear hv
  obtain ⟨n, hn⟩ : ∃ n, n = l.length := ⟨_, rfl⟩
  rw [← hn] at HV hlen ⊢
  have HN := hide hn
  clear hn
  obtain ⟨R, hR⟩ : ∃ R, R = tlabR l := ⟨_, rfl⟩
  rw [← hR]
  have HR := hide hR
  clear hR
  by_cases h4 : 4 < n
  · have hfin : Hid (R = 3) := by show _ = _; rw [unhide HR]; unfold tlabR; rw [if_pos (by rw [← unhide HN]; exact h4)]
    go_enter Tryz.func40, Tryz.ntmps40
    go_wp2_with fail
    go_ret
    exact ⟨ret_int (unhide hfin).symm, Below.refl _ _⟩
  have HF : Hid (R = tlabF (l.take 0) (l.drop 0)) := by show _ = _; rw [unhide HR]; unfold tlabR; rw [if_neg (by rw [← unhide HN]; exact h4)]; rfl
  go_enter Tryz.func40, Tryz.ntmps40
  go_wp2_with fail
  go_loopw [3] (fun i W => ∃ k : Nat, k ≤ n ∧ i = .int .i64 k ∧ Hid (R = tlabF (l.take k) (l.drop k)) ∧ Hid (Below w.heap.size w W)) (fun i _ => n - (intOf i).toNat)
  case atStart => exact ⟨0, Nat.zero_le _, rfl, HF, Below.refl _ _⟩
  case round =>
    obtain ⟨k, hk, rfl, hlab, hbel⟩ := hrel
    by_cases hlt : k < n
    · have hlk : k < l.length := by rw [← unhide HN]; exact hlt
      obtain ⟨b, o, rfl, hat0⟩ := ((unhide HV).below (unhide hbel)).at hlk
      obtain ⟨⟨h0, hs0⟩, h1, hs1⟩ := lab_at.1 hat0
      rw [show labK.size = 2 from rfl] at h0 h1
      clear hat0
      have hst := hide (tlab_step hlk)
      obtain ⟨y, hy⟩ : ∃ y, y = l[k] := ⟨_, rfl⟩
      rw [← hy] at h0 h1 hs0 hs1 hst
      obtain ⟨q0, hq0⟩ : ∃ q, q = nameB y.1 := ⟨_, rfl⟩
      obtain ⟨q1, hq1⟩ : ∃ q, q = valueB y.2 := ⟨_, rfl⟩
      obtain ⟨q5, hq5⟩ : ∃ q, q = own5 y.1 := ⟨_, rfl⟩
      have hnm := hide (fun W => rname_any (bytesT y.1) W (short_max hs0))
      have how := hide (fun W => own6_any y.1 W)
      have hvl := hide (fun W => rvalue_any (bytesT y.2) W (short_size hs1))
      rw [bytesT_list, ← hq0] at hnm
      rw [bytesT_list, ← hq1] at hvl
      rw [← hq0, ← hq5, ← hq1] at hst
      rw [← hq5] at how
      clear hs0 hs1 hy hlk hq0 hq1 hq5
      have HQ := hide (fun x : Lab => txt_beq6 x.1 y.1)
      obtain ⟨Y0, hY0⟩ : ∃ X, X = bytesT y.1 := ⟨_, rfl⟩
      obtain ⟨Y1, hY1⟩ : ∃ X, X = bytesT y.2 := ⟨_, rfl⟩
      rw [← hY0] at h0 hnm how HQ
      rw [← hY1] at h1 hvl
      clear hY0 hY1
      go_wp2_with fail
      refine (unhide hnm _).mono ?_
      rintro e w1 ⟨rfl, hw1⟩
      obtain rfl := hw1.symm
      clear hw1
      cases q0
      · have hfin : Hid (R = 7) := by show _ = _; rw [unhide hlab, unhide hst]; simp
        go_wp2_with fail
        go_ret
        exact ⟨ret_int (unhide hfin).symm, unhide hbel⟩
      go_wp2_with fail
      refine (unhide how _).mono ?_
      rintro e w1 ⟨rfl, hw1⟩
      obtain rfl := hw1.symm
      clear hw1
      cases q5
      rotate_left
      · have hfin : Hid (R = 1) := by show _ = _; rw [unhide hlab, unhide hst]; simp
        go_wp2_with fail
        go_ret
        exact ⟨ret_int (unhide hfin).symm, unhide hbel⟩
      go_wp2_with fail
      refine (unhide hvl _).mono ?_
      rintro e w2 ⟨rfl, hw2⟩
      have B2 := hide (chain (unhide hbel) hw2)
      have H0 := hide (cell_kept hw2 h0)
      clear hw2 h0 h1
      cases q1
      · have hfin : Hid (R = 20) := by show _ = _; rw [unhide hlab, unhide hst]; simp
        go_wp2_with fail
        go_ret
        exact ⟨ret_int (unhide hfin).symm, unhide B2⟩
      have hst2 : Hid ((l.take k).any (fun z => z.1 == y.1) = true → R = 6) := fun h => by
        have h3 : (l.take k).any (fun z => z.1 == y.1) = true := h
        rw [unhide hlab, unhide hst, h3]; simp
      have hst3 : Hid ((l.take k).any (fun z => z.1 == y.1) = false → R = tlabF (l.take (k + 1)) (l.drop (k + 1))) := fun h => by
        have h3 : (l.take k).any (fun z => z.1 == y.1) = false := h
        rw [unhide hlab, unhide hst, h3]; simp
      clear hst hlab
      go_wp2_with fail
      go_loopw [7] (fun i W => ∃ m : Nat, m ≤ k ∧ i = .int .i64 m ∧ Hid ((l.take m).any (fun z => z.1 == y.1) = false) ∧ Hid (Below w2.heap.size w2 W)) (fun i _ => k - (intOf i).toNat)
      case atStart => exact ⟨0, Nat.zero_le _, rfl, rfl, Below.refl _ _⟩
      case round =>
        obtain ⟨m, hm, rfl, hnone, hbel3⟩ := hrel
        by_cases hmk : m < k
        · have hlm : m < l.length := by rw [← unhide HN]; omega
          obtain ⟨b', o', eb, hat⟩ := ((unhide HV).below (chain (unhide B2) (unhide hbel3))).at hlm
          obtain ⟨rfl, rfl⟩ : b = b' ∧ o = o' := by injection eb with eb; injection eb with e1 e2 _; exact ⟨e1, e2⟩
          have hnx := hide (any_next6 (p := fun z : Lab => z.1 == y.1) l m hlm)
          have hmem : Hid (l[m] ∈ l.take k) := List.mem_take_iff_getElem.2 ⟨m, by omega, rfl⟩
          obtain ⟨x, hx⟩ : ∃ x, x = l[m] := ⟨_, rfl⟩
          rw [← hx] at hat hnx hmem
          obtain ⟨q, hq⟩ : ∃ q, q = (x.1 == y.1) := ⟨_, rfl⟩
          rw [← hq] at hnx
          have hyes : Hid (q = true → (l.take k).any (fun z => z.1 == y.1) = true) := fun h => List.any_eq_true.2 ⟨x, unhide hmem, hq.symm.trans h⟩
          have hqq := (unhide HQ x).trans hq.symm
          clear hq hx hlm eb hmem
          have i0 : (0 : Int) ≤ (m : Int) := by omega
          have i1 : (m : Int) < (n : Int) := by omega
          have i2 : (0 : Int) ≤ (k : Int) := by omega
          have i3 : (k : Int) < (n : Int) := by omega
          have g1 := cell_kept (unhide hbel3) (unhide H0)
          obtain ⟨⟨g0, _⟩, _, _⟩ := lab_at.1 hat
          rw [show labK.size = 2 from rfl] at g0
          obtain ⟨X, hX⟩ : ∃ X, X = bytesT x.1 := ⟨_, rfl⟩
          rw [← hX] at g0 hqq
          have hS := And.intro (show Hid (Below wr.heap.size wr wr) from Below.refl _ _) (And.intro g0 g1)
          clear g0 g1 hX hat
          go_wp2_with fail
          go_region_held3 (fun W => Hid (Below wr.heap.size wr W) ∧ W.cell? ⟨b, o + m * 2, none⟩ = some (.string X) ∧ W.cell? ⟨b, o + k * 2, none⟩ = some (.string Y0))
            (first | (with_reducible exact hS) | (with_reducible assumption) | (with_reducible refine c2_drew ?_; with_reducible assumption))
            (fail)
          rename_i hH
          have B6 := hide (chain (unhide hbel3) (unhide hH.1))
          clear hH hS
          cases q
          · have hn2 : Hid ((l.take (m + 1)).any (fun z => z.1 == y.1) = false) := by show _ = _; rw [unhide hnx, unhide hnone]; rfl
            go_wp2_with fail
            go_roundw
            case rel => exact ⟨m + 1, by omega, by go_num, hn2, B6⟩
            case measure => simp [intOf]; omega
          · have hfin : Hid (R = 6) := unhide hst2 (unhide hyes rfl)
            go_wp2_with fail
            go_ret
            exact ⟨ret_int (unhide hfin).symm, chain (unhide B2) (unhide B6)⟩
        · obtain rfl : m = k := by omega
          have hnx : Hid (R = tlabF (l.take (m + 1)) (l.drop (m + 1))) := unhide hst3 (unhide hnone)
          have B6 := hide (chain (unhide B2) (unhide hbel3))
          go_wp2_with fail
          go_roundw
          case rel => exact ⟨m + 1, by omega, by go_num, hnx, B6⟩
          case measure => simp [intOf]; omega
    · obtain rfl : k = n := by omega
      have hfin : Hid (R = 0) := by
        show _ = _
        rw [unhide hlab, List.drop_eq_nil_of_le (by rw [← unhide HN]; exact Nat.le_refl _)]; rfl
      go_wp2_with fail
      go_ret
      exact ⟨ret_int (unhide hfin).symm, unhide hbel⟩
end Go.Proofs.YthjcmcnhidgcjaaGreatDoor
