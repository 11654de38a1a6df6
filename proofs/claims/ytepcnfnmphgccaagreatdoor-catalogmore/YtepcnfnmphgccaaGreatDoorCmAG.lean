/- Layer 6: the law's sets: labels held against one another. -/
import Derived.Test.YtepcnfnmphgccaaGreatDoorCuMG
namespace Go.Proofs.YtepcnfnmphgccaaGreatDoor
open Go.RowKit Suf Val

theorem c4_drewL {V W : World} {p0 p1 p2 p3 : Addr} {v0 v1 v2 v3 : Value} (h : Hid (Below V.heap.size V W) ∧ W.cell? p0 = some v0 ∧ W.cell? p1 = some v1 ∧ W.cell? p2 = some v2 ∧ W.cell? p3 = some v3) : Hid (Below V.heap.size V W.drew) ∧ W.drew.cell? p0 = some v0 ∧ W.drew.cell? p1 = some v1 ∧ W.drew.cell? p2 = some v2 ∧ W.drew.cell? p3 = some v3 := ⟨(unhide h.1).drew, h.2⟩
theorem labGuard : Tryz.prog.eqGuardType Tryz.prog.depth 38 = false := by kernel_rfl
theorem fieldsLab : ∃ f0 f1 : Field, Tryz.prog.underlying 38 = some (.struct #[f0, f1]) ∧ (f0.name ≠ "_" ∧ f0.type = 9 ∧ f0.offset = 0) ∧ f1.name ≠ "_" ∧ f1.type = 9 ∧ f1.offset = 1 :=
  ⟨_, _, Tryz.underlying38, ⟨by decide, rfl, rfl⟩, by decide, rfl, rfl⟩
theorem eqInLab (w : World) (a0 a1 b0 b1 : ByteArray) : (Op.equalIn 10000 38 (.agg #[.string a0, .string a1]) (.agg #[.string b0, .string b1])).run Tryz.prog w = .ok ((a0.toList == b0.toList) && (a1.toList == b1.toList)) w := by
  obtain ⟨f0, f1, hS, ⟨n0, t0, o0⟩, n1, t1, o1⟩ := fieldsLab
  have hF : Tryz.prog.fieldsOf 38 = #[f0, f1] := by unfold Program.fieldsOf; rw [hS]
  have hp : Tryz.prog.stoodInHeld 38 = false := by kernel_rfl
  rw [show (10000 : Nat) = 9999 + 1 from rfl, run_equalIn_agg w 9999 38 _ _ (by rw [hF]; exact hS) hp, hF]
  show (Op.eqFields 9999 _ _ [f0, f1]).run Tryz.prog w = _
  rw [eqF_cons w 9999 _ _ f0 _ n0 (by rw [t0, o0]; exact part_run w _ _ _ (aggStr w) rfl) (by rw [t0, o0]; exact part_run w _ _ _ (aggStr w) rfl) (by rw [t0]; exact run_equalIn_string w 9998 _ a0 b0 Tryz.underlying9),
    eqF_cons w 9999 _ _ f1 _ n1 (by rw [t1, o1]; exact part_run w _ _ _ (aggStr w) rfl) (by rw [t1, o1]; exact part_run w _ _ _ (aggStr w) rfl) (by rw [t1]; exact run_equalIn_string w 9998 _ a1 b1 Tryz.underlying9)]
  obtain ⟨x, hx⟩ : ∃ x, x = (a0.toList == b0.toList) := ⟨_, rfl⟩
  obtain ⟨y, hy⟩ : ∃ x, x = (a1.toList == b1.toList) := ⟨_, rfl⟩
  rw [← hx, ← hy]
  have he : (Op.eqFields 9999 #[.string a0, .string a1] #[.string b0, .string b1] []).run Tryz.prog w = .ok true w := rfl
  rw [he]
  cases x <;> cases y <;> rfl
theorem eqlLab (w : World) (a0 a1 b0 b1 : ByteArray) : (binOp .eql 38 (.agg #[.string a0, .string a1]) (.agg #[.string b0, .string b1])).run Tryz.prog w = .ok (.bool ((a0.toList == b0.toList) && (a1.toList == b1.toList))) w := by
  rw [run_eql_struct, eqInLab]; rfl
theorem neqLab (w : World) (a0 a1 b0 b1 : ByteArray) : (binOp .neq 38 (.agg #[.string a0, .string a1]) (.agg #[.string b0, .string b1])).run Tryz.prog w = .ok (.bool (!((a0.toList == b0.toList) && (a1.toList == b1.toList)))) w := by
  rw [run_neq_struct, eqInLab]; rfl
theorem lab_beq (x y : Lab) : (((bytesT x.1).toList == (bytesT y.1).toList) && ((bytesT x.2).toList == (bytesT y.2).toList)) = (x == y) := by
  rw [txt_beq6, txt_beq6]; rfl
set_option maxRecDepth 100000 in
set_option maxHeartbeats 8000000 in
theorem sets6_any (v u : Value) (l m : List Lab) (w : World) (hv : Lst labK w v l) (hu : Lst labK w u m) :
    Calls Tryz.prog 15 #[v, u] w fun e w' => e = .returned (.bool (l == m)) ∧ Below w.heap.size w w' := by
  have HV := hide hv
  have HU := hide hu
  have hlen := hv.len
  obtain ⟨a, c, rfl⟩ := hv.val
  obtain ⟨a2, c2, rfl⟩ := hu.val
  clear hv hu
  by_cases hne : l.length = m.length
  case neg =>
    have hfin : Hid ((l == m) = false) := by
      show _ = _
      rw [beq_eq_false_iff_ne]
      exact fun e => hne (by rw [e])
    obtain ⟨n, hn⟩ : ∃ n, n = l.length := ⟨_, rfl⟩
    obtain ⟨n2, hn2⟩ : ∃ n, n = m.length := ⟨_, rfl⟩
    rw [← hn, ← hn2] at hne
    rw [← hn] at hlen
    rw [← hn, ← hn2]
    have hb : ((n : Int) != (n2 : Int)) = true := by simp; omega
    clear HV HU hn hn2
    obtain ⟨q, hq⟩ : ∃ q, q = (l == m) := ⟨_, rfl⟩
    rw [← hq] at hfin ⊢
    clear hq
    go_enter Tryz.func15, Tryz.ntmps15
    go_wp2_with fail
    go_ret
    exact ⟨ret_bool (unhide hfin).symm, Below.refl _ _⟩
  have HM := hide hne
  rw [← hne]
  obtain ⟨n, hn⟩ : ∃ n, n = l.length := ⟨_, rfl⟩
  rw [← hn] at hlen HV HM hne ⊢
  rw [← hne] at HU
  have HN := hide hn
  clear hn hne
  obtain ⟨R, hR⟩ : ∃ R, R = (l == m) := ⟨_, rfl⟩
  rw [← hR]
  have HR := hide hR
  clear hR
  have hb0 : ((n : Int) != (n : Int)) = false := by simp
  go_enter Tryz.func15, Tryz.ntmps15
  go_wp2_with fail
  go_loopw [5] (fun i W => ∃ k : Nat, k ≤ n ∧ i = .int .i64 k ∧ Hid (l.take k = m.take k) ∧ Hid (Below w.heap.size w W)) (fun i _ => n - (intOf i).toNat)
  case atStart => exact ⟨0, Nat.zero_le _, rfl, rfl, Below.refl _ _⟩
  case round =>
    obtain ⟨k, hk, rfl, heq, hbel⟩ := hrel
    by_cases hlt : k < n
    · have hlk : k < l.length := by rw [← unhide HN]; exact hlt
      have hmk : k < m.length := by rw [← unhide HM]; exact hlt
      obtain ⟨b, o, rfl, hat⟩ := ((unhide HV).below (unhide hbel)).at hlk
      obtain ⟨b2, o2, rfl, hat2⟩ := ((unhide HU).below (unhide hbel)).at hmk
      have hnx := hide (take_eq hlk hmk (unhide heq))
      have hob := lab_beq l[k] m[k]
      obtain ⟨x, hx⟩ : ∃ x, x = l[k] := ⟨_, rfl⟩
      obtain ⟨y, hy⟩ : ∃ y, y = m[k] := ⟨_, rfl⟩
      rw [← hx] at hat hnx hob
      rw [← hy] at hat2 hnx hob
      obtain ⟨q, hq⟩ : ∃ q, q = (x == y) := ⟨_, rfl⟩
      rw [← hq] at hnx hob
      obtain ⟨⟨s0, _⟩, s1, _⟩ := lab_at.1 hat
      obtain ⟨⟨t0, _⟩, t1, _⟩ := lab_at.1 hat2
      rw [show labK.size = 2 from rfl] at s0 s1 t0 t1
      have hnxx : Hid (q = true → l.take (k + 1) = m.take (k + 1)) := fun e => (unhide hnx).2 e
      have hno : Hid (q = false → R = false) := fun e => by
        rw [unhide HR, beq_eq_false_iff_ne]
        intro h
        have := (unhide hnx).1 (by rw [h])
        rw [e] at this; cases this
      clear hx hy hq hlk hmk hat hat2 hnx
      obtain ⟨X0, hX0⟩ : ∃ X, X = bytesT x.1 := ⟨_, rfl⟩
      obtain ⟨X1, hX1⟩ : ∃ X, X = bytesT x.2 := ⟨_, rfl⟩
      obtain ⟨Y0, hY0⟩ : ∃ X, X = bytesT y.1 := ⟨_, rfl⟩
      obtain ⟨Y1, hY1⟩ : ∃ X, X = bytesT y.2 := ⟨_, rfl⟩
      rw [← hX0, ← hX1, ← hY0, ← hY1] at hob
      rw [← hX0] at s0
      rw [← hX1] at s1
      rw [← hY0] at t0
      rw [← hY1] at t1
      have qT : ∀ W, (binOp .eql 38 (.agg #[.string X0, .string X1]) (.agg #[.string Y0, .string Y1])).run Tryz.prog W = .ok (.bool q) W := fun W => by rw [eqlLab, hob]
      have qN : ∀ W, (binOp .neq 38 (.agg #[.string X0, .string X1]) (.agg #[.string Y0, .string Y1])).run Tryz.prog W = .ok (.bool (!q)) W := fun W => by rw [neqLab, hob]
      have qG := labGuard
      clear hob hX0 hX1 hY0 hY1
      have i0 : (0 : Int) ≤ (k : Int) := by omega
      have i1 : (k : Int) < (n : Int) := by omega
      have hS := And.intro (show Hid (Below wr.heap.size wr wr) from Below.refl _ _) (And.intro s0 (And.intro s1 (And.intro t0 t1)))
      clear s0 s1 t0 t1
      go_wp2_with fail
      go_region_held3 (fun W => Hid (Below wr.heap.size wr W) ∧ W.cell? ⟨b, o + k * 2, none⟩ = some (.string X0) ∧ W.cell? ⟨b, o + k * 2 + 1, none⟩ = some (.string X1) ∧ W.cell? ⟨b2, o2 + k * 2, none⟩ = some (.string Y0) ∧ W.cell? ⟨b2, o2 + k * 2 + 1, none⟩ = some (.string Y1))
        (first | (with_reducible exact hS) | (with_reducible assumption) | (with_reducible refine c4_drewL ?_; with_reducible assumption))
        (fail)
      clear qT qN qG
      rename_i hH
      have B2 := hide (chain (unhide hbel) (unhide hH.1))
      clear hH hS
      cases q
      · have hfin : Hid (R = false) := unhide hno rfl
        go_wp2_with fail
        go_ret
        exact ⟨ret_bool (unhide hfin).symm, unhide B2⟩
      · have hn2 : Hid (l.take (k + 1) = m.take (k + 1)) := unhide hnxx rfl
        go_wp2_with fail
        go_roundw
        case rel => exact ⟨k + 1, by omega, by go_num, hn2, B2⟩
        case measure => simp [intOf]; omega
    · obtain rfl : k = n := by omega
      have hfin : Hid (R = true) := by
        show _ = _
        have h := unhide heq
        rw [List.take_of_length_le (l := l) (by rw [← unhide HN]; exact Nat.le_refl _), List.take_of_length_le (l := m) (by rw [← unhide HM]; exact Nat.le_refl _)] at h
        rw [unhide HR, h]; simp
      go_wp2_with fail
      go_ret
      exact ⟨ret_bool (unhide hfin).symm, unhide hbel⟩
end Go.Proofs.YtepcnfnmphgccaaGreatDoor
