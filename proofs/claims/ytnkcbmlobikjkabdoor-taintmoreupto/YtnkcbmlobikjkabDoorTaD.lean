/- Layer 5: contracts of the program's Check and CheckTols. -/
import Derived.Test.YtnkcbmlobikjkabDoorTaC
import Derived.Laws.StructEq
import Derived.Deep.RegionHeld3
namespace Go.Proofs.YtnkcbmlobikjkabDoor
open Go.RowKit Suf Val

theorem c6_drew {V W : World} {p0 p1 p2 p3 p4 p5 : Addr} {v0 v1 v2 v3 v4 v5 : Value} (h : Hid (Below V.heap.size V W) ∧ W.cell? p0 = some v0 ∧ W.cell? p1 = some v1 ∧ W.cell? p2 = some v2 ∧ W.cell? p3 = some v3 ∧ W.cell? p4 = some v4 ∧ W.cell? p5 = some v5) :
    Hid (Below V.heap.size V W.drew) ∧ W.drew.cell? p0 = some v0 ∧ W.drew.cell? p1 = some v1 ∧ W.drew.cell? p2 = some v2 ∧ W.drew.cell? p3 = some v3 ∧ W.drew.cell? p4 = some v4 ∧ W.drew.cell? p5 = some v5 := ⟨(unhide h.1).drew, h.2⟩
theorem c3_drew {V W : World} {p0 p1 p2 : Addr} {v0 v1 v2 : Value} (h : Hid (Below V.heap.size V W) ∧ W.cell? p0 = some v0 ∧ W.cell? p1 = some v1 ∧ W.cell? p2 = some v2) :
    Hid (Below V.heap.size V W.drew) ∧ W.drew.cell? p0 = some v0 ∧ W.drew.cell? p1 = some v1 ∧ W.drew.cell? p2 = some v2 := ⟨(unhide h.1).drew, h.2⟩
theorem c3_next {V W W' : World} {p0 p1 p2 : Addr} {v0 v1 v2 : Value} (h : Hid (Below V.heap.size V W) ∧ W.cell? p0 = some v0 ∧ W.cell? p1 = some v1 ∧ W.cell? p2 = some v2) (hb : Below W.heap.size W W') :
    Hid (Below V.heap.size V W') ∧ W'.cell? p0 = some v0 ∧ W'.cell? p1 = some v1 ∧ W'.cell? p2 = some v2 := ⟨chain (unhide h.1) hb, cell_kept hb h.2.1, cell_kept hb h.2.2.1, cell_kept hb h.2.2.2⟩
theorem tolGuard : Tryd.prog.eqGuardType Tryd.prog.depth 28 = false := by kernel_rfl
theorem labGuard : Tryd.prog.eqGuardType Tryd.prog.depth 26 = false := by kernel_rfl
theorem eqF_cons {P : Program} (w : World) (d : Nat) (xs ys : Array Value) (f : Field) (fs : List Field) (hn : f.name ≠ "_") {a b : Value} (ha : (part f.type xs f.offset).run P w = .ok a w) (hb : (part f.type ys f.offset).run P w = .ok b w) {r : Bool}
    (hr : (Op.equalIn d f.type a b).run P w = .ok r w) : (Op.eqFields d xs ys (f :: fs)).run P w = if r = true then (Op.eqFields d xs ys fs).run P w else .ok false w := by
  conv => lhs; unfold Op.eqFields
  rw [if_pos hn]
  simp only [Sem.run_bind, ha, hb, hr, Result.andThen_ok]
  cases r <;> simp
theorem part_run {P : Program} (w : World) (t : TypeId) (xs : Array Value) (off : Nat) {v : Value} (hA : (isAgg t).run P w = .ok false w) (hx : xs[off]? = some v) : (part t xs off).run P w = .ok v w := by
  unfold part
  simp only [Sem.run_bind, hA, Result.andThen_ok]
  simp [hx]
theorem aggStr (w : World) : (isAgg 9).run Tryd.prog w = .ok false w := by kernel_rfl
theorem aggBool (w : World) : (isAgg 4).run Tryd.prog w = .ok false w := by kernel_rfl
theorem fieldsTol : ∃ f0 f1 f2 : Field, Tryd.prog.underlying 28 = some (.struct #[f0, f1, f2]) ∧ (f0.name ≠ "_" ∧ f0.type = 9 ∧ f0.offset = 0) ∧ (f1.name ≠ "_" ∧ f1.type = 9 ∧ f1.offset = 1) ∧ f2.name ≠ "_" ∧ f2.type = 4 ∧ f2.offset = 2 :=
  ⟨_, _, _, Tryd.underlying28, ⟨by decide, rfl, rfl⟩, ⟨by decide, rfl, rfl⟩, by decide, rfl, rfl⟩
theorem fieldsLab : ∃ f0 f1 : Field, Tryd.prog.underlying 26 = some (.struct #[f0, f1]) ∧ (f0.name ≠ "_" ∧ f0.type = 9 ∧ f0.offset = 0) ∧ f1.name ≠ "_" ∧ f1.type = 9 ∧ f1.offset = 1 :=
  ⟨_, _, Tryd.underlying26, ⟨by decide, rfl, rfl⟩, by decide, rfl, rfl⟩
theorem eqlTol (w : World) (a0 a1 b0 b1 : ByteArray) (p q : Bool) : (binOp .eql 28 (.agg #[.string a0, .string a1, .bool p]) (.agg #[.string b0, .string b1, .bool q])).run Tryd.prog w = .ok (.bool ((a0.toList == b0.toList) && (a1.toList == b1.toList) && (p == q))) w := by
  obtain ⟨f0, f1, f2, hS, ⟨n0, t0, o0⟩, ⟨n1, t1, o1⟩, n2, t2, o2⟩ := fieldsTol
  have hF : Tryd.prog.fieldsOf 28 = #[f0, f1, f2] := by unfold Program.fieldsOf; rw [hS]
  have hp : Tryd.prog.stoodInHeld 28 = false := by kernel_rfl
  rw [run_eql_struct, show (10000 : Nat) = 9999 + 1 from rfl, run_equalIn_agg w 9999 28 _ _ (by rw [hF]; exact hS) hp, hF]
  show ((Op.eqFields 9999 _ _ [f0, f1, f2]).run Tryd.prog w).andThen _ = _
  rw [eqF_cons w 9999 _ _ f0 _ n0 (by rw [t0, o0]; exact part_run w _ _ _ (aggStr w) rfl) (by rw [t0, o0]; exact part_run w _ _ _ (aggStr w) rfl) (by rw [t0]; exact run_equalIn_string w 9998 _ a0 b0 Tryd.underlying9),
    eqF_cons w 9999 _ _ f1 _ n1 (by rw [t1, o1]; exact part_run w _ _ _ (aggStr w) rfl) (by rw [t1, o1]; exact part_run w _ _ _ (aggStr w) rfl) (by rw [t1]; exact run_equalIn_string w 9998 _ a1 b1 Tryd.underlying9),
    eqF_cons w 9999 _ _ f2 _ n2 (by rw [t2, o2]; exact part_run w _ _ _ (aggBool w) rfl) (by rw [t2, o2]; exact part_run w _ _ _ (aggBool w) rfl) (by rw [t2]; exact run_equalIn_bool' w 9998 _ p q Tryd.underlying4)]
  obtain ⟨x, hx⟩ : ∃ x, x = (a0.toList == b0.toList) := ⟨_, rfl⟩
  obtain ⟨y, hy⟩ : ∃ x, x = (a1.toList == b1.toList) := ⟨_, rfl⟩
  rw [← hx, ← hy]
  have he : (Op.eqFields 9999 #[.string a0, .string a1, .bool p] #[.string b0, .string b1, .bool q] []).run Tryd.prog w = .ok true w := rfl
  rw [he]
  cases x <;> cases y <;> cases p <;> cases q <;> rfl
theorem eqlLab (w : World) (a0 a1 b0 b1 : ByteArray) : (binOp .eql 26 (.agg #[.string a0, .string a1]) (.agg #[.string b0, .string b1])).run Tryd.prog w = .ok (.bool ((a0.toList == b0.toList) && (a1.toList == b1.toList))) w := by
  obtain ⟨f0, f1, hS, ⟨n0, t0, o0⟩, n1, t1, o1⟩ := fieldsLab
  have hF : Tryd.prog.fieldsOf 26 = #[f0, f1] := by unfold Program.fieldsOf; rw [hS]
  have hp : Tryd.prog.stoodInHeld 26 = false := by kernel_rfl
  rw [run_eql_struct, show (10000 : Nat) = 9999 + 1 from rfl, run_equalIn_agg w 9999 26 _ _ (by rw [hF]; exact hS) hp, hF]
  show ((Op.eqFields 9999 _ _ [f0, f1]).run Tryd.prog w).andThen _ = _
  rw [eqF_cons w 9999 _ _ f0 _ n0 (by rw [t0, o0]; exact part_run w _ _ _ (aggStr w) rfl) (by rw [t0, o0]; exact part_run w _ _ _ (aggStr w) rfl) (by rw [t0]; exact run_equalIn_string w 9998 _ a0 b0 Tryd.underlying9),
    eqF_cons w 9999 _ _ f1 _ n1 (by rw [t1, o1]; exact part_run w _ _ _ (aggStr w) rfl) (by rw [t1, o1]; exact part_run w _ _ _ (aggStr w) rfl) (by rw [t1]; exact run_equalIn_string w 9998 _ a1 b1 Tryd.underlying9)]
  obtain ⟨x, hx⟩ : ∃ x, x = (a0.toList == b0.toList) := ⟨_, rfl⟩
  obtain ⟨y, hy⟩ : ∃ x, x = (a1.toList == b1.toList) := ⟨_, rfl⟩
  rw [← hx, ← hy]
  have he : (Op.eqFields 9999 #[.string a0, .string a1] #[.string b0, .string b1] []).run Tryd.prog w = .ok true w := rfl
  rw [he]
  cases x <;> cases y <;> rfl
theorem tol_beq (x y : VTol) : (((bytesT x.1).toList == (bytesT y.1).toList) && ((bytesT x.2.1).toList == (bytesT y.2.1).toList) && (x.2.2 == y.2.2)) = (x == y) := by
  rw [txt_beq, txt_beq]
  obtain ⟨x0, x1, x2⟩ := x
  obtain ⟨y0, y1, y2⟩ := y
  rw [Bool.eq_iff_iff]
  simp only [Bool.and_eq_true, beq_iff_eq, Prod.mk.injEq]
  exact ⟨fun ⟨⟨a, b⟩, c⟩ => ⟨a, b, c⟩, fun ⟨a, b, c⟩ => ⟨⟨a, b⟩, c⟩⟩
theorem tol_comm (x y : VTol) : (x == y) = (y == x) := by rw [Bool.eq_iff_iff]; simp only [beq_iff_eq]; exact eq_comm
def isTol (y x : VTol) : Bool := x == y

set_option maxRecDepth 100000 in
set_option maxHeartbeats 8000000 in
theorem index_tol (y : VTol) (v : Value) (l : List VTol) (w : World) (hv : Tols w v l) :
    Calls Tryd.prog 29 #[v, tolV y] w fun e w' => (∃ z : Int, e = .returned (.int .i64 z) ∧ decide (0 ≤ z) = l.any (isTol y)) ∧ Below w.heap.size w w' := by
  have HV := hide hv
  have hlen := hv.len
  obtain ⟨a, c, rfl⟩ := hv.val
  obtain ⟨n, hn⟩ : ∃ n, n = l.length := ⟨_, rfl⟩
  rw [← hn] at HV hlen ⊢
  have HN := hide hn
  clear hv hn
  obtain ⟨R, hR⟩ : ∃ R, R = l.any (isTol y) := ⟨_, rfl⟩
  rw [← hR]
  have HR := hide hR
  clear hR
  have HB := hide (fun x : VTol => (tol_beq y x).trans (tol_comm y x))
  unfold tolV
  obtain ⟨Y0, hY0⟩ : ∃ X, X = bytesT y.1 := ⟨_, rfl⟩
  obtain ⟨Y1, hY1⟩ : ∃ X, X = bytesT y.2.1 := ⟨_, rfl⟩
  obtain ⟨Y2, hY2⟩ : ∃ X, X = y.2.2 := ⟨_, rfl⟩
  rw [← hY0, ← hY1, ← hY2] at HB ⊢
  clear hY0 hY1 hY2
  obtain ⟨W0, hW0⟩ : ∃ W, W = w.alloc (.cells #[.string Y0, .string Y1, .bool Y2] 28) := ⟨_, rfl⟩
  have B0 : Hid (Below w.heap.size w W0) := by rw [hW0]; exact box_below _
  have F0 : Hid (Three W0 w.heap.size (.string Y0) (.string Y1) (.bool Y2)) := by rw [hW0]; exact three_new _ _ _ _ _
  have GW0 := hide hW0
  clear hW0
  go_enter Tryd.func29, Tryd.ntmps29
  go_wp2_with fail
  rw [← unhide GW0]
  go_loopw [8] (fun i W => ∃ k : Nat, k ≤ n ∧ i = .int .i64 k ∧ Hid ((l.take k).any (isTol y) = false) ∧ Hid (Below W0.heap.size W0 W)) (fun i _ => n - (intOf i).toNat)
  case atStart => exact ⟨0, Nat.zero_le _, rfl, rfl, Below.refl _ _⟩
  case round =>
    obtain ⟨k, hk, rfl, hany, hbel⟩ := hrel
    by_cases hlt : k < n
    · have hlk : k < l.length := by rw [← unhide HN]; exact hlt
      obtain ⟨b, o, rfl, s0, s1, s2, hz0, hz1⟩ := ((unhide HV).below (chain (unhide B0) (unhide hbel))).at hlk
      obtain ⟨t0, t1, t2⟩ := (unhide F0).below (unhide hbel)
      have hnx := hide (any_next (p := isTol y) l k hlk)
      have hys := hide (any_yes (p := isTol y) l k hlk)
      obtain ⟨x, hx⟩ : ∃ x, x = l[k] := ⟨_, rfl⟩
      rw [← hx] at s0 s1 s2 hnx hys
      have hqq := unhide HB x
      obtain ⟨q, hq⟩ : ∃ q, q = isTol y x := ⟨_, rfl⟩
      rw [← hq] at hnx hys
      have hqe : q = (x == y) := hq
      rw [← hqe] at hqq
      obtain ⟨X0, hX0⟩ : ∃ X, X = bytesT x.1 := ⟨_, rfl⟩
      obtain ⟨X1, hX1⟩ : ∃ X, X = bytesT x.2.1 := ⟨_, rfl⟩
      obtain ⟨X2, hX2⟩ : ∃ X, X = x.2.2 := ⟨_, rfl⟩
      rw [← hX0] at hqq s0
      rw [← hX1] at hqq s1
      rw [← hX2] at hqq s2
      have qT : ∀ W, (binOp .eql 28 (.agg #[.string Y0, .string Y1, .bool Y2]) (.agg #[.string X0, .string X1, .bool X2])).run Tryd.prog W = .ok (.bool q) W := fun W => by rw [eqlTol, hqq]
      have qG := tolGuard
      clear hz0 hz1 hq hqe hx hlk hqq hX0 hX1 hX2
      have hS := And.intro (show Hid (Below wr.heap.size wr wr) from Below.refl _ _) (And.intro s0 (And.intro s1 (And.intro s2 (And.intro t0 (And.intro t1 t2)))))
      have i0 : (0 : Int) ≤ (k : Int) := by omega
      have i1 : (k : Int) < (n : Int) := by omega
      clear s0 s1 s2 t0 t1 t2
      go_wp2_with fail
      go_region_held3 (fun W => Hid (Below wr.heap.size wr W) ∧ W.cell? ⟨b, o + k * 3, none⟩ = some (.string X0) ∧ W.cell? ⟨b, o + k * 3 + 1, none⟩ = some (.string X1) ∧ W.cell? ⟨b, o + k * 3 + 2, none⟩ = some (.bool X2) ∧ W.cell? ⟨w.heap.size, 0, none⟩ = some (.string Y0) ∧ W.cell? ⟨w.heap.size, 1, none⟩ = some (.string Y1) ∧ W.cell? ⟨w.heap.size, 2, none⟩ = some (.bool Y2))
        (first | (with_reducible exact hS) | (with_reducible assumption) | (with_reducible refine c6_drew ?_; with_reducible assumption))
        (fail)
      rename_i hH
      have B2 := hide (chain (unhide hbel) (unhide hH.1))
      clear hH hS qT qG
      cases q
      · have hn2 : Hid ((l.take (k + 1)).any (isTol y) = false) := by show _ = _; rw [unhide hnx, unhide hany]; rfl
        go_wp2_with fail
        go_roundw
        case rel => exact ⟨k + 1, by omega, by go_num, hn2, B2⟩
        case measure => simp [intOf]; omega
      · have hfin : Hid (R = true) := by show _ = _; rw [unhide HR]; exact unhide hys rfl
        go_wp2_with fail
        go_ret
        exact ⟨⟨(k : Int), rfl, by rw [unhide hfin]; simp⟩, chain (unhide B0) (unhide B2)⟩
    · obtain rfl : k = n := by omega
      have hfin : Hid (R = false) := by
        show _ = _
        have := unhide hany
        rw [List.take_of_length_le (by rw [← unhide HN]; exact Nat.le_refl _)] at this
        rw [unhide HR, this]
      go_wp2_with fail
      go_ret
      exact ⟨⟨-1, rfl, by rw [unhide hfin]; rfl⟩, chain (unhide B0) (unhide hbel)⟩
set_option maxHeartbeats 4000000 in
theorem contains_tol (y : VTol) (v : Value) (l : List VTol) (w : World) (hv : Tols w v l) :
    Calls Tryd.prog 21 #[v, tolV y] w fun e w' => e = .returned (.bool (l.any (isTol y))) ∧ Below w.heap.size w w' := by
  have HV := hide hv
  obtain ⟨a, c, rfl⟩ := hv.val
  obtain ⟨n, hn⟩ : ∃ n, n = l.length := ⟨_, rfl⟩
  rw [← hn] at HV ⊢
  clear hv hn
  have hcon := hide (fun W => index_tol y (.slice a n c) l W)
  obtain ⟨R, hR⟩ : ∃ R, R = l.any (isTol y) := ⟨_, rfl⟩
  rw [← hR] at hcon ⊢
  clear hR
  unfold tolV at hcon ⊢
  obtain ⟨Y0, hY0⟩ : ∃ X, X = bytesT y.1 := ⟨_, rfl⟩
  obtain ⟨Y1, hY1⟩ : ∃ X, X = bytesT y.2.1 := ⟨_, rfl⟩
  obtain ⟨Y2, hY2⟩ : ∃ X, X = y.2.2 := ⟨_, rfl⟩
  rw [← hY0, ← hY1, ← hY2] at hcon ⊢
  clear hY0 hY1 hY2
  have B0 := hide (box_below (w := w) (.cells #[.string Y0, .string Y1, .bool Y2] 28))
  go_enter Tryd.func21, Tryd.ntmps21
  go_wp2_with fail
  refine (unhide hcon _ ((unhide HV).below (unhide B0))).mono ?_
  rintro e w1 ⟨⟨z, rfl, hz⟩, hw1⟩
  have HZ := hide hz
  have B1 := hide (chain (unhide B0) hw1)
  clear hz hw1
  go_wp2_with fail
  go_ret
  exact ⟨ret_bool (unhide HZ), unhide B1⟩
set_option maxHeartbeats 4000000 in
theorem formed_any (x : VTol) (w : World) (hL : Laid w) (hs : short x.2.1) :
    Calls Tryd.prog 20 #[tolV x] w fun e w' => e = .returned (.bool (formedB x)) ∧ Below w.heap.size w w' := by
  have HL := hide hL
  have HS := hide hs
  clear hL hs
  obtain ⟨x0, x1, q⟩ := x
  unfold tolV formedB
  simp only at HS ⊢
  have B0 := hide (box_below (w := w) (.cells #[.string (bytesT x0), .string (bytesT x1), .bool q] 28))
  cases q
  · have hvl := hide (fun W h => value_any (bytesT x1) W (short_size (unhide HS)) h)
    rw [bytesT_list] at hvl
    obtain ⟨r, hr⟩ : ∃ r, r = valueB x1 := ⟨_, rfl⟩
    rw [← hr] at hvl ⊢
    obtain ⟨X0, hX0⟩ : ∃ X, X = bytesT x0 := ⟨_, rfl⟩
    obtain ⟨X1, hX1⟩ : ∃ X, X = bytesT x1 := ⟨_, rfl⟩
    rw [← hX0, ← hX1] at B0 ⊢
    rw [← hX1] at hvl
    clear hX0 hX1 hr
    simp only [Bool.false_eq_true, if_false]
    go_enter Tryd.func20, Tryd.ntmps20
    go_wp2_with fail
    refine (unhide hvl _ ((unhide HL).below (unhide B0))).mono ?_
    rintro e w1 ⟨rfl, hw1⟩
    have B1 := hide (chain (unhide B0) hw1)
    clear hw1
    go_wp2_with fail
    go_ret
    exact ⟨rfl, unhide B1⟩
  · have hq := txt_beq x1 []
    obtain ⟨r, hr⟩ : ∃ r, r = (x1 == ([] : Txt)) := ⟨_, rfl⟩
    have hr2 : decide (x1 = ([] : Txt)) = r := by rw [hr, Bool.eq_iff_iff]; simp
    rw [← hr] at hq
    rw [if_pos rfl, hr2]
    obtain ⟨X0, hX0⟩ : ∃ X, X = bytesT x0 := ⟨_, rfl⟩
    obtain ⟨X1, hX1⟩ : ∃ X, X = bytesT x1 := ⟨_, rfl⟩
    rw [← hX0, ← hX1] at B0 ⊢
    rw [← hX1] at hq
    clear hX0 hX1 hr hr2
    have hq2 : Hid (X1.toList.isEmpty = r) := by
      show _ = _
      rw [← hq, show (bytesT ([] : Txt)).toList = [] by rw [Lib.toList_data]; rfl]
      cases X1.toList with
      | nil => rfl
      | cons a l => rfl
    clear hq
    go_enter Tryd.func20, Tryd.ntmps20
    go_wp2_with fail
    go_ret
    exact ⟨ret_bool (unhide hq2), unhide B0⟩
end Go.Proofs.YtnkcbmlobikjkabDoor
