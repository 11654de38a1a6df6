/- Layer 7: equality of offers and of coolings; the law's same; IsCool, the program's and the document's. -/
import Derived.Test.YtcpgodkgdceocaaCoD
import Derived.Laws.StructEq
import Derived.Deep.RegionHeld3
namespace Go.Proofs.Ytcpgodkgdceocaa
open Go.RowKit Suf Val

theorem take_at6 {α : Type} (l : List α) (k : Nat) (h : k < l.length) : l.take (k + 1) = l.take k ++ [l[k]] := by rw [List.take_add_one, List.getElem?_eq_getElem h]; rfl
theorem txt_beq6 (a b : Txt) : ((bytesT a).toList == (bytesT b).toList) = (a == b) := by rw [Lib.toList_data, Lib.toList_data]; rfl
theorem any_next6 {α : Type} {p : α → Bool} (l : List α) (k : Nat) (h : k < l.length) : (l.take (k + 1)).any p = ((l.take k).any p || p l[k]) := by rw [take_at6 l k h, List.any_append]; simp
/-- Where the first one is that is judged so; -1: none. -/
def idxI {α : Type} (p : α → Bool) (l : List α) : Int := match l.findIdx? p with | some i => i | none => -1
theorem idx_none {α : Type} {p : α → Bool} {l : List α} (h : l.any p = false) : idxI p l = -1 := by
  have : l.findIdx? p = none := List.findIdx?_eq_none_iff.2 fun x hx => by have := List.any_eq_false.1 h x hx; simpa using this
  unfold idxI; rw [this]
theorem idx_at {α : Type} {p : α → Bool} {l : List α} {k : Nat} (h : k < l.length) (h0 : (l.take k).any p = false) (hp : p l[k] = true) : idxI p l = k := by
  have : l.findIdx? p = some k := List.findIdx?_eq_some_iff_getElem.2 ⟨h, hp, fun j hj => by
    have hj' : j < (l.take k).length := by rw [List.length_take]; omega
    have := List.any_eq_false.1 h0 ((l.take k)[j]'hj') (List.getElem_mem hj')
    rw [List.getElem_take] at this
    simpa using this⟩
  unfold idxI; rw [this]
theorem idx_any {α : Type} (p : α → Bool) (l : List α) : decide (0 ≤ idxI p l) = l.any p := by
  cases h : l.any p with
  | false => rw [idx_none h]; rfl
  | true =>
    unfold idxI
    cases hf : l.findIdx? p with
    | some i => simp
    | none =>
      obtain ⟨x, hx, hp⟩ := List.any_eq_true.1 h
      have := List.findIdx?_eq_none_iff.1 hf x hx
      rw [hp] at this
      cases this
theorem offGuard : Try.prog.eqGuardType Try.prog.depth 23 = false := by kernel_rfl
theorem eqF_cons {P : Program} (w : World) (d : Nat) (xs ys : Array Value) (f : Field) (fs : List Field) (hn : f.name ≠ "_") {a b : Value} (ha : (part f.type xs f.offset).run P w = .ok a w) (hb : (part f.type ys f.offset).run P w = .ok b w) {r : Bool}
    (hr : (Op.equalIn d f.type a b).run P w = .ok r w) : (Op.eqFields d xs ys (f :: fs)).run P w = if r = true then (Op.eqFields d xs ys fs).run P w else .ok false w := by
  conv => lhs; unfold Op.eqFields
  rw [if_pos hn]
  simp only [Sem.run_bind, ha, hb, hr, Result.andThen_ok]
  cases r <;> simp
theorem part_run {P : Program} (w : World) (t : TypeId) (xs : Array Value) (off : Nat) {v : Value} (hA : (isAgg t).run P w = .ok false w) (hx : xs[off]? = some v) : (part t xs off).run P w = .ok v w := by
  unfold part
  simp only [Sem.run_bind, hA, Result.andThen_ok]
  simp [hx]
theorem aggStr (w : World) : (isAgg 9).run Try.prog w = .ok false w := by kernel_rfl
theorem fieldsOff : ∃ f0 f1 f2 : Field, Try.prog.underlying 23 = some (.struct #[f0, f1, f2]) ∧ (f0.name ≠ "_" ∧ f0.type = 9 ∧ f0.offset = 0) ∧ (f1.name ≠ "_" ∧ f1.type = 9 ∧ f1.offset = 1) ∧ f2.name ≠ "_" ∧ f2.type = 9 ∧ f2.offset = 2 :=
  ⟨_, _, _, Try.underlying23, ⟨by decide, rfl, rfl⟩, ⟨by decide, rfl, rfl⟩, by decide, rfl, rfl⟩
theorem eqInOff (w : World) (a0 a1 a2 b0 b1 b2 : ByteArray) : (Op.equalIn 10000 23 (.agg #[.string a0, .string a1, .string a2]) (.agg #[.string b0, .string b1, .string b2])).run Try.prog w = .ok ((a0.toList == b0.toList) && ((a1.toList == b1.toList) && (a2.toList == b2.toList))) w := by
  obtain ⟨f0, f1, f2, hS, ⟨n0, t0, o0⟩, ⟨n1, t1, o1⟩, n2, t2, o2⟩ := fieldsOff
  have hF : Try.prog.fieldsOf 23 = #[f0, f1, f2] := by unfold Program.fieldsOf; rw [hS]
  have hp : Try.prog.stoodInHeld 23 = false := by kernel_rfl
  rw [show (10000 : Nat) = 9999 + 1 from rfl, run_equalIn_agg w 9999 23 _ _ (by rw [hF]; exact hS) hp, hF]
  show (Op.eqFields 9999 _ _ [f0, f1, f2]).run Try.prog w = _
  rw [eqF_cons w 9999 _ _ f0 _ n0 (by rw [t0, o0]; exact part_run w _ _ _ (aggStr w) rfl) (by rw [t0, o0]; exact part_run w _ _ _ (aggStr w) rfl) (by rw [t0]; exact run_equalIn_string w 9998 _ a0 b0 Try.underlying9),
    eqF_cons w 9999 _ _ f1 _ n1 (by rw [t1, o1]; exact part_run w _ _ _ (aggStr w) rfl) (by rw [t1, o1]; exact part_run w _ _ _ (aggStr w) rfl) (by rw [t1]; exact run_equalIn_string w 9998 _ a1 b1 Try.underlying9),
    eqF_cons w 9999 _ _ f2 _ n2 (by rw [t2, o2]; exact part_run w _ _ _ (aggStr w) rfl) (by rw [t2, o2]; exact part_run w _ _ _ (aggStr w) rfl) (by rw [t2]; exact run_equalIn_string w 9998 _ a2 b2 Try.underlying9)]
  obtain ⟨x, hx⟩ : ∃ x, x = (a0.toList == b0.toList) := ⟨_, rfl⟩
  obtain ⟨y, hy⟩ : ∃ x, x = (a1.toList == b1.toList) := ⟨_, rfl⟩
  obtain ⟨z, hz⟩ : ∃ x, x = (a2.toList == b2.toList) := ⟨_, rfl⟩
  rw [← hx, ← hy, ← hz]
  have he : (Op.eqFields 9999 #[.string a0, .string a1, .string a2] #[.string b0, .string b1, .string b2] []).run Try.prog w = .ok true w := rfl
  rw [he]
  cases x <;> cases y <;> cases z <;> rfl
theorem eqlOff (w : World) (a0 a1 a2 b0 b1 b2 : ByteArray) : (binOp .eql 23 (.agg #[.string a0, .string a1, .string a2]) (.agg #[.string b0, .string b1, .string b2])).run Try.prog w = .ok (.bool ((a0.toList == b0.toList) && ((a1.toList == b1.toList) && (a2.toList == b2.toList)))) w := by
  rw [run_eql_struct, eqInOff]; rfl
theorem neqOff (w : World) (a0 a1 a2 b0 b1 b2 : ByteArray) : (binOp .neq 23 (.agg #[.string a0, .string a1, .string a2]) (.agg #[.string b0, .string b1, .string b2])).run Try.prog w = .ok (.bool (!((a0.toList == b0.toList) && ((a1.toList == b1.toList) && (a2.toList == b2.toList))))) w := by
  rw [run_neq_struct, eqInOff]; rfl
theorem off_beq (x y : VOff) : (((bytesT x.1).toList == (bytesT y.1).toList) && (((bytesT x.2.1).toList == (bytesT y.2.1).toList) && ((bytesT x.2.2).toList == (bytesT y.2.2).toList))) = (x == y) := by
  rw [txt_beq6, txt_beq6, txt_beq6]; rfl
theorem take_eq {α : Type} [BEq α] [LawfulBEq α] {l m : List α} {k : Nat} (h : k < l.length) (h' : k < m.length) (ht : l.take k = m.take k) : (l.take (k + 1) = m.take (k + 1)) ↔ (l[k] == m[k]) = true := by
  rw [take_at6 l k h, take_at6 m k h', ht]
  constructor
  · intro e
    have h1 := List.append_cancel_left e
    rw [(List.cons.inj h1).1]; simp
  · intro e; rw [eq_of_beq e]
theorem coolGuard : Try.prog.eqGuardType Try.prog.depth 25 = false := by kernel_rfl
theorem part_agg {P : Program} (w : World) (t : TypeId) (n : Nat) (xs : Array Value) (off : Nat) (hA : (isAgg t).run P w = .ok true w) (hs : (sizeOf t).run P w = .ok n w) : (part t xs off).run P w = .ok (.agg (xs.extract off (off + n))) w := by
  unfold part
  simp only [Sem.run_bind, hA, Result.andThen_ok]
  simp [hs]
theorem fieldsCool : ∃ f0 f1 : Field, Try.prog.underlying 25 = some (.struct #[f0, f1]) ∧ (f0.name ≠ "_" ∧ f0.type = 23 ∧ f0.offset = 0) ∧ f1.name ≠ "_" ∧ f1.type = 2 ∧ f1.offset = 3 :=
  ⟨_, _, Try.underlying25, ⟨by decide, rfl, rfl⟩, by decide, rfl, rfl⟩
theorem aggOff (w : World) : (isAgg 23).run Try.prog w = .ok true w := by kernel_rfl
theorem sizOff (w : World) : (sizeOf 23).run Try.prog w = .ok 3 w := by kernel_rfl
theorem aggI64 (w : World) : (isAgg 2).run Try.prog w = .ok false w := by kernel_rfl
theorem eqInOff9 (w : World) (a0 a1 a2 b0 b1 b2 : ByteArray) : (Op.equalIn 9999 23 (.agg #[.string a0, .string a1, .string a2]) (.agg #[.string b0, .string b1, .string b2])).run Try.prog w = .ok ((a0.toList == b0.toList) && ((a1.toList == b1.toList) && (a2.toList == b2.toList))) w := by
  obtain ⟨f0, f1, f2, hS, ⟨n0, t0, o0⟩, ⟨n1, t1, o1⟩, n2, t2, o2⟩ := fieldsOff
  have hF : Try.prog.fieldsOf 23 = #[f0, f1, f2] := by unfold Program.fieldsOf; rw [hS]
  have hp : Try.prog.stoodInHeld 23 = false := by kernel_rfl
  rw [show (9999 : Nat) = 9998 + 1 from rfl, run_equalIn_agg w 9998 23 _ _ (by rw [hF]; exact hS) hp, hF]
  show (Op.eqFields 9998 _ _ [f0, f1, f2]).run Try.prog w = _
  rw [eqF_cons w 9998 _ _ f0 _ n0 (by rw [t0, o0]; exact part_run w _ _ _ (aggStr w) rfl) (by rw [t0, o0]; exact part_run w _ _ _ (aggStr w) rfl) (by rw [t0]; exact run_equalIn_string w 9997 _ a0 b0 Try.underlying9),
    eqF_cons w 9998 _ _ f1 _ n1 (by rw [t1, o1]; exact part_run w _ _ _ (aggStr w) rfl) (by rw [t1, o1]; exact part_run w _ _ _ (aggStr w) rfl) (by rw [t1]; exact run_equalIn_string w 9997 _ a1 b1 Try.underlying9),
    eqF_cons w 9998 _ _ f2 _ n2 (by rw [t2, o2]; exact part_run w _ _ _ (aggStr w) rfl) (by rw [t2, o2]; exact part_run w _ _ _ (aggStr w) rfl) (by rw [t2]; exact run_equalIn_string w 9997 _ a2 b2 Try.underlying9)]
  obtain ⟨x, hx⟩ : ∃ x, x = (a0.toList == b0.toList) := ⟨_, rfl⟩
  obtain ⟨y, hy⟩ : ∃ x, x = (a1.toList == b1.toList) := ⟨_, rfl⟩
  obtain ⟨z, hz⟩ : ∃ x, x = (a2.toList == b2.toList) := ⟨_, rfl⟩
  rw [← hx, ← hy, ← hz]
  have he : (Op.eqFields 9998 #[.string a0, .string a1, .string a2] #[.string b0, .string b1, .string b2] []).run Try.prog w = .ok true w := rfl
  rw [he]
  cases x <;> cases y <;> cases z <;> rfl
theorem eqInCool (w : World) (a0 a1 a2 b0 b1 b2 : ByteArray) (a3 b3 : Int) : (Op.equalIn 10000 25 (.agg #[.string a0, .string a1, .string a2, .int .i64 a3]) (.agg #[.string b0, .string b1, .string b2, .int .i64 b3])).run Try.prog w = .ok (((a0.toList == b0.toList) && ((a1.toList == b1.toList) && (a2.toList == b2.toList))) && (a3 == b3)) w := by
  obtain ⟨f0, f1, hS, ⟨n0, t0, o0⟩, n1, t1, o1⟩ := fieldsCool
  have hF : Try.prog.fieldsOf 25 = #[f0, f1] := by unfold Program.fieldsOf; rw [hS]
  have hp : Try.prog.stoodInHeld 25 = false := by kernel_rfl
  rw [show (10000 : Nat) = 9999 + 1 from rfl, run_equalIn_agg w 9999 25 _ _ (by rw [hF]; exact hS) hp, hF]
  show (Op.eqFields 9999 _ _ [f0, f1]).run Try.prog w = _
  rw [eqF_cons w 9999 _ _ f0 _ n0 (by rw [t0, o0]; exact part_agg w _ 3 _ _ (aggOff w) (sizOff w)) (by rw [t0, o0]; exact part_agg w _ 3 _ _ (aggOff w) (sizOff w)) (by rw [t0]; exact eqInOff9 w a0 a1 a2 b0 b1 b2),
    eqF_cons w 9999 _ _ f1 _ n1 (by rw [t1, o1]; exact part_run w _ _ _ (aggI64 w) rfl) (by rw [t1, o1]; exact part_run w _ _ _ (aggI64 w) rfl) (by rw [t1]; exact run_equalIn_int w 9998 _ .i64 .i64 a3 b3 Try.underlying2)]
  obtain ⟨x, hx⟩ : ∃ x, x = ((a0.toList == b0.toList) && ((a1.toList == b1.toList) && (a2.toList == b2.toList))) := ⟨_, rfl⟩
  obtain ⟨y, hy⟩ : ∃ x, x = (a3 == b3) := ⟨_, rfl⟩
  rw [← hx, ← hy]
  have he : (Op.eqFields 9999 #[.string a0, .string a1, .string a2, .int .i64 a3] #[.string b0, .string b1, .string b2, .int .i64 b3] []).run Try.prog w = .ok true w := rfl
  rw [he]
  cases x <;> cases y <;> rfl
theorem eqlCool (w : World) (a0 a1 a2 b0 b1 b2 : ByteArray) (a3 b3 : Int) : (binOp .eql 25 (.agg #[.string a0, .string a1, .string a2, .int .i64 a3]) (.agg #[.string b0, .string b1, .string b2, .int .i64 b3])).run Try.prog w = .ok (.bool (((a0.toList == b0.toList) && ((a1.toList == b1.toList) && (a2.toList == b2.toList))) && (a3 == b3))) w := by
  rw [run_eql_struct, eqInCool]; rfl
theorem neqCool (w : World) (a0 a1 a2 b0 b1 b2 : ByteArray) (a3 b3 : Int) : (binOp .neq 25 (.agg #[.string a0, .string a1, .string a2, .int .i64 a3]) (.agg #[.string b0, .string b1, .string b2, .int .i64 b3])).run Try.prog w = .ok (.bool (!(((a0.toList == b0.toList) && ((a1.toList == b1.toList) && (a2.toList == b2.toList))) && (a3 == b3)))) w := by
  rw [run_neq_struct, eqInCool]; rfl
theorem cool_beq (x y : VCool) : ((((bytesT x.1.1).toList == (bytesT y.1.1).toList) && (((bytesT x.1.2.1).toList == (bytesT y.1.2.1).toList) && ((bytesT x.1.2.2).toList == (bytesT y.1.2.2).toList))) && (x.2 == y.2)) = (x == y) := by
  rw [off_beq]; rfl
theorem c8_drew7 {V W : World} {p0 p1 p2 p3 p4 p5 p6 p7 : Addr} {v0 v1 v2 v3 v4 v5 v6 v7 : Value} (h : Hid (Below V.heap.size V W) ∧ W.cell? p0 = some v0 ∧ W.cell? p1 = some v1 ∧ W.cell? p2 = some v2 ∧ W.cell? p3 = some v3 ∧ W.cell? p4 = some v4 ∧ W.cell? p5 = some v5 ∧ W.cell? p6 = some v6 ∧ W.cell? p7 = some v7) : Hid (Below V.heap.size V W.drew) ∧ W.drew.cell? p0 = some v0 ∧ W.drew.cell? p1 = some v1 ∧ W.drew.cell? p2 = some v2 ∧ W.drew.cell? p3 = some v3 ∧ W.drew.cell? p4 = some v4 ∧ W.drew.cell? p5 = some v5 ∧ W.drew.cell? p6 = some v6 ∧ W.drew.cell? p7 = some v7 := ⟨(unhide h.1).drew, h.2⟩
set_option maxRecDepth 100000 in
set_option maxHeartbeats 8000000 in
theorem same7_any (v u : Value) (l m : List VCool) (w : World) (hv : Lst coolK w v l) (hu : Lst coolK w u m) :
    Calls Try.prog 14 #[v, u] w fun e w' => e = .returned (.bool (l == m)) ∧ Below w.heap.size w w' := by
  have HV := hide hv
  have HU := hide hu
  have hlen := hv.len
  obtain ⟨a, c, rfl⟩ := hv.val
  obtain ⟨a2, c2, rfl⟩ := hu.val
  clear hv hu
  by_cases hne : l.length = m.length
  case neg =>
    have hfin : Hid ((l == m) = false) := by
      show _ = _
      rw [beq_eq_false_iff_ne]
      exact fun e => hne (by rw [e])
    obtain ⟨n, hn⟩ : ∃ n, n = l.length := ⟨_, rfl⟩
    obtain ⟨n2, hn2⟩ : ∃ n, n = m.length := ⟨_, rfl⟩
    rw [← hn, ← hn2] at hne
    rw [← hn] at hlen
    rw [← hn, ← hn2]
    have hb : ((n : Int) != (n2 : Int)) = true := by simp; omega
    clear HV HU hn hn2
    obtain ⟨q, hq⟩ : ∃ q, q = (l == m) := ⟨_, rfl⟩
    rw [← hq] at hfin ⊢
    clear hq
    go_enter Try.func14, Try.ntmps14
    go_wp2_with fail
    go_ret
    exact ⟨ret_bool (unhide hfin).symm, Below.refl _ _⟩
  have HM := hide hne
  rw [← hne]
  obtain ⟨n, hn⟩ : ∃ n, n = l.length := ⟨_, rfl⟩
  rw [← hn] at hlen HV HM hne ⊢
  rw [← hne] at HU
  have HN := hide hn
  clear hn hne
  obtain ⟨R, hR⟩ : ∃ R, R = (l == m) := ⟨_, rfl⟩
  rw [← hR]
  have HR := hide hR
  clear hR
  have hb0 : ((n : Int) != (n : Int)) = false := by simp
  go_enter Try.func14, Try.ntmps14
  go_wp2_with fail
  go_loopw [5] (fun i W => ∃ k : Nat, k ≤ n ∧ i = .int .i64 k ∧ Hid (l.take k = m.take k) ∧ Hid (Below w.heap.size w W)) (fun i _ => n - (intOf i).toNat)
  case atStart => exact ⟨0, Nat.zero_le _, rfl, rfl, Below.refl _ _⟩
  case round =>
    obtain ⟨k, hk, rfl, heq, hbel⟩ := hrel
    by_cases hlt : k < n
    · have hlk : k < l.length := by rw [← unhide HN]; exact hlt
      have hmk : k < m.length := by rw [← unhide HM]; exact hlt
      obtain ⟨b, o, rfl, hat⟩ := ((unhide HV).below (unhide hbel)).at hlk
      obtain ⟨b2, o2, rfl, hat2⟩ := ((unhide HU).below (unhide hbel)).at hmk
      have hnx := hide (take_eq hlk hmk (unhide heq))
      have hob := cool_beq l[k] m[k]
      obtain ⟨x, hx⟩ : ∃ x, x = l[k] := ⟨_, rfl⟩
      obtain ⟨y, hy⟩ : ∃ y, y = m[k] := ⟨_, rfl⟩
      rw [← hx] at hat hnx hob
      rw [← hy] at hat2 hnx hob
      obtain ⟨q, hq⟩ : ∃ q, q = (x == y) := ⟨_, rfl⟩
      rw [← hq] at hnx hob
      obtain ⟨hs4, s3⟩ := cool_at.1 hat
      obtain ⟨ht4, t3⟩ := cool_at.1 hat2
      obtain ⟨⟨s0, _⟩, ⟨s1, _⟩, s2, _⟩ := off_at.1 hs4
      obtain ⟨⟨t0, _⟩, ⟨t1, _⟩, t2, _⟩ := off_at.1 ht4
      rw [show coolK.size = 4 from rfl] at s0 s1 s2 s3 t0 t1 t2 t3
      have hnxx : Hid (q = true → l.take (k + 1) = m.take (k + 1)) := fun e => (unhide hnx).2 e
      have hno : Hid (q = false → R = false) := fun e => by
        rw [unhide HR, beq_eq_false_iff_ne]
        intro h
        have := (unhide hnx).1 (by rw [h])
        rw [e] at this; cases this
      clear hx hy hq hlk hmk hat hat2 hnx hs4 ht4
      obtain ⟨X0, hX0⟩ : ∃ X, X = bytesT x.1.1 := ⟨_, rfl⟩
      obtain ⟨X1, hX1⟩ : ∃ X, X = bytesT x.1.2.1 := ⟨_, rfl⟩
      obtain ⟨X2, hX2⟩ : ∃ X, X = bytesT x.1.2.2 := ⟨_, rfl⟩
      obtain ⟨Y0, hY0⟩ : ∃ X, X = bytesT y.1.1 := ⟨_, rfl⟩
      obtain ⟨Y1, hY1⟩ : ∃ X, X = bytesT y.1.2.1 := ⟨_, rfl⟩
      obtain ⟨Y2, hY2⟩ : ∃ X, X = bytesT y.1.2.2 := ⟨_, rfl⟩
      obtain ⟨X3, hX3⟩ : ∃ X, X = x.2 := ⟨_, rfl⟩
      obtain ⟨Y3, hY3⟩ : ∃ X, X = y.2 := ⟨_, rfl⟩
      rw [← hX0, ← hX1, ← hX2, ← hX3, ← hY0, ← hY1, ← hY2, ← hY3] at hob
      rw [← hX3] at s3
      rw [← hY3] at t3
      rw [← hX0] at s0
      rw [← hX1] at s1
      rw [← hX2] at s2
      rw [← hY0] at t0
      rw [← hY1] at t1
      rw [← hY2] at t2
      have qT : ∀ W, (binOp .eql 25 (.agg #[.string X0, .string X1, .string X2, .int .i64 X3]) (.agg #[.string Y0, .string Y1, .string Y2, .int .i64 Y3])).run Try.prog W = .ok (.bool q) W := fun W => by rw [eqlCool, hob]
      have qN : ∀ W, (binOp .neq 25 (.agg #[.string X0, .string X1, .string X2, .int .i64 X3]) (.agg #[.string Y0, .string Y1, .string Y2, .int .i64 Y3])).run Try.prog W = .ok (.bool (!q)) W := fun W => by rw [neqCool, hob]
      have qG := coolGuard
      clear hob hX0 hX1 hX2 hX3 hY0 hY1 hY2 hY3
      have i0 : (0 : Int) ≤ (k : Int) := by omega
      have i1 : (k : Int) < (n : Int) := by omega
      have hS := And.intro (show Hid (Below wr.heap.size wr wr) from Below.refl _ _) (And.intro s0 (And.intro s1 (And.intro s2 (And.intro s3 (And.intro t0 (And.intro t1 (And.intro t2 t3)))))))
      clear s0 s1 s2 s3 t0 t1 t2 t3
      go_wp2_with fail
      go_region_held3 (fun W => Hid (Below wr.heap.size wr W) ∧ W.cell? ⟨b, o + k * 4, none⟩ = some (.string X0) ∧ W.cell? ⟨b, o + k * 4 + 1, none⟩ = some (.string X1) ∧ W.cell? ⟨b, o + k * 4 + 2, none⟩ = some (.string X2) ∧ W.cell? ⟨b, o + k * 4 + 3, none⟩ = some (.int .i64 X3) ∧ W.cell? ⟨b2, o2 + k * 4, none⟩ = some (.string Y0) ∧ W.cell? ⟨b2, o2 + k * 4 + 1, none⟩ = some (.string Y1) ∧ W.cell? ⟨b2, o2 + k * 4 + 2, none⟩ = some (.string Y2) ∧ W.cell? ⟨b2, o2 + k * 4 + 3, none⟩ = some (.int .i64 Y3))
        (first | (with_reducible exact hS) | (with_reducible assumption) | (with_reducible refine c8_drew7 ?_; with_reducible assumption))
        (fail)
      clear qT qN qG
      rename_i hH
      have B2 := hide (chain (unhide hbel) (unhide hH.1))
      clear hH hS
      cases q
      · have hfin : Hid (R = false) := unhide hno rfl
        go_wp2_with fail
        go_ret
        exact ⟨ret_bool (unhide hfin).symm, unhide B2⟩
      · have hn2 : Hid (l.take (k + 1) = m.take (k + 1)) := unhide hnxx rfl
        go_wp2_with fail
        go_roundw
        case rel => exact ⟨k + 1, by omega, by go_num, hn2, B2⟩
        case measure => simp [intOf]; omega
    · obtain rfl : k = n := by omega
      have hfin : Hid (R = true) := by
        show _ = _
        have h := unhide heq
        rw [List.take_of_length_le (l := l) (by rw [← unhide HN]; exact Nat.le_refl _), List.take_of_length_le (l := m) (by rw [← unhide HM]; exact Nat.le_refl _)] at h
        rw [unhide HR, h]; simp
      go_wp2_with fail
      go_ret
      exact ⟨ret_bool (unhide hfin).symm, unhide hbel⟩
theorem enters_is : ∀ args w, (callFunc 33 args).run Try.prog w = .ok (.enter 33 args) w := enters_of Try.func33 (by kernel_rfl) rfl
def isC (o : VOff) (now : Int) (c : VCool) : Bool := (c.1 == o) && decide (now < c.2)
theorem isCool_any (l : List VCool) (o : VOff) (now : Int) : isCoolR l o now = l.any (isC o now) := rfl
set_option maxHeartbeats 8000000 in
theorem clos_is (x : VCool) (y : VOff) (now : Int) (B B2 : Nat) (W : World) (h0 : W.cell? ⟨B, 0, none⟩ = some (.string (bytesT y.1))) (h1 : W.cell? ⟨B, 1, none⟩ = some (.string (bytesT y.2.1))) (h2 : W.cell? ⟨B, 2, none⟩ = some (.string (bytesT y.2.2))) (h3 : W.cell? ⟨B2, 0, none⟩ = some (.int .i64 now)) :
    Calls Try.prog 33 #[coolA x, .pointer (some ⟨B, 0, none⟩), .pointer (some ⟨B2, 0, none⟩)] W fun e w' => e = .returned (.bool (isC y now x)) ∧ Below W.heap.size W w' := by
  obtain ⟨q, hq⟩ : ∃ q, q = (x.1 == y) := ⟨_, rfl⟩
  have hob := off_beq x.1 y
  rw [← hq] at hob
  have cc := hide (fun V => pcounts_any x now V)
  unfold coolA at cc ⊢
  unfold isC
  rw [← hq]
  obtain ⟨q2, hq2⟩ : ∃ q, q = decide (now < x.2) := ⟨_, rfl⟩
  rw [← hq2] at cc ⊢
  clear hq hq2
  obtain ⟨X0, hX0⟩ : ∃ X, X = bytesT x.1.1 := ⟨_, rfl⟩
  obtain ⟨X1, hX1⟩ : ∃ X, X = bytesT x.1.2.1 := ⟨_, rfl⟩
  obtain ⟨X2, hX2⟩ : ∃ X, X = bytesT x.1.2.2 := ⟨_, rfl⟩
  obtain ⟨Y0, hY0⟩ : ∃ X, X = bytesT y.1 := ⟨_, rfl⟩
  obtain ⟨Y1, hY1⟩ : ∃ X, X = bytesT y.2.1 := ⟨_, rfl⟩
  obtain ⟨Y2, hY2⟩ : ∃ X, X = bytesT y.2.2 := ⟨_, rfl⟩
  obtain ⟨X3, hX3⟩ : ∃ X, X = x.2 := ⟨_, rfl⟩
  rw [← hX0, ← hX1, ← hX2, ← hY0, ← hY1, ← hY2] at hob
  rw [← hX0, ← hX1, ← hX2, ← hX3] at cc ⊢
  rw [← hY0] at h0
  rw [← hY1] at h1
  rw [← hY2] at h2
  have qT : ∀ W, (binOp .eql 23 (.agg #[.string X0, .string X1, .string X2]) (.agg #[.string Y0, .string Y1, .string Y2])).run Try.prog W = .ok (.bool q) W := fun W => by rw [eqlOff, hob]
  have qG := offGuard
  clear hob hX0 hX1 hX2 hX3 hY0 hY1 hY2
  have B0 : Hid (Below W.heap.size W (W.alloc (.cells #[.string X0, .string X1, .string X2, .int .i64 X3] 25))) := boxb _
  have g0 := cell_kept (unhide B0) h0
  have g1 := cell_kept (unhide B0) h1
  have g2 := cell_kept (unhide B0) h2
  have g3 := cell_kept (unhide B0) h3
  clear h0 h1 h2 h3
  go_enter Try.func33, Try.ntmps33
  cases q
  · go_wp2_with fail
    go_ret
    exact ⟨ret_bool (by simp), unhide B0⟩
  · go_wp2_with fail
    refine (unhide cc _).mono ?_
    rintro e w1 ⟨rfl, hw1⟩
    have B1 := hide (chain (unhide B0) hw1)
    clear hw1 g0 g1 g2 g3 qT
    go_wp2_with fail
    go_ret
    exact ⟨ret_bool (by simp), unhide B1⟩
set_option maxRecDepth 100000 in
set_option maxHeartbeats 8000000 in
theorem index_cool (g B B2 : Nat) (p : VCool → Bool) (v : Value) (l : List VCool) (w : World) (hv : Lst coolK w v l) (eg : ∀ args w, (callFunc g args).run Try.prog w = .ok (.enter g args) w)
    (hcl : ∀ (W : World) (x : VCool), x ∈ l → Below w.heap.size w W → Calls Try.prog g #[coolA x, .pointer (some ⟨B, 0, none⟩), .pointer (some ⟨B2, 0, none⟩)] W fun e w' => e = .returned (.bool (p x)) ∧ Below W.heap.size W w') :
    Calls Try.prog 39 #[v, .func (.func g) #[] #[.pointer (some ⟨B, 0, none⟩), .pointer (some ⟨B2, 0, none⟩)]] w fun e w' => e = .returned (.int .i64 (idxI p l)) ∧ Below w.heap.size w w' := by
  have HV := hide hv
  have HC := hide hcl
  have hlen := hv.len
  obtain ⟨a, c, rfl⟩ := hv.val
  obtain ⟨n, hn⟩ : ∃ n, n = l.length := ⟨_, rfl⟩
  rw [← hn] at HV hlen ⊢
  have HN := hide hn
  clear hv hcl hn
  obtain ⟨R, hR⟩ : ∃ R, R = idxI p l := ⟨_, rfl⟩
  rw [← hR]
  have HR := hide hR
  clear hR
  go_enter Try.func39, Try.ntmps39
  go_wp2_with fail
  go_loopw [8] (fun i W => ∃ k : Nat, k ≤ n ∧ i = .int .i64 k ∧ Hid ((l.take k).any p = false) ∧ Hid (Below w.heap.size w W)) (fun i _ => n - (intOf i).toNat)
  case atStart => exact ⟨0, Nat.zero_le _, rfl, rfl, Below.refl _ _⟩
  case round =>
    obtain ⟨k, hk, rfl, hany, hbel⟩ := hrel
    by_cases hlt : k < n
    · have hlk : k < l.length := by rw [← unhide HN]; exact hlt
      obtain ⟨b, o, rfl, hat⟩ := ((unhide HV).below (unhide hbel)).at hlk
      have hnx := hide (any_next6 (p := p) l k hlk)
      have hys := hide (fun hp => idx_at (p := p) hlk (unhide hany) hp)
      have hmem := hide (List.getElem_mem hlk)
      obtain ⟨x, hx⟩ : ∃ x, x = l[k] := ⟨_, rfl⟩
      rw [← hx] at hat hnx hys hmem
      obtain ⟨q, hq⟩ : ∃ q, q = p x := ⟨_, rfl⟩
      rw [← hq] at hnx hys
      obtain ⟨hs4, s3⟩ := cool_at.1 hat
      obtain ⟨⟨s0, _⟩, ⟨s1, _⟩, s2, _⟩ := off_at.1 hs4
      have hcl := hide (unhide HC wr x (unhide hmem) (unhide hbel))
      rw [← hq] at hcl
      clear hq hx hlk hat hmem hs4
      unfold coolA at hcl
      rw [show coolK.size = 4 from rfl] at s0 s1 s2 s3
      cases q
      · have hn2 : Hid ((l.take (k + 1)).any p = false) := by show _ = _; rw [unhide hnx, unhide hany]; rfl
        go_wp2_with (go_at_fn g; refine (unhide hcl).mono ?_; rintro e w2 ⟨rfl, hw2⟩; have B2 := hide (chain (unhide hbel) hw2); clear hw2 s0 s1 s2 s3)
        exact ⟨⟨k + 1, by omega, by go_num, hn2, B2⟩, by simp [intOf]; omega⟩
      · have hfin : Hid (R = (k : Int)) := by show _ = _; rw [unhide HR]; exact unhide hys rfl
        go_wp2_with (go_at_fn g; refine (unhide hcl).mono ?_; rintro e w2 ⟨rfl, hw2⟩; have B2 := hide (chain (unhide hbel) hw2); clear hw2 s0 s1 s2 s3)
        go_ret
        exact ⟨ret_int (unhide hfin).symm, unhide B2⟩
    · obtain rfl : k = n := by omega
      have hfin : Hid (R = -1) := by
        show _ = _
        have := unhide hany
        rw [List.take_of_length_le (by rw [← unhide HN]; exact Nat.le_refl _)] at this
        rw [unhide HR, idx_none this]
      go_wp2_with fail
      go_ret
      exact ⟨ret_int (unhide hfin).symm, unhide hbel⟩
set_option maxHeartbeats 4000000 in
theorem contains_cool (g B B2 : Nat) (p : VCool → Bool) (v : Value) (l : List VCool) (w : World) (hv : Lst coolK w v l) (eg : ∀ args w, (callFunc g args).run Try.prog w = .ok (.enter g args) w)
    (hcl : ∀ (W : World) (x : VCool), x ∈ l → Below w.heap.size w W → Calls Try.prog g #[coolA x, .pointer (some ⟨B, 0, none⟩), .pointer (some ⟨B2, 0, none⟩)] W fun e w' => e = .returned (.bool (p x)) ∧ Below W.heap.size W w') :
    Calls Try.prog 32 #[v, .func (.func g) #[] #[.pointer (some ⟨B, 0, none⟩), .pointer (some ⟨B2, 0, none⟩)]] w fun e w' => e = .returned (.bool (l.any p)) ∧ Below w.heap.size w w' := by
  have hcon := hide (index_cool g B B2 p v l w hv eg hcl)
  have hid := hide (idx_any p l)
  obtain ⟨a, c, rfl⟩ := hv.val
  obtain ⟨n, hn⟩ : ∃ n, n = l.length := ⟨_, rfl⟩
  rw [← hn] at hcon ⊢
  clear hv hcl hn eg
  obtain ⟨R, hR⟩ : ∃ R, R = l.any p := ⟨_, rfl⟩
  obtain ⟨z, hz⟩ : ∃ z, z = idxI p l := ⟨_, rfl⟩
  rw [← hR] at hid ⊢
  rw [← hz] at hid hcon
  clear hR hz
  go_enter Try.func32, Try.ntmps32
  go_wp2_with fail
  refine (unhide hcon).mono ?_
  rintro e w1 ⟨rfl, hw1⟩
  have B1 := hide hw1
  clear hw1
  go_wp2_with fail
  go_ret
  exact ⟨ret_bool (unhide hid), unhide B1⟩

set_option maxHeartbeats 8000000 in
theorem pisCool_any (v : Value) (l : List VCool) (o : VOff) (now : Int) (w : World) (hv : Lst coolK w v l) :
    Calls Try.prog 21 #[v, offA o, .int .i64 now] w fun e w' => e = .returned (.bool (isCoolR l o now)) ∧ Below w.heap.size w w' := by
  rw [isCool_any]
  have HV := hide hv
  obtain ⟨a, c, rfl⟩ := hv.val
  clear hv
  obtain ⟨n, hn⟩ : ∃ n, n = l.length := ⟨_, rfl⟩
  rw [← hn] at HV ⊢
  clear hn
  obtain ⟨W1, hW1⟩ : ∃ W, W = (w.alloc (.cells #[.string (bytesT o.1), .string (bytesT o.2.1), .string (bytesT o.2.2)] 23)).alloc (.cells #[.int .i64 now] 2) := ⟨_, rfl⟩
  have B1 : Hid (Below w.heap.size w W1) := by rw [hW1]; exact chain (boxb _) (boxb _)
  have O1 : Hid (W1.cell? ⟨w.heap.size, 0, none⟩ = some (.string (bytesT o.1)) ∧ W1.cell? ⟨w.heap.size, 1, none⟩ = some (.string (bytesT o.2.1)) ∧ W1.cell? ⟨w.heap.size, 2, none⟩ = some (.string (bytesT o.2.2)) ∧ W1.cell? ⟨w.heap.size + 1, 0, none⟩ = some (.int .i64 now)) := by
    rw [hW1]
    exact ⟨cell_box6 _ (by simp [go_sem]), cell_box6 _ (by simp [go_sem]), cell_box6 _ (by simp [go_sem]), by simp [go_sem]⟩
  have GW := hide hW1
  clear hW1
  have cf := hide (contains_cool 33 w.heap.size (w.heap.size + 1) (isC o now) _ l W1 ((unhide HV).below (unhide B1)) enters_is (fun W x _ hW => clos_is x o now _ _ W (cell_kept hW (unhide O1).1) (cell_kept hW (unhide O1).2.1) (cell_kept hW (unhide O1).2.2.1) (cell_kept hW (unhide O1).2.2.2)))
  obtain ⟨R, hR⟩ : ∃ R, R = l.any (isC o now) := ⟨_, rfl⟩
  rw [← hR] at cf ⊢
  clear hR HV O1
  unfold offA
  go_enter Try.func21, Try.ntmps21
  go_wp2_with fail
  rw [← unhide GW]
  refine (unhide cf).mono ?_
  rintro e w2 ⟨rfl, hw2⟩
  have B2 := hide (chain (unhide B1) hw2)
  clear hw2 cf GW B1
  go_wp2_with fail
  go_ret
  exact ⟨rfl, unhide B2⟩
end Go.Proofs.Ytcpgodkgdceocaa
