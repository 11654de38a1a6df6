/- The walk of ValsetBoth. -/
import Derived.Test.YtkeibapcfbajjabDoorV3EM
import Derived.Test.YtkeibapcfbajjabDoorV3AP
import Derived.Test.YtkeibapcfbajjabDoorV3U
import Derived.Deep.DeepCutAuto
import Derived.Deep.CutRange
namespace Go.Proofs.YtkeibapcfbajjabDoor.valsetBoth
open Go.RowKit Suf Val Go.Maps

theorem c18_next {V W W' : World} {p0 p1 p2 p3 p4 p5 p6 p7 p8 p9 p10 p11 p12 p13 p14 p15 p16 p17 : Addr} {v0 v1 v2 v3 v4 v5 v6 v7 v8 v9 v10 v11 v12 v13 v14 v15 v16 v17 : Value} (h : Hid (Below V.heap.size V W) ∧ W.cell? p0 = some v0 ∧ W.cell? p1 = some v1 ∧ W.cell? p2 = some v2 ∧ W.cell? p3 = some v3 ∧ W.cell? p4 = some v4 ∧ W.cell? p5 = some v5 ∧ W.cell? p6 = some v6 ∧ W.cell? p7 = some v7 ∧ W.cell? p8 = some v8 ∧ W.cell? p9 = some v9 ∧ W.cell? p10 = some v10 ∧ W.cell? p11 = some v11 ∧ W.cell? p12 = some v12 ∧ W.cell? p13 = some v13 ∧ W.cell? p14 = some v14 ∧ W.cell? p15 = some v15 ∧ W.cell? p16 = some v16 ∧ W.cell? p17 = some v17) (hb : Below W.heap.size W W') : Hid (Below V.heap.size V W') ∧ W'.cell? p0 = some v0 ∧ W'.cell? p1 = some v1 ∧ W'.cell? p2 = some v2 ∧ W'.cell? p3 = some v3 ∧ W'.cell? p4 = some v4 ∧ W'.cell? p5 = some v5 ∧ W'.cell? p6 = some v6 ∧ W'.cell? p7 = some v7 ∧ W'.cell? p8 = some v8 ∧ W'.cell? p9 = some v9 ∧ W'.cell? p10 = some v10 ∧ W'.cell? p11 = some v11 ∧ W'.cell? p12 = some v12 ∧ W'.cell? p13 = some v13 ∧ W'.cell? p14 = some v14 ∧ W'.cell? p15 = some v15 ∧ W'.cell? p16 = some v16 ∧ W'.cell? p17 = some v17 :=
  ⟨chain (unhide h.1) hb, cell_kept hb (h.2.1), cell_kept hb (h.2.2.1), cell_kept hb (h.2.2.2.1), cell_kept hb (h.2.2.2.2.1), cell_kept hb (h.2.2.2.2.2.1), cell_kept hb (h.2.2.2.2.2.2.1), cell_kept hb (h.2.2.2.2.2.2.2.1), cell_kept hb (h.2.2.2.2.2.2.2.2.1), cell_kept hb (h.2.2.2.2.2.2.2.2.2.1), cell_kept hb (h.2.2.2.2.2.2.2.2.2.2.1), cell_kept hb (h.2.2.2.2.2.2.2.2.2.2.2.1), cell_kept hb (h.2.2.2.2.2.2.2.2.2.2.2.2.1), cell_kept hb (h.2.2.2.2.2.2.2.2.2.2.2.2.2.1), cell_kept hb (h.2.2.2.2.2.2.2.2.2.2.2.2.2.2.1), cell_kept hb (h.2.2.2.2.2.2.2.2.2.2.2.2.2.2.2.1), cell_kept hb (h.2.2.2.2.2.2.2.2.2.2.2.2.2.2.2.2.1), cell_kept hb (h.2.2.2.2.2.2.2.2.2.2.2.2.2.2.2.2.2.1), cell_kept hb (h.2.2.2.2.2.2.2.2.2.2.2.2.2.2.2.2.2.2)⟩
theorem c18_drew {V W : World} {p0 p1 p2 p3 p4 p5 p6 p7 p8 p9 p10 p11 p12 p13 p14 p15 p16 p17 : Addr} {v0 v1 v2 v3 v4 v5 v6 v7 v8 v9 v10 v11 v12 v13 v14 v15 v16 v17 : Value} (h : Hid (Below V.heap.size V W) ∧ W.cell? p0 = some v0 ∧ W.cell? p1 = some v1 ∧ W.cell? p2 = some v2 ∧ W.cell? p3 = some v3 ∧ W.cell? p4 = some v4 ∧ W.cell? p5 = some v5 ∧ W.cell? p6 = some v6 ∧ W.cell? p7 = some v7 ∧ W.cell? p8 = some v8 ∧ W.cell? p9 = some v9 ∧ W.cell? p10 = some v10 ∧ W.cell? p11 = some v11 ∧ W.cell? p12 = some v12 ∧ W.cell? p13 = some v13 ∧ W.cell? p14 = some v14 ∧ W.cell? p15 = some v15 ∧ W.cell? p16 = some v16 ∧ W.cell? p17 = some v17) : Hid (Below V.heap.size V W.drew) ∧ W.drew.cell? p0 = some v0 ∧ W.drew.cell? p1 = some v1 ∧ W.drew.cell? p2 = some v2 ∧ W.drew.cell? p3 = some v3 ∧ W.drew.cell? p4 = some v4 ∧ W.drew.cell? p5 = some v5 ∧ W.drew.cell? p6 = some v6 ∧ W.drew.cell? p7 = some v7 ∧ W.drew.cell? p8 = some v8 ∧ W.drew.cell? p9 = some v9 ∧ W.drew.cell? p10 = some v10 ∧ W.drew.cell? p11 = some v11 ∧ W.drew.cell? p12 = some v12 ∧ W.drew.cell? p13 = some v13 ∧ W.drew.cell? p14 = some v14 ∧ W.drew.cell? p15 = some v15 ∧ W.drew.cell? p16 = some v16 ∧ W.drew.cell? p17 = some v17 :=
  ⟨(unhide h.1).drew, h.2.1, h.2.2.1, h.2.2.2.1, h.2.2.2.2.1, h.2.2.2.2.2.1, h.2.2.2.2.2.2.1, h.2.2.2.2.2.2.2.1, h.2.2.2.2.2.2.2.2.1, h.2.2.2.2.2.2.2.2.2.1, h.2.2.2.2.2.2.2.2.2.2.1, h.2.2.2.2.2.2.2.2.2.2.2.1, h.2.2.2.2.2.2.2.2.2.2.2.2.1, h.2.2.2.2.2.2.2.2.2.2.2.2.2.1, h.2.2.2.2.2.2.2.2.2.2.2.2.2.2.1, h.2.2.2.2.2.2.2.2.2.2.2.2.2.2.2.1, h.2.2.2.2.2.2.2.2.2.2.2.2.2.2.2.2.1, h.2.2.2.2.2.2.2.2.2.2.2.2.2.2.2.2.2.1, h.2.2.2.2.2.2.2.2.2.2.2.2.2.2.2.2.2.2⟩

theorem c19_next {V W W' : World} {p0 p1 p2 p3 p4 p5 p6 p7 p8 p9 p10 p11 p12 p13 p14 p15 p16 p17 p18 : Addr} {v0 v1 v2 v3 v4 v5 v6 v7 v8 v9 v10 v11 v12 v13 v14 v15 v16 v17 v18 : Value} (h : Hid (Below V.heap.size V W) ∧ W.cell? p0 = some v0 ∧ W.cell? p1 = some v1 ∧ W.cell? p2 = some v2 ∧ W.cell? p3 = some v3 ∧ W.cell? p4 = some v4 ∧ W.cell? p5 = some v5 ∧ W.cell? p6 = some v6 ∧ W.cell? p7 = some v7 ∧ W.cell? p8 = some v8 ∧ W.cell? p9 = some v9 ∧ W.cell? p10 = some v10 ∧ W.cell? p11 = some v11 ∧ W.cell? p12 = some v12 ∧ W.cell? p13 = some v13 ∧ W.cell? p14 = some v14 ∧ W.cell? p15 = some v15 ∧ W.cell? p16 = some v16 ∧ W.cell? p17 = some v17 ∧ W.cell? p18 = some v18) (hb : Below W.heap.size W W') : Hid (Below V.heap.size V W') ∧ W'.cell? p0 = some v0 ∧ W'.cell? p1 = some v1 ∧ W'.cell? p2 = some v2 ∧ W'.cell? p3 = some v3 ∧ W'.cell? p4 = some v4 ∧ W'.cell? p5 = some v5 ∧ W'.cell? p6 = some v6 ∧ W'.cell? p7 = some v7 ∧ W'.cell? p8 = some v8 ∧ W'.cell? p9 = some v9 ∧ W'.cell? p10 = some v10 ∧ W'.cell? p11 = some v11 ∧ W'.cell? p12 = some v12 ∧ W'.cell? p13 = some v13 ∧ W'.cell? p14 = some v14 ∧ W'.cell? p15 = some v15 ∧ W'.cell? p16 = some v16 ∧ W'.cell? p17 = some v17 ∧ W'.cell? p18 = some v18 :=
  ⟨chain (unhide h.1) hb, cell_kept hb (h.2.1), cell_kept hb (h.2.2.1), cell_kept hb (h.2.2.2.1), cell_kept hb (h.2.2.2.2.1), cell_kept hb (h.2.2.2.2.2.1), cell_kept hb (h.2.2.2.2.2.2.1), cell_kept hb (h.2.2.2.2.2.2.2.1), cell_kept hb (h.2.2.2.2.2.2.2.2.1), cell_kept hb (h.2.2.2.2.2.2.2.2.2.1), cell_kept hb (h.2.2.2.2.2.2.2.2.2.2.1), cell_kept hb (h.2.2.2.2.2.2.2.2.2.2.2.1), cell_kept hb (h.2.2.2.2.2.2.2.2.2.2.2.2.1), cell_kept hb (h.2.2.2.2.2.2.2.2.2.2.2.2.2.1), cell_kept hb (h.2.2.2.2.2.2.2.2.2.2.2.2.2.2.1), cell_kept hb (h.2.2.2.2.2.2.2.2.2.2.2.2.2.2.2.1), cell_kept hb (h.2.2.2.2.2.2.2.2.2.2.2.2.2.2.2.2.1), cell_kept hb (h.2.2.2.2.2.2.2.2.2.2.2.2.2.2.2.2.2.1), cell_kept hb (h.2.2.2.2.2.2.2.2.2.2.2.2.2.2.2.2.2.2.1), cell_kept hb (h.2.2.2.2.2.2.2.2.2.2.2.2.2.2.2.2.2.2.2)⟩
theorem c19_drew {V W : World} {p0 p1 p2 p3 p4 p5 p6 p7 p8 p9 p10 p11 p12 p13 p14 p15 p16 p17 p18 : Addr} {v0 v1 v2 v3 v4 v5 v6 v7 v8 v9 v10 v11 v12 v13 v14 v15 v16 v17 v18 : Value} (h : Hid (Below V.heap.size V W) ∧ W.cell? p0 = some v0 ∧ W.cell? p1 = some v1 ∧ W.cell? p2 = some v2 ∧ W.cell? p3 = some v3 ∧ W.cell? p4 = some v4 ∧ W.cell? p5 = some v5 ∧ W.cell? p6 = some v6 ∧ W.cell? p7 = some v7 ∧ W.cell? p8 = some v8 ∧ W.cell? p9 = some v9 ∧ W.cell? p10 = some v10 ∧ W.cell? p11 = some v11 ∧ W.cell? p12 = some v12 ∧ W.cell? p13 = some v13 ∧ W.cell? p14 = some v14 ∧ W.cell? p15 = some v15 ∧ W.cell? p16 = some v16 ∧ W.cell? p17 = some v17 ∧ W.cell? p18 = some v18) : Hid (Below V.heap.size V W.drew) ∧ W.drew.cell? p0 = some v0 ∧ W.drew.cell? p1 = some v1 ∧ W.drew.cell? p2 = some v2 ∧ W.drew.cell? p3 = some v3 ∧ W.drew.cell? p4 = some v4 ∧ W.drew.cell? p5 = some v5 ∧ W.drew.cell? p6 = some v6 ∧ W.drew.cell? p7 = some v7 ∧ W.drew.cell? p8 = some v8 ∧ W.drew.cell? p9 = some v9 ∧ W.drew.cell? p10 = some v10 ∧ W.drew.cell? p11 = some v11 ∧ W.drew.cell? p12 = some v12 ∧ W.drew.cell? p13 = some v13 ∧ W.drew.cell? p14 = some v14 ∧ W.drew.cell? p15 = some v15 ∧ W.drew.cell? p16 = some v16 ∧ W.drew.cell? p17 = some v17 ∧ W.drew.cell? p18 = some v18 :=
  ⟨(unhide h.1).drew, h.2.1, h.2.2.1, h.2.2.2.1, h.2.2.2.2.1, h.2.2.2.2.2.1, h.2.2.2.2.2.2.1, h.2.2.2.2.2.2.2.1, h.2.2.2.2.2.2.2.2.1, h.2.2.2.2.2.2.2.2.2.1, h.2.2.2.2.2.2.2.2.2.2.1, h.2.2.2.2.2.2.2.2.2.2.2.1, h.2.2.2.2.2.2.2.2.2.2.2.2.1, h.2.2.2.2.2.2.2.2.2.2.2.2.2.1, h.2.2.2.2.2.2.2.2.2.2.2.2.2.2.1, h.2.2.2.2.2.2.2.2.2.2.2.2.2.2.2.1, h.2.2.2.2.2.2.2.2.2.2.2.2.2.2.2.2.1, h.2.2.2.2.2.2.2.2.2.2.2.2.2.2.2.2.2.1, h.2.2.2.2.2.2.2.2.2.2.2.2.2.2.2.2.2.2.1, h.2.2.2.2.2.2.2.2.2.2.2.2.2.2.2.2.2.2.2⟩

theorem c3_next {V W W' : World} {p0 p1 p2 : Addr} {v0 v1 v2 : Value} (h : Hid (Below V.heap.size V W) ∧ W.cell? p0 = some v0 ∧ W.cell? p1 = some v1 ∧ W.cell? p2 = some v2) (hb : Below W.heap.size W W') : Hid (Below V.heap.size V W') ∧ W'.cell? p0 = some v0 ∧ W'.cell? p1 = some v1 ∧ W'.cell? p2 = some v2 :=
  ⟨chain (unhide h.1) hb, cell_kept hb (h.2.1), cell_kept hb (h.2.2.1), cell_kept hb (h.2.2.2)⟩
theorem c3_drew {V W : World} {p0 p1 p2 : Addr} {v0 v1 v2 : Value} (h : Hid (Below V.heap.size V W) ∧ W.cell? p0 = some v0 ∧ W.cell? p1 = some v1 ∧ W.cell? p2 = some v2) : Hid (Below V.heap.size V W.drew) ∧ W.drew.cell? p0 = some v0 ∧ W.drew.cell? p1 = some v1 ∧ W.drew.cell? p2 = some v2 :=
  ⟨(unhide h.1).drew, h.2.1, h.2.2.1, h.2.2.2⟩

theorem c3_own {V W W' : World} {p0 p1 p2 : Addr} {v0 v1 v2 v : Value} {l : List Txt} (h : Hid (Below V.heap.size V W) ∧ W.cell? p0 = some v0 ∧ W.cell? p1 = some v1 ∧ W.cell? p2 = some v2) (l0 : p0.block < V.heap.size) (l1 : p1.block < V.heap.size) (l2 : p2.block < V.heap.size) (ho : Own W V.heap.size v l) (hg : W.grownBy W' v.ownBlock) :
    Hid (Below V.heap.size V W') ∧ W'.cell? p0 = some v0 ∧ W'.cell? p1 = some v1 ∧ W'.cell? p2 = some v2 :=
  ⟨own_grow (unhide h.1) ho hg, cell_other hg h.2.1 (fun k hk => by have := (own_block ho k hk).1; omega), cell_other hg h.2.2.1 (fun k hk => by have := (own_block ho k hk).1; omega), cell_other hg h.2.2.2 (fun k hk => by have := (own_block ho k hk).1; omega)⟩
theorem takeH {P : Program} {md : Region.Mode} {ops : Array Oper} {Q : Exit → Act → World → Prop} {S : World → Prop} {i d : Nat} {oi : Oper} {v : Value} {fuel : Nat} {listed : Array Bool} {a : Act} {w : World} (hi : ops[i]? = some oi) (hd : oi.dst = some d)
    (hs : Region.noSelect ops = true) (hf : Region.free md ops listed i = true) (hr : (Region.ready md ops listed).contains i = true)
    (hQ : ∀ c a w, Q (.panic c) (a.put (some d) v) w → Q (.panic c) a w) (hy : YieldsIf P ops S oi v a) (hS : S w)
    (h : wpAnyH P md ops Q S fuel (listed.setIfInBounds i true) (a.put (some d) v) w) : wpAnyH P md ops Q S (fuel + 1) listed a w := by
  rw [← hd] at hQ h
  exact wpAnyH_take hi hs hf hr hQ hy hS h
theorem meet_err {a b c : VSet} {e : Int} (h : meetR a b = (c, e)) (he : ¬ e = 0) : e = 3 ∨ checkB a = false ∨ checkB b = false := by
  unfold meetR at h
  cases ha : checkB a <;> cases hb : checkB b <;> simp [ha, hb] at h ⊢
  cases hm : meetO a b with
  | none => rw [hm] at h; simp at h; exact h.2.symm
  | some d => rw [hm] at h; simp at h; exact absurd h.2.symm he
theorem empty_len {s : VSet} (h : emptyB s = true) : s.vals.length = 0 := by unfold emptyB at h; simp at h; simp [h.2]

set_option maxRecDepth 100000 in
set_option maxHeartbeats 16000000 in
theorem walk (m0 n0 q0 : Bool) (u0 : Value) (l0 : List Txt) (lo0 hi0 : Int) (m1 n1 q1 : Bool) (u1 : Value) (l1 : List Txt) (lo1 hi1 : Int) (v : ByteArray) (w : World) (hu0 : Strs w u0 l0) (hu1 : Strs w u1 l1) (hv : v.size ≤ 281474976710656) (hL : Laid w) :
    Calls Tryd.prog 3 #[.agg #[.bool m0, .bool n0, .bool q0, u0, .int .i64 lo0, .int .i64 hi0], .agg #[.bool m1, .bool n1, .bool q1, u1, .int .i64 lo1, .int .i64 hi1], .string v] w fun e w' => e = .returned (.bool true) ∧ Below w.heap.size w w' := by
  have HL := hide hL
  clear hL
  obtain ⟨x, hx⟩ : ∃ x : Txt, v = bytesT x := ⟨v.data.toList, rfl⟩
  have HX : Hid (short x) := by
    show x.length ≤ _
    rw [← bytesT_size, ← hx]; exact hv
  have GX := hide hx
  clear hv hx
  have U0 := hide hu0
  obtain ⟨a0, c0, rfl⟩ := hu0.val
  clear hu0
  obtain ⟨k0, hk0⟩ : ∃ n, n = l0.length := ⟨_, rfl⟩
  rw [← hk0] at U0 ⊢
  have HN0 := hide hk0
  clear hk0
  have U1 := hide hu1
  obtain ⟨a1, c1, rfl⟩ := hu1.val
  clear hu1
  obtain ⟨k1, hk1⟩ : ∃ n, n = l1.length := ⟨_, rfl⟩
  rw [← hk1] at U1 ⊢
  have HN1 := hide hk1
  clear hk1
  obtain ⟨W0, hW0⟩ : ∃ W0, W0 = ((w.alloc (.cells #[.bool m0, .bool n0, .bool q0, .slice a0 k0 c0, .int .i64 lo0, .int .i64 hi0] 24)).alloc (.cells #[.bool m1, .bool n1, .bool q1, .slice a1 k1 c1, .int .i64 lo1, .int .i64 hi1] 24)) := ⟨_, rfl⟩
  have B0 : Hid (Below w.heap.size w W0) := by rw [hW0]; exact ((box_below _).alloc (by simp) _)
  have XA : Hid (Six W0 w.heap.size (.bool m0) (.bool n0) (.bool q0) (.slice a0 k0 c0) (.int .i64 lo0) (.int .i64 hi0)) := by
    rw [hW0]; exact ((six_new w _ _ _ _ _ _ _).below (box_below _))
  have XB : Hid (Six W0 (w.heap.size + 1) (.bool m1) (.bool n1) (.bool q1) (.slice a1 k1 c1) (.int .i64 lo1) (.int .i64 hi1)) := by
    have := six_new (w.alloc (.cells #[.bool m0, .bool n0, .bool q0, .slice a0 k0 c0, .int .i64 lo0, .int .i64 hi0] 24)) (.bool m1) (.bool n1) (.bool q1) (.slice a1 k1 c1) (.int .i64 lo1) (.int .i64 hi1) 24
    rw [show (w.alloc (.cells #[.bool m0, .bool n0, .bool q0, .slice a0 k0 c0, .int .i64 lo0, .int .i64 hi0] 24)).heap.size = w.heap.size + 1 by simp] at this
    rw [hW0]; exact this
  have ZW0 : Hid (W0.heap.size = w.heap.size + 2) := by rw [hW0]; show _ = _; simp
  have GW := hide hW0
  clear hW0
  obtain ⟨R, hR⟩ : ∃ r, r = meetR ⟨m0, n0, q0, l0, lo0, hi0⟩ ⟨m1, n1, q1, l1, lo1, hi1⟩ := ⟨_, rfl⟩
  have GAB := hide hR
  clear hR
  obtain ⟨⟨pm, pn, pq, pv, plo, phi⟩, pe⟩ := R
  go_enter Tryd.func3, Tryd.ntmps3
  go_wp2_with fail
  rw [← unhide GW]
  refine (meet_any m0 n0 q0 _ l0 lo0 hi0 m1 n1 q1 _ l1 lo1 hi1 _ ((unhide HL).below (unhide B0)) ((unhide U0).below (unhide B0)) ((unhide U1).below (unhide B0))).mono ?_
  rintro e w1 ⟨x1, y1, he, ho1, hw1⟩
  rw [← unhide GAB] at he ho1
  unfold tells at he
  simp only at he ho1
  obtain ⟨g1, hg1⟩ : ∃ n, n = pv.length := ⟨_, rfl⟩
  rw [← hg1] at he ho1
  have HNP := hide hg1
  clear hg1
  subst he
  have ZW1 : Hid (w.heap.size + 2 ≤ w1.heap.size) := by rw [← unhide ZW0]; exact hw1.size
  obtain ⟨W3, hW3⟩ : ∃ W3, W3 = w1.alloc (.cells #[.bool pm, .bool pn, .bool pq, .slice x1 g1 y1, .int .i64 plo, .int .i64 phi] 24) := ⟨_, rfl⟩
  have V1 : Hid (Strs W3 (.slice x1 g1 y1) pv) := by rw [hW3]; exact (Own.strs ho1).below (box_below _)
  have B1 : Hid (Below w.heap.size w W3) := by rw [hW3]; exact chain (chain (unhide B0) hw1) (box_below _)
  have XC : Hid (Six W3 w1.heap.size (.bool pm) (.bool pn) (.bool pq) (.slice x1 g1 y1) (.int .i64 plo) (.int .i64 phi)) := by rw [hW3]; exact six_new _ _ _ _ _ _ _ _
  have XA' : Hid (Six W3 w.heap.size (.bool m0) (.bool n0) (.bool q0) (.slice a0 k0 c0) (.int .i64 lo0) (.int .i64 hi0)) := by rw [hW3]; exact ((unhide XA).below hw1).below (box_below _)
  have XB' : Hid (Six W3 (w.heap.size + 1) (.bool m1) (.bool n1) (.bool q1) (.slice a1 k1 c1) (.int .i64 lo1) (.int .i64 hi1)) := by rw [hW3]; exact ((unhide XB).below hw1).below (box_below _)
  have ZW3 : Hid (W3.heap.size = w1.heap.size + 1) := by rw [hW3]; show _ = _; simp
  have GW3 := hide hW3
  clear hW3 hw1 ho1 XA XB B0
  by_cases hpe : pe = 0
  rotate_left
  · have ht : (pe != 0) = true := bne_iff_ne.2 hpe
    have herr := hide (meet_err (unhide GAB).symm hpe)
    clear hpe
    go_wp2_with fail
    rw [← unhide GW3]
    refine (live_any _ ((unhide HL).below (unhide B1))).mono ?_
    rintro e w2 ⟨rfl, hw2⟩
    have B2 := hide (chain (unhide B1) hw2)
    have YA := hide ((unhide XA').below hw2)
    have YB := hide ((unhide XB').below hw2)
    clear hw2 B1 XA' XB'
    by_cases h3 : pe = 3
    · subst h3
      go_wp2_with fail
      go_ret
      exact ⟨rfl, unhide B2⟩
    have h3' : (pe == 3) = false := beq_eq_false_iff_ne.2 h3
    obtain ⟨qa, hqa⟩ : ∃ q, q = checkB ⟨m0, n0, q0, l0, lo0, hi0⟩ := ⟨_, rfl⟩
    obtain ⟨qb, hqb⟩ : ∃ q, q = checkB ⟨m1, n1, q1, l1, lo1, hi1⟩ := ⟨_, rfl⟩
    have hor : Hid (qa = false ∨ qb = false) := by
      rw [hqa, hqb]
      rcases unhide herr with h | h
      · exact absurd h h3
      · exact h
    have QA := hide hqa
    have QB := hide hqb
    clear hqa hqb h3
    obtain ⟨b0, b1, b2, b3, b4, b5⟩ := unhide YA
    go_wp2_with fail
    clear b0 b1 b2 b3 b4 b5
    refine (check_any m0 n0 q0 _ l0 lo0 hi0 _ ((unhide HL).below (unhide B2)) ((unhide U0).below (unhide B2))).mono ?_
    rintro e w3 ⟨he, hw3⟩
    rw [← unhide QA] at he
    subst he
    have B3 := hide (chain (unhide B2) hw3)
    have YB2 := hide ((unhide YB).below hw3)
    clear hw3 B2 YB
    cases qa
    · rw [show errC false = 1 from rfl]
      go_wp2_with fail
      go_ret
      exact ⟨rfl, unhide B3⟩
    · rw [show errC true = 0 from rfl]
      obtain rfl : qb = false := by
        rcases unhide hor with h | h
        · cases h
        · exact h
      obtain ⟨b0, b1, b2, b3, b4, b5⟩ := unhide YB2
      go_wp2_with fail
      clear b0 b1 b2 b3 b4 b5
      refine (check_any m1 n1 q1 _ l1 lo1 hi1 _ ((unhide HL).below (unhide B3)) ((unhide U1).below (unhide B3))).mono ?_
      rintro e w4 ⟨he, hw4⟩
      rw [← unhide QB] at he
      subst he
      have B4 := hide (chain (unhide B3) hw4)
      clear hw4 B3
      rw [show errC false = 1 from rfl]
      go_wp2_with fail
      go_ret
      exact ⟨rfl, unhide B4⟩
  subst hpe
  obtain ⟨hck, hmiss, hhas⟩ := meetR_spec (unhide GAB).symm
  simp only at hmiss
  have HCK := hide hck
  have HM := hide hmiss
  have HHAS := hide hhas
  have hla : Hid (k0 ≤ 64 ∧ k1 ≤ 64 ∧ g1 ≤ 64) := by
    obtain ⟨h1, h2, _⟩ := meetR_ok (unhide GAB).symm
    rw [unhide HN0, unhide HN1, unhide HNP]
    exact ⟨check_len h1, check_len h2, check_len hck⟩
  clear hck hhas hmiss
  have hasA : Hid (∀ (t : Txt) (W : World), short t → Hid (Below W3.heap.size W3 W) → Calls Tryd.prog 9 #[.agg #[.bool m0, .bool n0, .bool q0, .slice a0 k0 c0, .int .i64 lo0, .int .i64 hi0], .string (bytesT t)] W fun e w' => e = .returned (.bool (hasB ⟨m0, n0, q0, l0, lo0, hi0⟩ t)) ∧ Below W.heap.size W w') := fun t W ht hb => has_any m0 n0 q0 _ l0 lo0 hi0 t W ((unhide HL).below (chain (unhide B1) (unhide hb))) ((unhide U0).below (chain (unhide B1) (unhide hb))) ht
  have hasB1 : Hid (∀ (t : Txt) (W : World), short t → Hid (Below W3.heap.size W3 W) → Calls Tryd.prog 9 #[.agg #[.bool m1, .bool n1, .bool q1, .slice a1 k1 c1, .int .i64 lo1, .int .i64 hi1], .string (bytesT t)] W fun e w' => e = .returned (.bool (hasB ⟨m1, n1, q1, l1, lo1, hi1⟩ t)) ∧ Below W.heap.size W w') := fun t W ht hb => has_any m1 n1 q1 _ l1 lo1 hi1 t W ((unhide HL).below (chain (unhide B1) (unhide hb))) ((unhide U1).below (chain (unhide B1) (unhide hb))) ht
  have hasC : Hid (∀ (t : Txt) (W : World), short t → Hid (Below W3.heap.size W3 W) → Calls Tryd.prog 9 #[.agg #[.bool pm, .bool pn, .bool pq, .slice x1 g1 y1, .int .i64 plo, .int .i64 phi], .string (bytesT t)] W fun e w' => e = .returned (.bool (hasB ⟨pm, pn, pq, pv, plo, phi⟩ t)) ∧ Below W.heap.size W w') := fun t W ht hb => has_any pm pn pq _ pv plo phi t W ((unhide HL).below (chain (unhide B1) (unhide hb))) ((unhide V1).below (unhide hb)) ht
  have S0 : Hid (Hid (Below W3.heap.size W3 W3) ∧ W3.cell? ⟨w.heap.size, 0, none⟩ = some (.bool m0) ∧ W3.cell? ⟨w.heap.size, 1, none⟩ = some (.bool n0) ∧ W3.cell? ⟨w.heap.size, 2, none⟩ = some (.bool q0) ∧ W3.cell? ⟨w.heap.size, 3, none⟩ = some (.slice a0 k0 c0) ∧ W3.cell? ⟨w.heap.size, 4, none⟩ = some (.int .i64 lo0) ∧ W3.cell? ⟨w.heap.size, 5, none⟩ = some (.int .i64 hi0) ∧ W3.cell? ⟨w.heap.size + 1, 0, none⟩ = some (.bool m1) ∧ W3.cell? ⟨w.heap.size + 1, 1, none⟩ = some (.bool n1) ∧ W3.cell? ⟨w.heap.size + 1, 2, none⟩ = some (.bool q1) ∧ W3.cell? ⟨w.heap.size + 1, 3, none⟩ = some (.slice a1 k1 c1) ∧ W3.cell? ⟨w.heap.size + 1, 4, none⟩ = some (.int .i64 lo1) ∧ W3.cell? ⟨w.heap.size + 1, 5, none⟩ = some (.int .i64 hi1) ∧ W3.cell? ⟨w1.heap.size, 0, none⟩ = some (.bool pm) ∧ W3.cell? ⟨w1.heap.size, 1, none⟩ = some (.bool pn) ∧ W3.cell? ⟨w1.heap.size, 2, none⟩ = some (.bool pq) ∧ W3.cell? ⟨w1.heap.size, 3, none⟩ = some (.slice x1 g1 y1) ∧ W3.cell? ⟨w1.heap.size, 4, none⟩ = some (.int .i64 plo) ∧ W3.cell? ⟨w1.heap.size, 5, none⟩ = some (.int .i64 phi)) := by
    obtain ⟨a0, a1, a2, a3, a4, a5⟩ := unhide XA'
    obtain ⟨b0, b1, b2, b3, b4, b5⟩ := unhide XB'
    obtain ⟨c0, c1, c2, c3, c4, c5⟩ := unhide XC
    exact ⟨Below.refl _ _, a0, a1, a2, a3, a4, a5, b0, b1, b2, b3, b4, b5, c0, c1, c2, c3, c4, c5⟩
  go_wp2_with fail
  rw [← unhide GW3]
  go_cut [9] (fun y W => y = .bool true ∧ Hid (Below W3.heap.size W3 W))
  case first =>
    have hS := unhide S0
    obtain ⟨ha, hha⟩ : ∃ q, q = hasB ⟨m0, n0, q0, l0, lo0, hi0⟩ x := ⟨_, rfl⟩
    obtain ⟨hb, hhb⟩ : ∃ q, q = hasB ⟨m1, n1, q1, l1, lo1, hi1⟩ x := ⟨_, rfl⟩
    have hhc : hasB ⟨pm, pn, pq, pv, plo, phi⟩ x = (ha && hb) := by rw [hha, hhb]; exact unhide HHAS x
    have cA : Hid (∀ W, Hid (Below W3.heap.size W3 W) ∧ W.cell? ⟨w.heap.size, 0, none⟩ = some (.bool m0) ∧ W.cell? ⟨w.heap.size, 1, none⟩ = some (.bool n0) ∧ W.cell? ⟨w.heap.size, 2, none⟩ = some (.bool q0) ∧ W.cell? ⟨w.heap.size, 3, none⟩ = some (.slice a0 k0 c0) ∧ W.cell? ⟨w.heap.size, 4, none⟩ = some (.int .i64 lo0) ∧ W.cell? ⟨w.heap.size, 5, none⟩ = some (.int .i64 hi0) ∧ W.cell? ⟨w.heap.size + 1, 0, none⟩ = some (.bool m1) ∧ W.cell? ⟨w.heap.size + 1, 1, none⟩ = some (.bool n1) ∧ W.cell? ⟨w.heap.size + 1, 2, none⟩ = some (.bool q1) ∧ W.cell? ⟨w.heap.size + 1, 3, none⟩ = some (.slice a1 k1 c1) ∧ W.cell? ⟨w.heap.size + 1, 4, none⟩ = some (.int .i64 lo1) ∧ W.cell? ⟨w.heap.size + 1, 5, none⟩ = some (.int .i64 hi1) ∧ W.cell? ⟨w1.heap.size, 0, none⟩ = some (.bool pm) ∧ W.cell? ⟨w1.heap.size, 1, none⟩ = some (.bool pn) ∧ W.cell? ⟨w1.heap.size, 2, none⟩ = some (.bool pq) ∧ W.cell? ⟨w1.heap.size, 3, none⟩ = some (.slice x1 g1 y1) ∧ W.cell? ⟨w1.heap.size, 4, none⟩ = some (.int .i64 plo) ∧ W.cell? ⟨w1.heap.size, 5, none⟩ = some (.int .i64 phi) → Calls Tryd.prog 9 #[.agg #[.bool m0, .bool n0, .bool q0, .slice a0 k0 c0, .int .i64 lo0, .int .i64 hi0], .string v] W fun e w' => e = .returned (.bool ha) ∧ Below W.heap.size W w') := fun W hs => by rw [hha, unhide GX]; exact unhide hasA x W (unhide HX) hs.1
    have cB : Hid (∀ W, Hid (Below W3.heap.size W3 W) ∧ W.cell? ⟨w.heap.size, 0, none⟩ = some (.bool m0) ∧ W.cell? ⟨w.heap.size, 1, none⟩ = some (.bool n0) ∧ W.cell? ⟨w.heap.size, 2, none⟩ = some (.bool q0) ∧ W.cell? ⟨w.heap.size, 3, none⟩ = some (.slice a0 k0 c0) ∧ W.cell? ⟨w.heap.size, 4, none⟩ = some (.int .i64 lo0) ∧ W.cell? ⟨w.heap.size, 5, none⟩ = some (.int .i64 hi0) ∧ W.cell? ⟨w.heap.size + 1, 0, none⟩ = some (.bool m1) ∧ W.cell? ⟨w.heap.size + 1, 1, none⟩ = some (.bool n1) ∧ W.cell? ⟨w.heap.size + 1, 2, none⟩ = some (.bool q1) ∧ W.cell? ⟨w.heap.size + 1, 3, none⟩ = some (.slice a1 k1 c1) ∧ W.cell? ⟨w.heap.size + 1, 4, none⟩ = some (.int .i64 lo1) ∧ W.cell? ⟨w.heap.size + 1, 5, none⟩ = some (.int .i64 hi1) ∧ W.cell? ⟨w1.heap.size, 0, none⟩ = some (.bool pm) ∧ W.cell? ⟨w1.heap.size, 1, none⟩ = some (.bool pn) ∧ W.cell? ⟨w1.heap.size, 2, none⟩ = some (.bool pq) ∧ W.cell? ⟨w1.heap.size, 3, none⟩ = some (.slice x1 g1 y1) ∧ W.cell? ⟨w1.heap.size, 4, none⟩ = some (.int .i64 plo) ∧ W.cell? ⟨w1.heap.size, 5, none⟩ = some (.int .i64 phi) → Calls Tryd.prog 9 #[.agg #[.bool m1, .bool n1, .bool q1, .slice a1 k1 c1, .int .i64 lo1, .int .i64 hi1], .string v] W fun e w' => e = .returned (.bool hb) ∧ Below W.heap.size W w') := fun W hs => by rw [hhb, unhide GX]; exact unhide hasB1 x W (unhide HX) hs.1
    have cC : Hid (∀ W, Hid (Below W3.heap.size W3 W) ∧ W.cell? ⟨w.heap.size, 0, none⟩ = some (.bool m0) ∧ W.cell? ⟨w.heap.size, 1, none⟩ = some (.bool n0) ∧ W.cell? ⟨w.heap.size, 2, none⟩ = some (.bool q0) ∧ W.cell? ⟨w.heap.size, 3, none⟩ = some (.slice a0 k0 c0) ∧ W.cell? ⟨w.heap.size, 4, none⟩ = some (.int .i64 lo0) ∧ W.cell? ⟨w.heap.size, 5, none⟩ = some (.int .i64 hi0) ∧ W.cell? ⟨w.heap.size + 1, 0, none⟩ = some (.bool m1) ∧ W.cell? ⟨w.heap.size + 1, 1, none⟩ = some (.bool n1) ∧ W.cell? ⟨w.heap.size + 1, 2, none⟩ = some (.bool q1) ∧ W.cell? ⟨w.heap.size + 1, 3, none⟩ = some (.slice a1 k1 c1) ∧ W.cell? ⟨w.heap.size + 1, 4, none⟩ = some (.int .i64 lo1) ∧ W.cell? ⟨w.heap.size + 1, 5, none⟩ = some (.int .i64 hi1) ∧ W.cell? ⟨w1.heap.size, 0, none⟩ = some (.bool pm) ∧ W.cell? ⟨w1.heap.size, 1, none⟩ = some (.bool pn) ∧ W.cell? ⟨w1.heap.size, 2, none⟩ = some (.bool pq) ∧ W.cell? ⟨w1.heap.size, 3, none⟩ = some (.slice x1 g1 y1) ∧ W.cell? ⟨w1.heap.size, 4, none⟩ = some (.int .i64 plo) ∧ W.cell? ⟨w1.heap.size, 5, none⟩ = some (.int .i64 phi) → Calls Tryd.prog 9 #[.agg #[.bool pm, .bool pn, .bool pq, .slice x1 g1 y1, .int .i64 plo, .int .i64 phi], .string v] W fun e w' => e = .returned (.bool (ha && hb)) ∧ Below W.heap.size W w') := fun W hs => by rw [← hhc, unhide GX]; exact unhide hasC x W (unhide HX) hs.1
    clear hha hhb hhc hasA hasB1 hasC HHAS HCK HM GAB hla U0 U1 V1 HX XA' XB' XC HL B1 S0 GX GW GW3 HN0 HN1 HNP
    cases ha
    · rw [Bool.false_and] at cC
      have hS2 := hide hS
      obtain ⟨_, f0, f1, f2, f3, f4, f5, f6, f7, f8, f9, f10, f11, f12, f13, f14, f15, f16, f17⟩ := hS
      first
        | (go_region_with (first
            | (go_at_call 9; with_reducible refine (unhide cC _ ?_).mono ?_; (first | exact unhide hS2 | exact c18_drew (unhide hS2)); rintro e w4 ⟨rfl, hw4⟩; have hS4 := hide (c18_next (c18_drew (unhide hS2)) hw4); clear hw4; obtain ⟨_, g0, g1, g2, g3, g4, g5, g6, g7, g8, g9, g10, g11, g12, g13, g14, g15, g16, g17⟩ := unhide hS4)
            | (go_at_call 9; with_reducible refine (unhide cA _ ?_).mono ?_; exact unhide hS4; rintro e w5 ⟨rfl, hw5⟩; have hS5 := hide (c18_next (unhide hS4) hw5); clear hw5)))
        | fail
      all_goals
        go_wp2_with fail
        go_meet
        exact ⟨rfl, (unhide hS5).1⟩
    · rw [Bool.true_and] at cC
      cases hb
      · first
          | (go_region_held3 (fun W => Hid (Below W3.heap.size W3 W) ∧ W.cell? ⟨w.heap.size, 0, none⟩ = some (.bool m0) ∧ W.cell? ⟨w.heap.size, 1, none⟩ = some (.bool n0) ∧ W.cell? ⟨w.heap.size, 2, none⟩ = some (.bool q0) ∧ W.cell? ⟨w.heap.size, 3, none⟩ = some (.slice a0 k0 c0) ∧ W.cell? ⟨w.heap.size, 4, none⟩ = some (.int .i64 lo0) ∧ W.cell? ⟨w.heap.size, 5, none⟩ = some (.int .i64 hi0) ∧ W.cell? ⟨w.heap.size + 1, 0, none⟩ = some (.bool m1) ∧ W.cell? ⟨w.heap.size + 1, 1, none⟩ = some (.bool n1) ∧ W.cell? ⟨w.heap.size + 1, 2, none⟩ = some (.bool q1) ∧ W.cell? ⟨w.heap.size + 1, 3, none⟩ = some (.slice a1 k1 c1) ∧ W.cell? ⟨w.heap.size + 1, 4, none⟩ = some (.int .i64 lo1) ∧ W.cell? ⟨w.heap.size + 1, 5, none⟩ = some (.int .i64 hi1) ∧ W.cell? ⟨w1.heap.size, 0, none⟩ = some (.bool pm) ∧ W.cell? ⟨w1.heap.size, 1, none⟩ = some (.bool pn) ∧ W.cell? ⟨w1.heap.size, 2, none⟩ = some (.bool pq) ∧ W.cell? ⟨w1.heap.size, 3, none⟩ = some (.slice x1 g1 y1) ∧ W.cell? ⟨w1.heap.size, 4, none⟩ = some (.int .i64 plo) ∧ W.cell? ⟨w1.heap.size, 5, none⟩ = some (.int .i64 phi))
              (first | (with_reducible exact hS) | (with_reducible assumption) | (with_reducible refine c18_drew ?_; with_reducible assumption) | (with_reducible refine c18_next ?_ hw; with_reducible assumption))
              (first | (go_at_call 9; with_reducible refine (unhide cA _ ?_).mono ?_; with_reducible assumption; rintro e w2 ⟨rfl, hw⟩) | (go_at_call 9; with_reducible refine (unhide cB _ ?_).mono ?_; with_reducible assumption; rintro e w3 ⟨rfl, hw⟩) | (go_at_call 9; with_reducible refine (unhide cC _ ?_).mono ?_; with_reducible assumption; rintro e w4 ⟨rfl, hw⟩)))
          | fail
        all_goals
          rename_i hH
          go_wp2_with fail
          go_meet
          exact ⟨rfl, hH.1⟩
      · first
          | (go_region_held3 (fun W => Hid (Below W3.heap.size W3 W) ∧ W.cell? ⟨w.heap.size, 0, none⟩ = some (.bool m0) ∧ W.cell? ⟨w.heap.size, 1, none⟩ = some (.bool n0) ∧ W.cell? ⟨w.heap.size, 2, none⟩ = some (.bool q0) ∧ W.cell? ⟨w.heap.size, 3, none⟩ = some (.slice a0 k0 c0) ∧ W.cell? ⟨w.heap.size, 4, none⟩ = some (.int .i64 lo0) ∧ W.cell? ⟨w.heap.size, 5, none⟩ = some (.int .i64 hi0) ∧ W.cell? ⟨w.heap.size + 1, 0, none⟩ = some (.bool m1) ∧ W.cell? ⟨w.heap.size + 1, 1, none⟩ = some (.bool n1) ∧ W.cell? ⟨w.heap.size + 1, 2, none⟩ = some (.bool q1) ∧ W.cell? ⟨w.heap.size + 1, 3, none⟩ = some (.slice a1 k1 c1) ∧ W.cell? ⟨w.heap.size + 1, 4, none⟩ = some (.int .i64 lo1) ∧ W.cell? ⟨w.heap.size + 1, 5, none⟩ = some (.int .i64 hi1) ∧ W.cell? ⟨w1.heap.size, 0, none⟩ = some (.bool pm) ∧ W.cell? ⟨w1.heap.size, 1, none⟩ = some (.bool pn) ∧ W.cell? ⟨w1.heap.size, 2, none⟩ = some (.bool pq) ∧ W.cell? ⟨w1.heap.size, 3, none⟩ = some (.slice x1 g1 y1) ∧ W.cell? ⟨w1.heap.size, 4, none⟩ = some (.int .i64 plo) ∧ W.cell? ⟨w1.heap.size, 5, none⟩ = some (.int .i64 phi))
              (first | (with_reducible exact hS) | (with_reducible assumption) | (with_reducible refine c18_drew ?_; with_reducible assumption) | (with_reducible refine c18_next ?_ hw; with_reducible assumption))
              (first | (go_at_call 9; with_reducible refine (unhide cA _ ?_).mono ?_; with_reducible assumption; rintro e w2 ⟨rfl, hw⟩) | (go_at_call 9; with_reducible refine (unhide cB _ ?_).mono ?_; with_reducible assumption; rintro e w3 ⟨rfl, hw⟩) | (go_at_call 9; with_reducible refine (unhide cC _ ?_).mono ?_; with_reducible assumption; rintro e w4 ⟨rfl, hw⟩)))
          | fail
        all_goals
          rename_i hH
          go_wp2_with fail
          go_meet
          exact ⟨rfl, hH.1⟩
  case rest =>
    obtain ⟨rfl, hbel⟩ := hcut
    have S1 := hide (c18_next (unhide S0) (unhide hbel))
    obtain ⟨_, _, _, _, fa, _, _, _, _, _, fb, _, _, _, _, _, fc, _, _⟩ := unhide S1
    have la := World.block_lt_of_cell? _ _ fa
    have lb := World.block_lt_of_cell? _ _ fb
    have lc := World.block_lt_of_cell? _ _ fc
    simp only at la lb lc
    have hS := And.intro (show Hid (Below wc.heap.size wc wc) from Below.refl _ _) (And.intro fa (And.intro fb fc))
    have srcA : Hid (∀ W, (Hid (Below wc.heap.size wc W) ∧ W.cell? ⟨w.heap.size, 3, none⟩ = some (.slice a0 k0 c0) ∧ W.cell? ⟨w.heap.size + 1, 3, none⟩ = some (.slice a1 k1 c1) ∧ W.cell? ⟨w1.heap.size, 3, none⟩ = some (.slice x1 g1 y1)) → Strs W (.slice a0 k0 c0) l0) := fun W h => ((unhide U0).below (unhide B1)).below (chain (unhide hbel) (unhide h.1))
    have srcB : Hid (∀ W, (Hid (Below wc.heap.size wc W) ∧ W.cell? ⟨w.heap.size, 3, none⟩ = some (.slice a0 k0 c0) ∧ W.cell? ⟨w.heap.size + 1, 3, none⟩ = some (.slice a1 k1 c1) ∧ W.cell? ⟨w1.heap.size, 3, none⟩ = some (.slice x1 g1 y1)) → Strs W (.slice a1 k1 c1) l1) := fun W h => ((unhide U1).below (unhide B1)).below (chain (unhide hbel) (unhide h.1))
    have srcC : Hid (∀ W, (Hid (Below wc.heap.size wc W) ∧ W.cell? ⟨w.heap.size, 3, none⟩ = some (.slice a0 k0 c0) ∧ W.cell? ⟨w.heap.size + 1, 3, none⟩ = some (.slice a1 k1 c1) ∧ W.cell? ⟨w1.heap.size, 3, none⟩ = some (.slice x1 g1 y1)) → Strs W (.slice x1 g1 y1) pv) := fun W h => (unhide V1).below (chain (unhide hbel) (unhide h.1))
    have own0 := hide ((own_empty wc).below (Below.refl _ _).drew)
    have hSd := hide (c3_drew (c3_next hS (box_below (.cells #[] 9))))
    have cOwn : Hid (∀ (W W' : World) (v : Value) (l : List Txt), (Hid (Below wc.heap.size wc W) ∧ W.cell? ⟨w.heap.size, 3, none⟩ = some (.slice a0 k0 c0) ∧ W.cell? ⟨w.heap.size + 1, 3, none⟩ = some (.slice a1 k1 c1) ∧ W.cell? ⟨w1.heap.size, 3, none⟩ = some (.slice x1 g1 y1)) → Own W wc.heap.size v l → W.grownBy W' v.ownBlock → (Hid (Below wc.heap.size wc W') ∧ W'.cell? ⟨w.heap.size, 3, none⟩ = some (.slice a0 k0 c0) ∧ W'.cell? ⟨w.heap.size + 1, 3, none⟩ = some (.slice a1 k1 c1) ∧ W'.cell? ⟨w1.heap.size, 3, none⟩ = some (.slice x1 g1 y1))) := fun W W' v l h ho hg => c3_own h la lb lc ho hg
    have hl0 := hide (show ([] : List Txt).length + l0.length ≤ 8796093022208 by rw [← unhide HN0]; have := unhide hla; simp; omega)
    have hl1 := hide (show ([] ++ l0 : List Txt).length + l1.length ≤ 8796093022208 by rw [← unhide HN1]; have := unhide hla; have := unhide HN0; simp; omega)
    have hl2 := hide (show ([] ++ l0 ++ l1 : List Txt).length + pv.length ≤ 8796093022208 by rw [← unhide HNP]; have := unhide hla; have := unhide HN0; have := unhide HN1; simp; omega)
    go_wp2_with fail
    first
      | (go_region_held3 (fun W => Hid (Below wc.heap.size wc W) ∧ W.cell? ⟨w.heap.size, 3, none⟩ = some (.slice a0 k0 c0) ∧ W.cell? ⟨w.heap.size + 1, 3, none⟩ = some (.slice a1 k1 c1) ∧ W.cell? ⟨w1.heap.size, 3, none⟩ = some (.slice x1 g1 y1))
          (first | (with_reducible exact hS) | (with_reducible assumption) | (with_reducible refine c3_drew ?_; with_reducible assumption) | (with_reducible refine c3_next ?_ (box_below _); with_reducible assumption) | (with_reducible refine c3_drew (c3_next ?_ (box_below _)); with_reducible assumption))
          (first
            | ((refine step_append_strs (by rfl) _ _ (by rfl) wc.heap.size (.slice (some ⟨wc.heap.size, 0, none⟩) 0 0) [] (by rfl) (unhide own0) (.slice a0 k0 c0) l0 (by rfl) (unhide srcA _ (unhide hSd)) (unhide hl0) (unhide (unhide hSd).1).size ?_; intro v1 wA hown1 hg1; have hS1 := unhide cOwn _ _ _ _ (unhide hSd) (unhide own0) hg1))
            | ((refine step_append_strs (by rfl) _ _ (by rfl) wc.heap.size v1 ([] ++ l0) (by rfl) hown1 (.slice a1 k1 c1) l1 (by rfl) (unhide srcB _ hS1) (unhide hl1) (unhide hS1.1).size ?_; intro v2 wB hown2 hg2; have hS2 := unhide cOwn _ _ _ _ hS1 hown1 hg2))
            | ((refine step_append_strs (by rfl) _ _ (by rfl) wc.heap.size v2 ([] ++ l0 ++ l1) (by rfl) hown2 (.slice x1 g1 y1) pv (by rfl) (unhide srcC _ hS2) (unhide hl2) (unhide hS2.1).size ?_; intro v3 wC hown3 hg3; have hS3 := unhide cOwn _ _ _ _ hS2 hown2 hg3))))
      | fail
    have SC := hide (c18_next (unhide S1) (unhide hS3.1))
    have HALL := hide hown3.strs
    obtain ⟨za, zc, hze⟩ := hown3.strs.val
    obtain ⟨na, hna⟩ : ∃ n, n = ([] ++ l0 ++ l1 ++ pv).length := ⟨_, rfl⟩
    rw [← hna] at hze
    have HNA := hide hna
    have hnb : na ≤ 192 := by
      rw [hna]
      have h1 := unhide hla
      have h2 := unhide HN0
      have h3 := unhide HN1
      have h4 := unhide HNP
      simp; omega
    clear hna
    subst hze
    clear hg1 hg2 hg3 hown1 hown2 hown3 hS1 hS2 hS3 hS fa fb fc la lb lc srcA srcB srcC cOwn own0 hSd hl0 hl1 hl2
    go_wp2_with fail
    go_loopw [11] (fun i W => ∃ j : Nat, j ≤ na ∧ i = .int .i64 j ∧ Hid (Below wC.heap.size wC W)) (fun i _ => na - (intOf i).toNat)
    case atStart => exact ⟨0, Nat.zero_le _, rfl, Below.refl _ _⟩
    case round =>
      obtain ⟨j, hj, rfl, hbel2⟩ := hrel
      have S9 := hide (c18_next (unhide SC) (unhide hbel2))
      by_cases hlt : j < na
      · have hlj : j < ([] ++ l0 ++ l1 ++ pv).length := by rw [← unhide HNA]; exact hlt
        obtain ⟨bb, oo, hza, hcell⟩ : ∃ b o, za = some ⟨b, o, none⟩ ∧ wr.cell? ⟨b, o + j, none⟩ = some (.string (bytesT ([] ++ l0 ++ l1 ++ pv)[j])) := by
          rcases ((unhide HALL).below (unhide hbel2)).open with ⟨_, _, hnil, _⟩ | ⟨b, o, _, _, hslice, hcell⟩
          · rw [hnil] at hlj; exact absurd hlj (Nat.not_lt_zero _)
          · exact ⟨b, o, by injection hslice, hcell j hlj⟩
        subst hza
        have hst : Hid (short ([] ++ l0 ++ l1 ++ pv)[j]) := (unhide HALL).short _ (List.getElem_mem hlj)
        obtain ⟨t, ht⟩ : ∃ t, t = ([] ++ l0 ++ l1 ++ pv)[j] := ⟨_, rfl⟩
        rw [← ht] at hcell hst
        clear ht hlj
        obtain ⟨X, hX⟩ : ∃ X, X = bytesT t := ⟨_, rfl⟩
        rw [← hX] at hcell
        obtain ⟨ha, hha⟩ : ∃ q, q = hasB ⟨m0, n0, q0, l0, lo0, hi0⟩ t := ⟨_, rfl⟩
        obtain ⟨hb, hhb⟩ : ∃ q, q = hasB ⟨m1, n1, q1, l1, lo1, hi1⟩ t := ⟨_, rfl⟩
        have hhc : hasB ⟨pm, pn, pq, pv, plo, phi⟩ t = (ha && hb) := by rw [hha, hhb]; exact unhide HHAS t
        have hw3r := hide (unhide S9).1
        have cA : Hid (∀ W, Hid (Below wr.heap.size wr W) ∧ W.cell? ⟨bb, oo + j, none⟩ = some (.string X) ∧ W.cell? ⟨w.heap.size, 0, none⟩ = some (.bool m0) ∧ W.cell? ⟨w.heap.size, 1, none⟩ = some (.bool n0) ∧ W.cell? ⟨w.heap.size, 2, none⟩ = some (.bool q0) ∧ W.cell? ⟨w.heap.size, 3, none⟩ = some (.slice a0 k0 c0) ∧ W.cell? ⟨w.heap.size, 4, none⟩ = some (.int .i64 lo0) ∧ W.cell? ⟨w.heap.size, 5, none⟩ = some (.int .i64 hi0) ∧ W.cell? ⟨w.heap.size + 1, 0, none⟩ = some (.bool m1) ∧ W.cell? ⟨w.heap.size + 1, 1, none⟩ = some (.bool n1) ∧ W.cell? ⟨w.heap.size + 1, 2, none⟩ = some (.bool q1) ∧ W.cell? ⟨w.heap.size + 1, 3, none⟩ = some (.slice a1 k1 c1) ∧ W.cell? ⟨w.heap.size + 1, 4, none⟩ = some (.int .i64 lo1) ∧ W.cell? ⟨w.heap.size + 1, 5, none⟩ = some (.int .i64 hi1) ∧ W.cell? ⟨w1.heap.size, 0, none⟩ = some (.bool pm) ∧ W.cell? ⟨w1.heap.size, 1, none⟩ = some (.bool pn) ∧ W.cell? ⟨w1.heap.size, 2, none⟩ = some (.bool pq) ∧ W.cell? ⟨w1.heap.size, 3, none⟩ = some (.slice x1 g1 y1) ∧ W.cell? ⟨w1.heap.size, 4, none⟩ = some (.int .i64 plo) ∧ W.cell? ⟨w1.heap.size, 5, none⟩ = some (.int .i64 phi) → Calls Tryd.prog 9 #[.agg #[.bool m0, .bool n0, .bool q0, .slice a0 k0 c0, .int .i64 lo0, .int .i64 hi0], .string X] W fun e w' => e = .returned (.bool ha) ∧ Below W.heap.size W w') := fun W hs => by rw [hha, hX]; exact unhide hasA t W (unhide hst) (chain (unhide (unhide hw3r)) (unhide hs.1))
        have cB : Hid (∀ W, Hid (Below wr.heap.size wr W) ∧ W.cell? ⟨bb, oo + j, none⟩ = some (.string X) ∧ W.cell? ⟨w.heap.size, 0, none⟩ = some (.bool m0) ∧ W.cell? ⟨w.heap.size, 1, none⟩ = some (.bool n0) ∧ W.cell? ⟨w.heap.size, 2, none⟩ = some (.bool q0) ∧ W.cell? ⟨w.heap.size, 3, none⟩ = some (.slice a0 k0 c0) ∧ W.cell? ⟨w.heap.size, 4, none⟩ = some (.int .i64 lo0) ∧ W.cell? ⟨w.heap.size, 5, none⟩ = some (.int .i64 hi0) ∧ W.cell? ⟨w.heap.size + 1, 0, none⟩ = some (.bool m1) ∧ W.cell? ⟨w.heap.size + 1, 1, none⟩ = some (.bool n1) ∧ W.cell? ⟨w.heap.size + 1, 2, none⟩ = some (.bool q1) ∧ W.cell? ⟨w.heap.size + 1, 3, none⟩ = some (.slice a1 k1 c1) ∧ W.cell? ⟨w.heap.size + 1, 4, none⟩ = some (.int .i64 lo1) ∧ W.cell? ⟨w.heap.size + 1, 5, none⟩ = some (.int .i64 hi1) ∧ W.cell? ⟨w1.heap.size, 0, none⟩ = some (.bool pm) ∧ W.cell? ⟨w1.heap.size, 1, none⟩ = some (.bool pn) ∧ W.cell? ⟨w1.heap.size, 2, none⟩ = some (.bool pq) ∧ W.cell? ⟨w1.heap.size, 3, none⟩ = some (.slice x1 g1 y1) ∧ W.cell? ⟨w1.heap.size, 4, none⟩ = some (.int .i64 plo) ∧ W.cell? ⟨w1.heap.size, 5, none⟩ = some (.int .i64 phi) → Calls Tryd.prog 9 #[.agg #[.bool m1, .bool n1, .bool q1, .slice a1 k1 c1, .int .i64 lo1, .int .i64 hi1], .string X] W fun e w' => e = .returned (.bool hb) ∧ Below W.heap.size W w') := fun W hs => by rw [hhb, hX]; exact unhide hasB1 t W (unhide hst) (chain (unhide (unhide hw3r)) (unhide hs.1))
        have cC : Hid (∀ W, Hid (Below wr.heap.size wr W) ∧ W.cell? ⟨bb, oo + j, none⟩ = some (.string X) ∧ W.cell? ⟨w.heap.size, 0, none⟩ = some (.bool m0) ∧ W.cell? ⟨w.heap.size, 1, none⟩ = some (.bool n0) ∧ W.cell? ⟨w.heap.size, 2, none⟩ = some (.bool q0) ∧ W.cell? ⟨w.heap.size, 3, none⟩ = some (.slice a0 k0 c0) ∧ W.cell? ⟨w.heap.size, 4, none⟩ = some (.int .i64 lo0) ∧ W.cell? ⟨w.heap.size, 5, none⟩ = some (.int .i64 hi0) ∧ W.cell? ⟨w.heap.size + 1, 0, none⟩ = some (.bool m1) ∧ W.cell? ⟨w.heap.size + 1, 1, none⟩ = some (.bool n1) ∧ W.cell? ⟨w.heap.size + 1, 2, none⟩ = some (.bool q1) ∧ W.cell? ⟨w.heap.size + 1, 3, none⟩ = some (.slice a1 k1 c1) ∧ W.cell? ⟨w.heap.size + 1, 4, none⟩ = some (.int .i64 lo1) ∧ W.cell? ⟨w.heap.size + 1, 5, none⟩ = some (.int .i64 hi1) ∧ W.cell? ⟨w1.heap.size, 0, none⟩ = some (.bool pm) ∧ W.cell? ⟨w1.heap.size, 1, none⟩ = some (.bool pn) ∧ W.cell? ⟨w1.heap.size, 2, none⟩ = some (.bool pq) ∧ W.cell? ⟨w1.heap.size, 3, none⟩ = some (.slice x1 g1 y1) ∧ W.cell? ⟨w1.heap.size, 4, none⟩ = some (.int .i64 plo) ∧ W.cell? ⟨w1.heap.size, 5, none⟩ = some (.int .i64 phi) → Calls Tryd.prog 9 #[.agg #[.bool pm, .bool pn, .bool pq, .slice x1 g1 y1, .int .i64 plo, .int .i64 phi], .string X] W fun e w' => e = .returned (.bool (ha && hb)) ∧ Below W.heap.size W w') := fun W hs => by rw [← hhc, hX]; exact unhide hasC t W (unhide hst) (chain (unhide (unhide hw3r)) (unhide hs.1))
        have hS := And.intro (show Hid (Below wr.heap.size wr wr) from Below.refl _ _) (And.intro hcell (unhide S9).2)
        have i0 : (0 : Int) ≤ (j : Int) := by omega
        have i1 : (j : Int) < (na : Int) := by omega
        clear hha hhb hhc hasA hasB1 hasC HHAS HCK HM GAB hla U0 U1 V1 HX XA' XB' XC HL B1 S0 GX GW GW3 HN0 HN1 HNP HALL HNA S1 SC S9 hw3r hst hX hcell hbel ZW0 ZW1 ZW3
        go_wp2_with fail
        cases ha
        · rw [Bool.false_and] at cC
          refine wp_region_noPanic ?_
          refine wp_region_held_drew (S := fun W => Hid (Below wr.heap.size wr W) ∧ W.cell? ⟨bb, oo + j, none⟩ = some (.string X) ∧ W.cell? ⟨w.heap.size, 0, none⟩ = some (.bool m0) ∧ W.cell? ⟨w.heap.size, 1, none⟩ = some (.bool n0) ∧ W.cell? ⟨w.heap.size, 2, none⟩ = some (.bool q0) ∧ W.cell? ⟨w.heap.size, 3, none⟩ = some (.slice a0 k0 c0) ∧ W.cell? ⟨w.heap.size, 4, none⟩ = some (.int .i64 lo0) ∧ W.cell? ⟨w.heap.size, 5, none⟩ = some (.int .i64 hi0) ∧ W.cell? ⟨w.heap.size + 1, 0, none⟩ = some (.bool m1) ∧ W.cell? ⟨w.heap.size + 1, 1, none⟩ = some (.bool n1) ∧ W.cell? ⟨w.heap.size + 1, 2, none⟩ = some (.bool q1) ∧ W.cell? ⟨w.heap.size + 1, 3, none⟩ = some (.slice a1 k1 c1) ∧ W.cell? ⟨w.heap.size + 1, 4, none⟩ = some (.int .i64 lo1) ∧ W.cell? ⟨w.heap.size + 1, 5, none⟩ = some (.int .i64 hi1) ∧ W.cell? ⟨w1.heap.size, 0, none⟩ = some (.bool pm) ∧ W.cell? ⟨w1.heap.size, 1, none⟩ = some (.bool pn) ∧ W.cell? ⟨w1.heap.size, 2, none⟩ = some (.bool pq) ∧ W.cell? ⟨w1.heap.size, 3, none⟩ = some (.slice x1 g1 y1) ∧ W.cell? ⟨w1.heap.size, 4, none⟩ = some (.int .i64 plo) ∧ W.cell? ⟨w1.heap.size, 5, none⟩ = some (.int .i64 phi)) (by kernel_rfl) (c19_drew hS) (fun hHeld => ?_)
          refine takeH (i := 0) (d := 63) (v := ?_) rfl rfl (by kernel_rfl) (by kernel_rfl) (by kernel_rfl) (fun _ _ _ h => h) (Or.inl ⟨by rfl, ?_⟩) (by assumption) ?_
          rotate_left
          · (intro W hSW; (try dsimp only at hSW); go_simp; try (with_reducible rfl))
          simp only [Act.put, List.setIfInBounds_toArray, List.set_cons_zero, List.set_cons_succ]
          refine takeH (i := 1) (d := 64) (v := ?_) rfl rfl (by kernel_rfl) (by kernel_rfl) (by kernel_rfl) (fun _ _ _ h => h) (Or.inl ⟨by rfl, ?_⟩) (by assumption) ?_
          rotate_left
          · (intro W hSW; (try dsimp only at hSW); go_simp; try (with_reducible rfl))
          simp only [Act.put, List.setIfInBounds_toArray, List.set_cons_zero, List.set_cons_succ]
          refine takeH (i := 2) (d := 65) (v := ?_) rfl rfl (by kernel_rfl) (by kernel_rfl) (by kernel_rfl) (fun _ _ _ h => h) (Or.inl ⟨by rfl, ?_⟩) (by assumption) ?_
          rotate_left
          · (intro W hSW; (try dsimp only at hSW); go_simp; try (with_reducible rfl))
          simp only [Act.put, List.setIfInBounds_toArray, List.set_cons_zero, List.set_cons_succ]
          refine takeH (i := 3) (d := 66) (v := ?_) rfl rfl (by kernel_rfl) (by kernel_rfl) (by kernel_rfl) (fun _ _ _ h => h) (Or.inl ⟨by rfl, ?_⟩) (by assumption) ?_
          rotate_left
          · (intro W hSW; (try dsimp only at hSW); go_simp; try (with_reducible rfl))
          simp only [Act.put, List.setIfInBounds_toArray, List.set_cons_zero, List.set_cons_succ]
          refine takeH (i := 4) (d := 67) (v := ?_) rfl rfl (by kernel_rfl) (by kernel_rfl) (by kernel_rfl) (fun _ _ _ h => h) (Or.inl ⟨by rfl, ?_⟩) (by assumption) ?_
          rotate_left
          · (intro W hSW; (try dsimp only at hSW); go_simp; try (with_reducible rfl))
          simp only [Act.put, List.setIfInBounds_toArray, List.set_cons_zero, List.set_cons_succ]
          refine takeH (i := 6) (d := 69) (v := ?_) rfl rfl (by kernel_rfl) (by kernel_rfl) (by kernel_rfl) (fun _ _ _ h => h) (Or.inl ⟨by rfl, ?_⟩) (by assumption) ?_
          rotate_left
          · (intro W hSW; (try dsimp only at hSW); go_simp; try (with_reducible rfl))
          simp only [Act.put, List.setIfInBounds_toArray, List.set_cons_zero, List.set_cons_succ]
          refine takeH (i := 7) (d := 70) (v := ?_) rfl rfl (by kernel_rfl) (by kernel_rfl) (by kernel_rfl) (fun _ _ _ h => h) (Or.inl ⟨by rfl, ?_⟩) (by assumption) ?_
          rotate_left
          · (intro W hSW; (try dsimp only at hSW); go_simp; try (with_reducible rfl))
          simp only [Act.put, List.setIfInBounds_toArray, List.set_cons_zero, List.set_cons_succ]
          refine takeH (i := 8) (d := 71) (v := ?_) rfl rfl (by kernel_rfl) (by kernel_rfl) (by kernel_rfl) (fun _ _ _ h => h) (Or.inl ⟨by rfl, ?_⟩) (by assumption) ?_
          rotate_left
          · (intro W hSW; (try dsimp only at hSW); go_simp; try (with_reducible rfl))
          simp only [Act.put, List.setIfInBounds_toArray, List.set_cons_zero, List.set_cons_succ]
          refine takeH (i := 9) (d := 72) (v := ?_) rfl rfl (by kernel_rfl) (by kernel_rfl) (by kernel_rfl) (fun _ _ _ h => h) (Or.inl ⟨by rfl, ?_⟩) (by assumption) ?_
          rotate_left
          · (intro W hSW; (try dsimp only at hSW); go_simp; try (with_reducible rfl))
          simp only [Act.put, List.setIfInBounds_toArray, List.set_cons_zero, List.set_cons_succ]
          refine takeH (i := 10) (d := 73) (v := ?_) rfl rfl (by kernel_rfl) (by kernel_rfl) (by kernel_rfl) (fun _ _ _ h => h) (Or.inl ⟨by rfl, ?_⟩) (by assumption) ?_
          rotate_left
          · (intro W hSW; (try dsimp only at hSW); go_simp; try (with_reducible rfl))
          simp only [Act.put, List.setIfInBounds_toArray, List.set_cons_zero, List.set_cons_succ]
          refine wpAnyH_ready (rs := [5]) (by kernel_rfl) (by simp) ?_
          refine AllReadyH.cons rfl (fun K hK => ?_) AllReadyH.nil
          go_simp
          refine (unhide cC _ hHeld).mono ?_
          rintro e w4 ⟨rfl, hw4⟩
          refine hK.out _ _ (c19_next hHeld hw4) (fun hHeld4 => ?_)
          clear hK K hHeld hw4
          refine wpAnyH_ready (rs := [11]) (by kernel_rfl) (by simp) ?_
          refine AllReadyH.cons rfl (fun K hK => ?_) AllReadyH.nil
          go_simp
          refine (unhide cA _ hHeld4).mono ?_
          rintro e w5 ⟨rfl, hw5⟩
          refine hK.out _ _ (c19_next hHeld4 hw5) (fun hHeld => ?_)
          clear hK K hHeld4 hw5
          refine takeH (i := 12) (d := 75) (v := ?_) rfl rfl (by kernel_rfl) (by kernel_rfl) (by kernel_rfl) (fun _ _ _ h => h) (Or.inl ⟨by rfl, ?_⟩) (by assumption) ?_
          rotate_left
          · (intro W hSW; (try dsimp only at hSW); go_simp; try (with_reducible rfl))
          simp only [Act.put, List.setIfInBounds_toArray, List.set_cons_zero, List.set_cons_succ]
          refine takeH (i := 13) (d := 76) (v := undef) rfl rfl (by kernel_rfl) (by kernel_rfl) (by kernel_rfl) (fun _ _ _ h => h) (Or.inr ⟨by rfl, rfl⟩) (by assumption) ?_
          simp only [Act.put, List.setIfInBounds_toArray, List.set_cons_zero, List.set_cons_succ]
          refine takeH (i := 14) (d := 77) (v := undef) rfl rfl (by kernel_rfl) (by kernel_rfl) (by kernel_rfl) (fun _ _ _ h => h) (Or.inr ⟨by rfl, rfl⟩) (by assumption) ?_
          simp only [Act.put, List.setIfInBounds_toArray, List.set_cons_zero, List.set_cons_succ]
          refine takeH (i := 15) (d := 78) (v := undef) rfl rfl (by kernel_rfl) (by kernel_rfl) (by kernel_rfl) (fun _ _ _ h => h) (Or.inr ⟨by rfl, rfl⟩) (by assumption) ?_
          simp only [Act.put, List.setIfInBounds_toArray, List.set_cons_zero, List.set_cons_succ]
          refine takeH (i := 16) (d := 79) (v := undef) rfl rfl (by kernel_rfl) (by kernel_rfl) (by kernel_rfl) (fun _ _ _ h => h) (Or.inr ⟨by rfl, rfl⟩) (by assumption) ?_
          simp only [Act.put, List.setIfInBounds_toArray, List.set_cons_zero, List.set_cons_succ]
          refine takeH (i := 17) (d := 80) (v := undef) rfl rfl (by kernel_rfl) (by kernel_rfl) (by kernel_rfl) (fun _ _ _ h => h) (Or.inr ⟨by rfl, rfl⟩) (by assumption) ?_
          simp only [Act.put, List.setIfInBounds_toArray, List.set_cons_zero, List.set_cons_succ]
          refine takeH (i := 18) (d := 81) (v := undef) rfl rfl (by kernel_rfl) (by kernel_rfl) (by kernel_rfl) (fun _ _ _ h => h) (Or.inr ⟨by rfl, rfl⟩) (by assumption) ?_
          simp only [Act.put, List.setIfInBounds_toArray, List.set_cons_zero, List.set_cons_succ]
          refine takeH (i := 19) (d := 82) (v := ?_) rfl rfl (by kernel_rfl) (by kernel_rfl) (by kernel_rfl) (fun _ _ _ h => h) (Or.inl ⟨by rfl, ?_⟩) (by assumption) ?_
          rotate_left
          · (intro W hSW; (try dsimp only at hSW); go_simp; try (with_reducible rfl))
          simp only [Act.put, List.setIfInBounds_toArray, List.set_cons_zero, List.set_cons_succ]
          refine takeH (i := 20) (d := 83) (v := ?_) rfl rfl (by kernel_rfl) (by kernel_rfl) (by kernel_rfl) (fun _ _ _ h => h) (Or.inl ⟨by rfl, ?_⟩) (by assumption) ?_
          rotate_left
          · (intro W hSW; (try dsimp only at hSW); go_simp; try (with_reducible rfl))
          simp only [Act.put, List.setIfInBounds_toArray, List.set_cons_zero, List.set_cons_succ]
          refine wpAnyH_done (by kernel_rfl) ?_ _
          refine NoPanic.normal ?_
          have B6 := hide (chain (unhide hbel2) (unhide hHeld.1))
          clear hHeld hS
          go_wp2_with fail
          go_roundw
          case rel => exact ⟨j + 1, by omega, by go_num, B6⟩
          case measure => simp [intOf]; omega
        · rw [Bool.true_and] at cC
          cases hb
          · go_region_held3 (fun W => Hid (Below wr.heap.size wr W) ∧ W.cell? ⟨bb, oo + j, none⟩ = some (.string X) ∧ W.cell? ⟨w.heap.size, 0, none⟩ = some (.bool m0) ∧ W.cell? ⟨w.heap.size, 1, none⟩ = some (.bool n0) ∧ W.cell? ⟨w.heap.size, 2, none⟩ = some (.bool q0) ∧ W.cell? ⟨w.heap.size, 3, none⟩ = some (.slice a0 k0 c0) ∧ W.cell? ⟨w.heap.size, 4, none⟩ = some (.int .i64 lo0) ∧ W.cell? ⟨w.heap.size, 5, none⟩ = some (.int .i64 hi0) ∧ W.cell? ⟨w.heap.size + 1, 0, none⟩ = some (.bool m1) ∧ W.cell? ⟨w.heap.size + 1, 1, none⟩ = some (.bool n1) ∧ W.cell? ⟨w.heap.size + 1, 2, none⟩ = some (.bool q1) ∧ W.cell? ⟨w.heap.size + 1, 3, none⟩ = some (.slice a1 k1 c1) ∧ W.cell? ⟨w.heap.size + 1, 4, none⟩ = some (.int .i64 lo1) ∧ W.cell? ⟨w.heap.size + 1, 5, none⟩ = some (.int .i64 hi1) ∧ W.cell? ⟨w1.heap.size, 0, none⟩ = some (.bool pm) ∧ W.cell? ⟨w1.heap.size, 1, none⟩ = some (.bool pn) ∧ W.cell? ⟨w1.heap.size, 2, none⟩ = some (.bool pq) ∧ W.cell? ⟨w1.heap.size, 3, none⟩ = some (.slice x1 g1 y1) ∧ W.cell? ⟨w1.heap.size, 4, none⟩ = some (.int .i64 plo) ∧ W.cell? ⟨w1.heap.size, 5, none⟩ = some (.int .i64 phi))
              (first | (with_reducible exact hS) | (with_reducible assumption) | (with_reducible refine c19_drew ?_; with_reducible assumption) | (with_reducible refine c19_next ?_ hw; with_reducible assumption))
              (first | (go_at_call 9; with_reducible refine (unhide cA _ ?_).mono ?_; with_reducible assumption; rintro e w2 ⟨rfl, hw⟩) | (go_at_call 9; with_reducible refine (unhide cB _ ?_).mono ?_; with_reducible assumption; rintro e w3 ⟨rfl, hw⟩) | (go_at_call 9; with_reducible refine (unhide cC _ ?_).mono ?_; with_reducible assumption; rintro e w4 ⟨rfl, hw⟩))
            all_goals
              rename_i hH
              have B6 := hide (chain (unhide hbel2) (unhide hH.1))
              clear hH hS
              go_wp2_with fail
              go_roundw
              case rel => exact ⟨j + 1, by omega, by go_num, B6⟩
              case measure => simp [intOf]; omega
          · go_region_held3 (fun W => Hid (Below wr.heap.size wr W) ∧ W.cell? ⟨bb, oo + j, none⟩ = some (.string X) ∧ W.cell? ⟨w.heap.size, 0, none⟩ = some (.bool m0) ∧ W.cell? ⟨w.heap.size, 1, none⟩ = some (.bool n0) ∧ W.cell? ⟨w.heap.size, 2, none⟩ = some (.bool q0) ∧ W.cell? ⟨w.heap.size, 3, none⟩ = some (.slice a0 k0 c0) ∧ W.cell? ⟨w.heap.size, 4, none⟩ = some (.int .i64 lo0) ∧ W.cell? ⟨w.heap.size, 5, none⟩ = some (.int .i64 hi0) ∧ W.cell? ⟨w.heap.size + 1, 0, none⟩ = some (.bool m1) ∧ W.cell? ⟨w.heap.size + 1, 1, none⟩ = some (.bool n1) ∧ W.cell? ⟨w.heap.size + 1, 2, none⟩ = some (.bool q1) ∧ W.cell? ⟨w.heap.size + 1, 3, none⟩ = some (.slice a1 k1 c1) ∧ W.cell? ⟨w.heap.size + 1, 4, none⟩ = some (.int .i64 lo1) ∧ W.cell? ⟨w.heap.size + 1, 5, none⟩ = some (.int .i64 hi1) ∧ W.cell? ⟨w1.heap.size, 0, none⟩ = some (.bool pm) ∧ W.cell? ⟨w1.heap.size, 1, none⟩ = some (.bool pn) ∧ W.cell? ⟨w1.heap.size, 2, none⟩ = some (.bool pq) ∧ W.cell? ⟨w1.heap.size, 3, none⟩ = some (.slice x1 g1 y1) ∧ W.cell? ⟨w1.heap.size, 4, none⟩ = some (.int .i64 plo) ∧ W.cell? ⟨w1.heap.size, 5, none⟩ = some (.int .i64 phi))
              (first | (with_reducible exact hS) | (with_reducible assumption) | (with_reducible refine c19_drew ?_; with_reducible assumption) | (with_reducible refine c19_next ?_ hw; with_reducible assumption))
              (first | (go_at_call 9; with_reducible refine (unhide cA _ ?_).mono ?_; with_reducible assumption; rintro e w2 ⟨rfl, hw⟩) | (go_at_call 9; with_reducible refine (unhide cB _ ?_).mono ?_; with_reducible assumption; rintro e w3 ⟨rfl, hw⟩) | (go_at_call 9; with_reducible refine (unhide cC _ ?_).mono ?_; with_reducible assumption; rintro e w4 ⟨rfl, hw⟩))
            all_goals
              rename_i hH
              have B6 := hide (chain (unhide hbel2) (unhide hH.1))
              clear hH hS
              go_wp2_with fail
              go_roundw
              case rel => exact ⟨j + 1, by omega, by go_num, B6⟩
              case measure => simp [intOf]; omega
      · obtain rfl : j = na := by omega
        have Bw := hide (chain (unhide B1) (unhide (unhide S9).1))
        have hV9 := hide ((unhide V1).below (unhide (unhide S9).1))
        have HE : Hid (emptyB ⟨pm, pn, pq, pv, plo, phi⟩ = true → g1 = 0) := fun h => by rw [unhide HNP]; exact empty_len h
        clear hasA hasB1 hasC HHAS GAB hla U0 U1 V1 HX XA' XB' XC B1 S0 GX GW GW3 HN0 HN1 HNP HALL HNA S1 SC hbel ZW0 ZW1 ZW3 hbel2
        go_wp2_with fail
        refine (live_any _ ((unhide HL).below (unhide Bw))).mono ?_
        rintro e w5 ⟨rfl, hw5⟩
        have S10 := hide (c18_next (unhide S9) hw5)
        have B5 := hide (chain (unhide Bw) hw5)
        have V5 := hide ((unhide hV9).below hw5)
        clear hw5 S9 Bw hV9
        obtain ⟨_, a0', _, _, _, _, _, b0', _, _, _, _, _, d0, d1, d2, d3, d4, d5⟩ := unhide S10
        go_wp2_with fail
        refine (check_any pm pn pq _ pv plo phi _ ((unhide HL).below (unhide B5)) (unhide V5)).mono ?_
        clear a0' b0' d0 d1 d2 d3 d4 d5
        rintro e w6 ⟨he, hw6⟩
        rw [unhide HCK, show errC true = 0 from rfl] at he
        subst he
        have S11 := hide (c18_next (unhide S10) hw6)
        have B6 := hide (chain (unhide B5) hw6)
        have V6 := hide ((unhide V5).below hw6)
        clear hw6 S10 B5 V5
        obtain ⟨qe, hqe⟩ : ∃ q, q = emptyB ⟨pm, pn, pq, pv, plo, phi⟩ := ⟨_, rfl⟩
        have cE : Hid (∀ W, Hid (Below w6.heap.size w6 W) → Calls Tryd.prog 10 #[.agg #[.bool pm, .bool pn, .bool pq, .slice x1 g1 y1, .int .i64 plo, .int .i64 phi]] W fun e w' => e = .returned (.bool qe) ∧ Below W.heap.size W w') := fun W hW => by rw [hqe]; exact empty_any pm pn pq _ pv plo phi W ((unhide HL).below (chain (unhide B6) (unhide hW))) ((unhide V6).below (unhide hW))
        have HE2 : Hid (qe = true → g1 = 0) := fun h => unhide HE (by rw [← hqe]; exact h)
        clear hqe HE HCK V6
        obtain rfl := unhide HM
        clear HM
        cases m0
        · rw [Bool.false_and] at cE S11 ⊢
          obtain ⟨_, a0', _, _, _, _, _, b0', _, _, _, _, _, d0, d1, d2, d3, d4, d5⟩ := unhide S11
          go_wp2_with fail
          refine (unhide cE _ (Below.refl _ _)).mono ?_
          clear a0' b0' d0 d1 d2 d3 d4 d5
          rintro e w7 ⟨rfl, hw7⟩
          have S12 := hide (c18_next (unhide S11) hw7)
          have B7 := hide (chain (unhide B6) hw7)
          clear hw7 S11 B6
          obtain ⟨_, a0', _, _, _, _, _, b0', _, _, _, _, _, d0, d1, d2, d3, d4, d5⟩ := unhide S12
          cases qe
          · go_wp2_with fail
            go_ret
            exact ⟨rfl, unhide B7⟩
          · have hg0 := unhide HE2 rfl
            subst hg0
            go_wp2_with fail
            go_ret
            exact ⟨rfl, unhide B7⟩
        · rw [Bool.true_and] at cE S11 ⊢
          cases m1
          · obtain ⟨_, a0', _, _, _, _, _, b0', _, _, _, _, _, d0, d1, d2, d3, d4, d5⟩ := unhide S11
            go_wp2_with fail
            refine (unhide cE _ (Below.refl _ _)).mono ?_
            clear a0' b0' d0 d1 d2 d3 d4 d5
            rintro e w7 ⟨rfl, hw7⟩
            have S12 := hide (c18_next (unhide S11) hw7)
            have B7 := hide (chain (unhide B6) hw7)
            clear hw7 S11 B6
            obtain ⟨_, a0', _, _, _, _, _, b0', _, _, _, _, _, d0, d1, d2, d3, d4, d5⟩ := unhide S12
            cases qe
            · go_wp2_with fail
              go_ret
              exact ⟨rfl, unhide B7⟩
            · have hg0 := unhide HE2 rfl
              subst hg0
              go_wp2_with fail
              go_ret
              exact ⟨rfl, unhide B7⟩
          · obtain ⟨_, a0', _, _, _, _, _, b0', _, _, _, _, _, d0, d1, d2, d3, d4, d5⟩ := unhide S11
            go_wp2_with fail
            refine (unhide cE _ (Below.refl _ _)).mono ?_
            clear a0' b0' d0 d1 d2 d3 d4 d5
            rintro e w7 ⟨rfl, hw7⟩
            have S12 := hide (c18_next (unhide S11) hw7)
            have B7 := hide (chain (unhide B6) hw7)
            clear hw7 S11 B6
            obtain ⟨_, a0', _, _, _, _, _, b0', _, _, _, _, _, d0, d1, d2, d3, d4, d5⟩ := unhide S12
            cases qe
            · go_wp2_with fail
              go_ret
              exact ⟨rfl, unhide B7⟩
            · have hg0 := unhide HE2 rfl
              subst hg0
              go_wp2_with fail
              go_ret
              exact ⟨rfl, unhide B7⟩

end Go.Proofs.YtkeibapcfbajjabDoor.valsetBoth
