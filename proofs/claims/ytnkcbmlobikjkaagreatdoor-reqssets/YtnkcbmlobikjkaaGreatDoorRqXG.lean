/- Layer 4: the laws' back. -/
import Derived.Test.YtnkcbmlobikjkaaGreatDoorRqWG
namespace Go.Proofs.YtnkcbmlobikjkaaGreatDoor
open Go.RowKit Suf Val Go.Maps

theorem c14_next {V W W' : World} {p0 p1 p2 p3 p4 p5 p6 p7 p8 p9 p10 p11 p12 p13 : Addr} {v0 v1 v2 v3 v4 v5 v6 v7 v8 v9 v10 v11 v12 v13 : Value} (h : Hid (Below V.heap.size V W) ∧ W.cell? p0 = some v0 ∧ W.cell? p1 = some v1 ∧ W.cell? p2 = some v2 ∧ W.cell? p3 = some v3 ∧ W.cell? p4 = some v4 ∧ W.cell? p5 = some v5 ∧ W.cell? p6 = some v6 ∧ W.cell? p7 = some v7 ∧ W.cell? p8 = some v8 ∧ W.cell? p9 = some v9 ∧ W.cell? p10 = some v10 ∧ W.cell? p11 = some v11 ∧ W.cell? p12 = some v12 ∧ W.cell? p13 = some v13) (hb : Below W.heap.size W W') : Hid (Below V.heap.size V W') ∧ W'.cell? p0 = some v0 ∧ W'.cell? p1 = some v1 ∧ W'.cell? p2 = some v2 ∧ W'.cell? p3 = some v3 ∧ W'.cell? p4 = some v4 ∧ W'.cell? p5 = some v5 ∧ W'.cell? p6 = some v6 ∧ W'.cell? p7 = some v7 ∧ W'.cell? p8 = some v8 ∧ W'.cell? p9 = some v9 ∧ W'.cell? p10 = some v10 ∧ W'.cell? p11 = some v11 ∧ W'.cell? p12 = some v12 ∧ W'.cell? p13 = some v13 :=
  ⟨chain (unhide h.1) hb, cell_kept hb (h.2.1), cell_kept hb (h.2.2.1), cell_kept hb (h.2.2.2.1), cell_kept hb (h.2.2.2.2.1), cell_kept hb (h.2.2.2.2.2.1), cell_kept hb (h.2.2.2.2.2.2.1), cell_kept hb (h.2.2.2.2.2.2.2.1), cell_kept hb (h.2.2.2.2.2.2.2.2.1), cell_kept hb (h.2.2.2.2.2.2.2.2.2.1), cell_kept hb (h.2.2.2.2.2.2.2.2.2.2.1), cell_kept hb (h.2.2.2.2.2.2.2.2.2.2.2.1), cell_kept hb (h.2.2.2.2.2.2.2.2.2.2.2.2.1), cell_kept hb (h.2.2.2.2.2.2.2.2.2.2.2.2.2.1), cell_kept hb (h.2.2.2.2.2.2.2.2.2.2.2.2.2.2)⟩
theorem c14_drew {V W : World} {p0 p1 p2 p3 p4 p5 p6 p7 p8 p9 p10 p11 p12 p13 : Addr} {v0 v1 v2 v3 v4 v5 v6 v7 v8 v9 v10 v11 v12 v13 : Value} (h : Hid (Below V.heap.size V W) ∧ W.cell? p0 = some v0 ∧ W.cell? p1 = some v1 ∧ W.cell? p2 = some v2 ∧ W.cell? p3 = some v3 ∧ W.cell? p4 = some v4 ∧ W.cell? p5 = some v5 ∧ W.cell? p6 = some v6 ∧ W.cell? p7 = some v7 ∧ W.cell? p8 = some v8 ∧ W.cell? p9 = some v9 ∧ W.cell? p10 = some v10 ∧ W.cell? p11 = some v11 ∧ W.cell? p12 = some v12 ∧ W.cell? p13 = some v13) : Hid (Below V.heap.size V W.drew) ∧ W.drew.cell? p0 = some v0 ∧ W.drew.cell? p1 = some v1 ∧ W.drew.cell? p2 = some v2 ∧ W.drew.cell? p3 = some v3 ∧ W.drew.cell? p4 = some v4 ∧ W.drew.cell? p5 = some v5 ∧ W.drew.cell? p6 = some v6 ∧ W.drew.cell? p7 = some v7 ∧ W.drew.cell? p8 = some v8 ∧ W.drew.cell? p9 = some v9 ∧ W.drew.cell? p10 = some v10 ∧ W.drew.cell? p11 = some v11 ∧ W.drew.cell? p12 = some v12 ∧ W.drew.cell? p13 = some v13 :=
  ⟨(unhide h.1).drew, h.2.1, h.2.2.1, h.2.2.2.1, h.2.2.2.2.1, h.2.2.2.2.2.1, h.2.2.2.2.2.2.1, h.2.2.2.2.2.2.2.1, h.2.2.2.2.2.2.2.2.1, h.2.2.2.2.2.2.2.2.2.1, h.2.2.2.2.2.2.2.2.2.2.1, h.2.2.2.2.2.2.2.2.2.2.2.1, h.2.2.2.2.2.2.2.2.2.2.2.2.1, h.2.2.2.2.2.2.2.2.2.2.2.2.2.1, h.2.2.2.2.2.2.2.2.2.2.2.2.2.2⟩

set_option maxRecDepth 100000 in
set_option maxHeartbeats 4000000 in
theorem back_any (v : Value) (l : List VReq) (w : World) (hv : Reqs w v l) (h8 : l.length ≤ 8) :
    Calls Tryz.prog 22 #[v] w fun e w' => (∃ v', e = .returned v' ∧ Reqs w' v' (l.reverse ++ l)) ∧ Below w.heap.size w w' := by
  have HV := hide hv
  obtain ⟨a, c, rfl⟩ := hv.val
  obtain ⟨n, hn⟩ : ∃ n, n = l.length := ⟨_, rfl⟩
  rw [← hn] at HV h8 ⊢
  have HN := hide hn
  clear hv hn
  go_enter Tryz.func22, Tryz.ntmps22
  go_wp2_with fail
  go_loopw [3, 4] (fun o i W => ∃ (k : Nat) (i' : Int) (news : List Value), k ≤ n ∧ i = .int .i64 i' ∧ i' = (k : Int) - 1 ∧ Hid (Rowed w news (l.drop k).reverse ∧ W.ownsRow w.heap.size 25 4 o (n - k) news) ∧ Hid (Below w.heap.size w W)) (fun _ i _ => (intOf i + 1).toNat)
  case atStart => exact ⟨n, _, [], Nat.le_refl _, rfl, by go_num, ⟨by rw [List.drop_eq_nil_of_le (by rw [← unhide HN]; exact Nat.le_refl _)]; exact rowed_nil w, by rw [Nat.sub_self]; exact World.ownsRow_nil _ _ _ _⟩, Below.refl _ _⟩
  case round =>
    obtain ⟨k, i', news, hk, rfl, hi', hr, hbel⟩ := hrel
    cases k with
    | succ j =>
      obtain rfl : i' = (j : Int) := by omega
      clear hi'
      have hlk : j < l.length := by rw [← unhide HN]; omega
      obtain ⟨b, o, u, rfl, hreq⟩ := (unhide HV).at hlk
      have hdr : Hid ((l.drop j).reverse = (l.drop (j + 1)).reverse ++ [l[j]]) := by show _ = _; rw [List.drop_eq_getElem_cons hlk, List.reverse_cons]
      obtain ⟨r, hrr⟩ : ∃ r, r = l[j] := ⟨_, rfl⟩
      rw [← hrr] at hreq hdr
      obtain ⟨h0, h1, h2, h3, _⟩ := hreq.below (unhide hbel)
      obtain ⟨_, _, _, _, hstr, hsh, hcap⟩ := hreq
      obtain ⟨ua, uc, hue⟩ := hstr.val
      subst hue
      have HO := hide (Rowed.one hstr hsh hcap)
      clear hstr hsh hcap hrr hlk
      obtain ⟨un, hun⟩ : ∃ x, x = r.vals.length := ⟨_, rfl⟩
      rw [← hun] at h2 HO
      clear hun
      go_wp2_with (at_builtin; (refine wpList_append_req rfl _ _ rfl w.heap.size _ (n - (j + 1)) news rfl ((unhide hr).2.alloc _) wr.heap.size (bytesT r.key) r.op ua un uc r.n rfl (by simp [go_sem]) (by simp [go_sem]) (by simp [go_sem]) (by simp [go_sem]) (by omega) (by have := (unhide hbel).size; simp; omega) ?_; intro v1 w1 hown1 hg1 _; have B1 := hide (row_grow (chain (unhide hbel) (box_below _)) ((unhide hr).2.alloc _) hg1); have R1 := hide (And.intro ((unhide hr).1.append (unhide HO)) hown1); clear hown1 hg1 h0 h1 h2 h3))
      go_roundw
      case rel => exact ⟨j, _, _, by omega, rfl, by go_num, by rw [unhide hdr, show n - j = n - (j + 1) + 1 by omega]; exact unhide R1, B1⟩
      case measure => simp [intOf]
    | zero =>
      obtain rfl : i' = -1 := by omega
      clear hi'
      go_wp2_with (at_builtin; (refine wpList_append_reqs rfl _ _ rfl w.heap.size _ (n - 0) news rfl (unhide hr).2 _ l rfl w (unhide hbel) (unhide HV) (by have := unhide HN; omega) (unhide hbel).size ?_; intro v1 w1 news1 hr1 hown1 hg1; have B1 := hide (row_grow (unhide hbel) (unhide hr).2 hg1); have R1 := hide (And.intro ((unhide hr).1.append hr1) hown1); clear hr1 hown1 hg1))
      go_ret
      exact ⟨⟨_, rfl, row_reqs (unhide R1).2 ((unhide R1).1.below (unhide B1)) (by simp; exact unhide HN) (by simp; have := unhide HN; omega)⟩, unhide B1⟩
end Go.Proofs.YtnkcbmlobikjkaaGreatDoor
