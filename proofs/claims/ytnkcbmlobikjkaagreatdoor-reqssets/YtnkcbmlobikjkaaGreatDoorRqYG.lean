/- Layer 4: the document's Sets. -/
import Derived.Test.YtnkcbmlobikjkaaGreatDoorRqXG
import Derived.Test.YtnkcbmlobikjkaaGreatDoorV3RMG
import Derived.Maps.AppendAt
import Derived.BigQuiet
namespace Go.Proofs.YtnkcbmlobikjkaaGreatDoor
open Go.RowKit Suf Val Go.Maps

theorem c12_next {V W W' : World} {p0 p1 p2 p3 p4 p5 p6 p7 p8 p9 p10 p11 : Addr} {v0 v1 v2 v3 v4 v5 v6 v7 v8 v9 v10 v11 : Value} (h : Hid (Below V.heap.size V W) ∧ W.cell? p0 = some v0 ∧ W.cell? p1 = some v1 ∧ W.cell? p2 = some v2 ∧ W.cell? p3 = some v3 ∧ W.cell? p4 = some v4 ∧ W.cell? p5 = some v5 ∧ W.cell? p6 = some v6 ∧ W.cell? p7 = some v7 ∧ W.cell? p8 = some v8 ∧ W.cell? p9 = some v9 ∧ W.cell? p10 = some v10 ∧ W.cell? p11 = some v11) (hb : Below W.heap.size W W') : Hid (Below V.heap.size V W') ∧ W'.cell? p0 = some v0 ∧ W'.cell? p1 = some v1 ∧ W'.cell? p2 = some v2 ∧ W'.cell? p3 = some v3 ∧ W'.cell? p4 = some v4 ∧ W'.cell? p5 = some v5 ∧ W'.cell? p6 = some v6 ∧ W'.cell? p7 = some v7 ∧ W'.cell? p8 = some v8 ∧ W'.cell? p9 = some v9 ∧ W'.cell? p10 = some v10 ∧ W'.cell? p11 = some v11 :=
  ⟨chain (unhide h.1) hb, cell_kept hb (h.2.1), cell_kept hb (h.2.2.1), cell_kept hb (h.2.2.2.1), cell_kept hb (h.2.2.2.2.1), cell_kept hb (h.2.2.2.2.2.1), cell_kept hb (h.2.2.2.2.2.2.1), cell_kept hb (h.2.2.2.2.2.2.2.1), cell_kept hb (h.2.2.2.2.2.2.2.2.1), cell_kept hb (h.2.2.2.2.2.2.2.2.2.1), cell_kept hb (h.2.2.2.2.2.2.2.2.2.2.1), cell_kept hb (h.2.2.2.2.2.2.2.2.2.2.2.1), cell_kept hb (h.2.2.2.2.2.2.2.2.2.2.2.2)⟩
theorem c12_drew {V W : World} {p0 p1 p2 p3 p4 p5 p6 p7 p8 p9 p10 p11 : Addr} {v0 v1 v2 v3 v4 v5 v6 v7 v8 v9 v10 v11 : Value} (h : Hid (Below V.heap.size V W) ∧ W.cell? p0 = some v0 ∧ W.cell? p1 = some v1 ∧ W.cell? p2 = some v2 ∧ W.cell? p3 = some v3 ∧ W.cell? p4 = some v4 ∧ W.cell? p5 = some v5 ∧ W.cell? p6 = some v6 ∧ W.cell? p7 = some v7 ∧ W.cell? p8 = some v8 ∧ W.cell? p9 = some v9 ∧ W.cell? p10 = some v10 ∧ W.cell? p11 = some v11) : Hid (Below V.heap.size V W.drew) ∧ W.drew.cell? p0 = some v0 ∧ W.drew.cell? p1 = some v1 ∧ W.drew.cell? p2 = some v2 ∧ W.drew.cell? p3 = some v3 ∧ W.drew.cell? p4 = some v4 ∧ W.drew.cell? p5 = some v5 ∧ W.drew.cell? p6 = some v6 ∧ W.drew.cell? p7 = some v7 ∧ W.drew.cell? p8 = some v8 ∧ W.drew.cell? p9 = some v9 ∧ W.drew.cell? p10 = some v10 ∧ W.drew.cell? p11 = some v11 :=
  ⟨(unhide h.1).drew, h.2.1, h.2.2.1, h.2.2.2.1, h.2.2.2.2.1, h.2.2.2.2.2.1, h.2.2.2.2.2.2.1, h.2.2.2.2.2.2.2.1, h.2.2.2.2.2.2.2.2.1, h.2.2.2.2.2.2.2.2.2.1, h.2.2.2.2.2.2.2.2.2.2.1, h.2.2.2.2.2.2.2.2.2.2.2.1, h.2.2.2.2.2.2.2.2.2.2.2.2⟩
theorem c12_box {V W : World} {p0 p1 p2 p3 p4 p5 p6 p7 p8 p9 p10 p11 : Addr} {v0 v1 v2 v3 v4 v5 v6 v7 v8 v9 v10 v11 : Value} {o : Obj} (h : Hid (Below V.heap.size V W) ∧ W.cell? p0 = some v0 ∧ W.cell? p1 = some v1 ∧ W.cell? p2 = some v2 ∧ W.cell? p3 = some v3 ∧ W.cell? p4 = some v4 ∧ W.cell? p5 = some v5 ∧ W.cell? p6 = some v6 ∧ W.cell? p7 = some v7 ∧ W.cell? p8 = some v8 ∧ W.cell? p9 = some v9 ∧ W.cell? p10 = some v10 ∧ W.cell? p11 = some v11) : Hid (Below V.heap.size V (W.alloc o)) ∧ (W.alloc o).cell? p0 = some v0 ∧ (W.alloc o).cell? p1 = some v1 ∧ (W.alloc o).cell? p2 = some v2 ∧ (W.alloc o).cell? p3 = some v3 ∧ (W.alloc o).cell? p4 = some v4 ∧ (W.alloc o).cell? p5 = some v5 ∧ (W.alloc o).cell? p6 = some v6 ∧ (W.alloc o).cell? p7 = some v7 ∧ (W.alloc o).cell? p8 = some v8 ∧ (W.alloc o).cell? p9 = some v9 ∧ (W.alloc o).cell? p10 = some v10 ∧ (W.alloc o).cell? p11 = some v11 := c12_next h (box_below o)

theorem Tryz.infoKeyedR : (Tryz.prog.info? 45).map (fun i => (i.zero, i.size, i.bytes)) = some (some (.agg #[.string ⟨#[]⟩, .bool false, .bool false, .bool false, .slice none 0 0, .int .i64 0, .int .i64 0]), 7, 64) := by kernel_rfl
theorem stepK_up {st : List KS} {x : KS} (h : UpK st) : UpK (stepK st x).1 := by
  unfold stepK
  split
  · exact upK_put h
  · split
    · exact upK_put h
    · exact List.Pairwise.nil
theorem setsF_up : ∀ (l st : List KS), UpK st → UpK (setsF st l).1
  | [], _, h => h
  | x :: l, st, h => by
    unfold setsF
    split
    · exact setsF_up l _ (stepK_up h)
    · exact List.Pairwise.nil
/-- What stands of the loop behind k requirements. -/
def SetsAt (l : List VReq) (k : Nat) (st : List VKS) : Prop := setsF [] ((l.take k).map keyS) = (st.map (·.2), 0)
theorem SetsAt.up {l : List VReq} {k : Nat} {st : List VKS} (h : SetsAt l k st) : UpK (st.map (·.2)) := by
  have := setsF_up ((l.take k).map keyS) [] List.Pairwise.nil
  rw [show setsF [] ((l.take k).map keyS) = (st.map (·.2), 0) from h] at this
  exact this
theorem SetsAt.len {l : List VReq} {k : Nat} {st : List VKS} (h : SetsAt l k st) : st.length ≤ k := by
  have := len_setsF ((l.take k).map keyS) []
  rw [show setsF [] ((l.take k).map keyS) = (st.map (·.2), 0) from h] at this
  simp at this
  omega
theorem SetsAt.next {l : List VReq} {k : Nat} {st : List VKS} (h : SetsAt l k st) (hk : k < l.length) {st' : List KS} (he : stepK (st.map (·.2)) (keyS l[k]) = (st', 0)) : setsF [] ((l.take (k + 1)).map keyS) = (st', 0) := by
  have e : setsF [] (((l.map keyS)).take k) = (st.map (·.2), 0) := by rw [← List.map_take]; exact h
  have := sets_next [] (l.map keyS) k (by simpa using hk) (by rw [e])
  rw [List.getElem_map, e] at this
  simp only at this
  rw [he, if_pos rfl] at this
  rw [List.map_take]; exact this
theorem SetsAt.stop {l : List VReq} {k : Nat} {st : List VKS} (h : SetsAt l k st) (hk : k < l.length) {z : Int} (hz : ¬ z = 0) (he : stepK (st.map (·.2)) (keyS l[k]) = ([], z)) : setsF [] (l.map keyS) = ([], z) := by
  have e : setsF [] (((l.map keyS)).take k) = (st.map (·.2), 0) := by rw [← List.map_take]; exact h
  have := sets_stop [] (l.map keyS) k (by simpa using hk) (by rw [e]) (by rw [List.getElem_map, e]; simp only; rw [he]; exact hz)
  rw [List.getElem_map, e] at this
  simp only at this
  rw [he] at this
  exact this
theorem step_found {st : List VKS} {x : KS} {j : Nat} (hu : UpK (st.map (·.2))) (hj : j < st.length) (hk : st[j].2.1 = x.1) (hn : ∀ y ∈ st.take j, ¬ y.2.1 = x.1) {c : VSet} {z : Int} (hm : meetR st[j].2.2 x.2 = (c, z)) :
    (z = 0 → stepK (st.map (·.2)) x = ((st.map (·.2)).set j (x.1, c), 0)) ∧ (¬ z = 0 → stepK (st.map (·.2)) x = ([], z)) := by
  have hl : Val.look x.1 (st.map (·.2)) = some st[j].2.2 := by
    have := look_first (k := x.1) (st := st.map (·.2)) (j := j) (by simpa using hj) (by simpa using hk) (fun y hy => by
      rw [← List.map_take] at hy
      obtain ⟨y', hy', rfl⟩ := List.mem_map.1 hy
      exact hn y' hy')
    simpa using this
  unfold stepK
  rw [hl]
  simp only [hm]
  refine ⟨fun h => ?_, fun h => ?_⟩
  · rw [if_pos h, put_old (j := j) hu (by simpa using hj) (by simpa using hk)]
  · rw [if_neg h]
theorem step_new {st : List VKS} {x : KS} {i : Nat} (hn : ∀ y ∈ st, ¬ y.2.1 = x.1) (h1 : ∀ y ∈ st.take i, lt y.2.1 x.1 = true) (h2 : ∀ h : i < st.length, ¬ lt st[i].2.1 x.1 = true) (u : Value) :
    stepK (st.map (·.2)) x = ((st.take i ++ (u, x) :: st.drop i).map (·.2), 0) := by
  have hl : Val.look x.1 (st.map (·.2)) = none := look_none.2 (fun y hy => by
    obtain ⟨y', hy', rfl⟩ := List.mem_map.1 hy
    exact hn y' hy')
  unfold stepK
  rw [hl]
  simp only
  rw [putK_new (i := i) (fun y hy => by
    rw [← List.map_take] at hy
    obtain ⟨y', hy', rfl⟩ := List.mem_map.1 hy
    exact h1 y' hy') (fun h => by have := h2 (by simpa using h); simpa using this) (fun y hy => by
    obtain ⟨y', hy', rfl⟩ := List.mem_map.1 hy
    exact hn y' hy')]
  simp
theorem flatK_cons (x : VKS) (xs : List VKS) : flatK (x :: xs) = encK x ++ flatK xs := by unfold flatK; rw [List.flatMap_cons]
theorem flatK_append (xs ys : List VKS) : flatK (xs ++ ys) = flatK xs ++ flatK ys := by unfold flatK; rw [List.flatMap_append]
theorem set7 (y : VKS) (l : List Value) (i : Nat) (v : Value) : (encK y ++ l).set (i + 7) v = encK y ++ l.set i v := rfl
theorem flatK_set : ∀ (st : List VKS) (j : Nat) (h : j < st.length) (u : Value) (mc : VSet), flatK (st.set j (u, st[j].2.1, mc)) = ((((((flatK st).set (j * 7 + 1) (.bool mc.miss)).set (j * 7 + 2) (.bool mc.no)).set (j * 7 + 3) (.bool mc.num)).set (j * 7 + 4) u).set (j * 7 + 5) (.int .i64 mc.lo)).set (j * 7 + 6) (.int .i64 mc.hi)
  | [], j, h, _, _ => by simp at h
  | y :: l, 0, _, u, mc => by
    show flatK ((u, y.2.1, mc) :: l) = _
    rw [flatK_cons, flatK_cons]
    rfl
  | y :: l, j + 1, h, u, mc => by
    have hj : j < l.length := by simpa using h
    show flatK (y :: l.set j (u, l[j].2.1, mc)) = _
    rw [flatK_cons, flatK_cons, flatK_set l j hj u mc, show (j + 1) * 7 + 1 = (j * 7 + 1) + 7 by omega, show (j + 1) * 7 + 2 = (j * 7 + 2) + 7 by omega, show (j + 1) * 7 + 3 = (j * 7 + 3) + 7 by omega, show (j + 1) * 7 + 4 = (j * 7 + 4) + 7 by omega, show (j + 1) * 7 + 5 = (j * 7 + 5) + 7 by omega, show (j + 1) * 7 + 6 = (j * 7 + 6) + 7 by omega, set7, set7, set7, set7, set7, set7]
theorem OwnK.form {T : TypeId} {w : World} {base n c : Nat} {a : Option Addr} {st : List VKS} (h : OwnK T w base (.slice a n c) st) : n = st.length ∧ ((a = none ∧ n = 0 ∧ c = 0) ∨ ∃ g, a = some ⟨g, 0, none⟩ ∧ n ≤ c) := by
  rcases h.1.2 with ⟨e, h0⟩ | ⟨g, cap, cur, e, _, _, hc, _⟩
  · injection e with e1 e2 e3
    exact ⟨by omega, Or.inl ⟨e1, e2, e3⟩⟩
  · injection e with e1 e2 e3
    subst e2 e3
    exact ⟨rfl, Or.inr ⟨g, e1, hc⟩⟩
theorem OwnK.frozenAt {T : TypeId} {w : World} {base g n c : Nat} {st : List VKS} (h : OwnK T w base (.slice (some ⟨g, 0, none⟩) n c) st) (j : Nat) : w.frozen? ⟨g, j, none⟩ = false := by
  obtain ⟨rfl, _⟩ := h.form
  exact h.1.frozenAt j
/-- One set written over. -/
theorem OwnK.store {T : TypeId} {w : World} {base g n c j : Nat} {st : List VKS} (h : OwnK T w base (.slice (some ⟨g, 0, none⟩) n c) st) (hj : j < st.length) {u : Value} {key : Txt} {mc : VSet} (hk : st[j].2.1 = key) (hu : Own w base u mc.vals)
    (hf : ∀ i, u.ownBlock = some i → i ≠ g ∧ ∀ y ∈ st, ∀ k, y.1.ownBlock = some k → k ≠ i) :
    OwnK T ((((((w.setCell ⟨g, j * 7 + 1, none⟩ (.bool mc.miss)).setCell ⟨g, j * 7 + 2, none⟩ (.bool mc.no)).setCell ⟨g, j * 7 + 3, none⟩ (.bool mc.num)).setCell ⟨g, j * 7 + 4, none⟩ u).setCell ⟨g, j * 7 + 5, none⟩ (.int .i64 mc.lo)).setCell ⟨g, j * 7 + 6, none⟩ (.int .i64 mc.hi)) base (.slice (some ⟨g, 0, none⟩) n c) (st.set j (u, key, mc)) := by
  obtain ⟨rfl, _⟩ := h.form
  have hgrow := (((((set_grown w g (j * 7 + 1) (.bool mc.miss)).trans (set_grown _ g (j * 7 + 2) (.bool mc.no))).trans (set_grown _ g (j * 7 + 3) (.bool mc.num))).trans (set_grown _ g (j * 7 + 4) u)).trans (set_grown _ g (j * 7 + 5) (.int .i64 mc.lo))).trans (set_grown _ g (j * 7 + 6) (.int .i64 mc.hi))
  refine ⟨?_, fun x hx => ?_, fun x hx k hk2 => ?_, ?_⟩
  · rw [List.length_set, ← hk, flatK_set st j hj]
    have q1 := (h.1.stored (j * 7 + 1) (.bool mc.miss)).1
    have q2 := (q1.stored (j * 7 + 2) (.bool mc.no)).1
    have q3 := (q2.stored (j * 7 + 3) (.bool mc.num)).1
    have q4 := (q3.stored (j * 7 + 4) u).1
    have q5 := (q4.stored (j * 7 + 5) (.int .i64 mc.lo)).1
    exact (q5.stored (j * 7 + 6) (.int .i64 mc.hi)).1
  · rcases List.mem_or_eq_of_mem_set hx with hx | rfl
    · exact ⟨Own.other (h.2.1 x hx).1 hgrow (fun k i hk hi e => h.2.2.1 x hx k (by injection hk with hk; rw [← hk]; rfl) (by rw [hi, e])), (h.2.1 x hx).2⟩
    · exact ⟨Own.other hu hgrow (fun k i hk hi e => (hf i hi).1 (by injection hk with hk; rw [e, hk])), by rw [← hk]; exact (h.2.1 _ (List.getElem_mem hj)).2⟩
  · have hkg : k = g := by injection hk2 with e; exact e.symm
    rcases List.mem_or_eq_of_mem_set hx with hx | rfl
    · exact h.2.2.1 x hx k hk2
    · intro e; exact (hf k e).1 hkg
  · refine List.pairwise_iff_getElem.2 fun i k hi hk' hik q hq => ?_
    have hp := List.pairwise_iff_getElem.1 h.2.2.2
    rw [List.length_set] at hi hk'
    rw [List.getElem_set] at hq ⊢
    by_cases e1 : j = i
    · rw [if_pos e1] at hq
      rw [if_neg (by omega)]
      intro e; exact (hf q hq).2 _ (List.getElem_mem hk') q e rfl
    · rw [if_neg e1] at hq
      by_cases e2 : j = k
      · rw [if_pos e2]
        intro e; exact (hf q e).2 _ (List.getElem_mem hi) q hq rfl
      · rw [if_neg e2]; exact hp i k hi hk' hik q hq
/-- One set more, in a row of its own. -/
theorem OwnK.insert {T : TypeId} {V V3 : World} {base m : Nat} {out v' : Value} {st : List VKS} {x : VKS} (h : OwnK T V base out st) (hx : Own V base x.1 x.2.2.vals) (hs : short x.2.1) (hf : ∀ i, x.1.ownBlock = some i → ∀ y ∈ st, ∀ k, y.1.ownBlock = some k → k ≠ i)
    (hb : Below V.heap.size V V3) (hrow : V3.ownsRow V.heap.size T 7 v' (st.take m ++ x :: st.drop m).length (flatK (st.take m ++ x :: st.drop m))) (hbase : base ≤ V.heap.size) : OwnK T V3 base v' (st.take m ++ x :: st.drop m) := by
  have hmem : ∀ y, y ∈ st.take m ++ x :: st.drop m → y ∈ st ∨ y = x := fun y hy => by
    rcases List.mem_append.1 hy with hy | hy
    · exact Or.inl (List.mem_of_mem_take hy)
    · rcases List.mem_cons.1 hy with hy | hy
      · exact Or.inr hy
      · exact Or.inl (List.mem_of_mem_drop hy)
  have hown : ∀ y, y ∈ st.take m ++ x :: st.drop m → Own V base y.1 y.2.2.vals ∧ short y.2.1 := fun y hy => by
    rcases hmem y hy with hy | rfl
    · exact h.2.1 y hy
    · exact ⟨hx, hs⟩
  refine ⟨⟨hrow.1, ?_⟩, fun y hy => ⟨(hown y hy).1.below hb, (hown y hy).2⟩, fun y hy k hk e => ?_, ?_⟩
  · rcases hrow.2 with h1 | ⟨g, cap, cur, e, hg, h2⟩
    · exact Or.inl h1
    · exact Or.inr ⟨g, cap, cur, e, Nat.le_trans hbase hg, h2⟩
  · have h1 := row_block hrow k hk
    have h2 := (own_block (hown y hy).1 k e).2
    omega
  · have hst := h.2.2.2
    rw [← List.take_append_drop m st] at hst
    obtain ⟨p1, p2, p3⟩ := List.pairwise_append.1 hst
    refine List.pairwise_append.2 ⟨p1, List.pairwise_cons.2 ⟨fun y hy k hk e => ?_, p2⟩, fun y hy z hz k hk => ?_⟩
    · exact hf k hk y (List.mem_of_mem_drop hy) k e rfl
    · rcases List.mem_cons.1 hz with rfl | hz
      · intro e; exact hf k e y (List.mem_of_mem_take hy) k hk rfl
      · exact p3 y hy z hz k hk
theorem flatK_one {xs : List VKS} {w : World} {base : Nat} (h : ∀ x ∈ xs, Own w base x.1 x.2.2.vals) : ∀ u ∈ flatK xs, u.oneCell' = true := fun u hu => by
  unfold flatK at hu
  obtain ⟨x, hx, hux⟩ := List.mem_flatMap.1 hu
  obtain ⟨a, c, e⟩ := (h x hx).strs.val
  exact encK_one e u hux
theorem add_off0 (b o j : Nat) : (⟨b, o, none⟩ : Addr).add j = ⟨b, o + j, none⟩ := by unfold Addr.add; split <;> simp_all
/-- The front and the rest of a row of keyed sets, as cells. -/
theorem OwnK.front {T : TypeId} {w : World} {base g n c : Nat} {st : List VKS} (h : OwnK T w base (.slice (some ⟨g, 0, none⟩) n c) st) (m : Nat) : ∀ j u, (flatK (st.take m))[j]? = some u → w.cell? ((⟨g, 0, none⟩ : Addr).add j) = some u := fun j u hu => by
  refine h.1.cells rfl j u ?_
  rw [← List.take_append_drop m st, flatK_append, List.getElem?_append_left]
  · exact hu
  · exact (List.getElem?_eq_some_iff.1 hu).1
theorem OwnK.rest {T : TypeId} {w : World} {base g n c : Nat} {st : List VKS} (h : OwnK T w base (.slice (some ⟨g, 0, none⟩) n c) st) {m : Nat} (hm : m ≤ st.length) : ∀ j u, (flatK (st.drop m))[j]? = some u → w.cell? ((⟨g, m * 7, none⟩ : Addr).add j) = some u := fun j u hu => by
  have := h.1.cells rfl (m * 7 + j) u (by
    have hl : (flatK (st.take m)).length = m * 7 := by rw [flatK_len, List.length_take]; omega
    rw [← List.take_append_drop m st, flatK_append, List.getElem?_append_right (by omega), hl, show m * 7 + j - m * 7 = j by omega]
    exact hu)
  rw [add_off0] at this ⊢
  rw [Nat.zero_add] at this
  exact this
/-- Keyed sets appended to a row of the call's own. -/
theorem wpList_append_keys {w : World} {ops : Array Oper} {rest : List Oper} {o : Oper} {a : Act} {Q : Exit → Act → World → Prop} (hgd : o.guard = none) (s x : Operand)
    (ho : o.op = .call { callee := .builtin .append, args := #[s, x], argTypes := #[38, 38] })
    (base : Nat) (v : Value) (n : Nat) (xs : List Value) (hs : a.eval s = v) (hown : w.ownsRow base 45 7 v n xs) (ad : Option Addr) (m c : Nat) (news : List Value) (hx : a.eval x = .slice ad m c)
    (hl : news.length = m * 7) (hnone : ad = none → m = 0) (hnews : ∀ a0, ad = some a0 → ∀ j u, news[j]? = some u → w.cell? (a0.add j) = some u) (h1 : ∀ u ∈ news, u.oneCell' = true) (hlen : n + m ≤ 1000) (hbase : base ≤ w.heap.size)
    (h : ∀ v' w', w'.ownsRow base 45 7 v' (n + m) (xs ++ news) → w.grownBy w' v.ownBlock → wpList Tryz.prog ops Q rest (a.put o.dst v') w') : wpList Tryz.prog ops Q (o :: rest) a w := by
  obtain ⟨i, hi, hz, hz1, hz2⟩ := info_partsS Tryz.infoKeyedR
  cases ad with
  | none =>
    obtain rfl := hnone rfl
    obtain rfl : news = [] := List.eq_nil_of_length_eq_zero (by rw [hl])
    refine wpList_append_nil hgd s x _ ho base 45 i 7 c Tryz.underlying38 hi v n _ hs hown hx (h v w ?_ (grown_refl _ _))
    rw [List.append_nil]; exact hown
  | some a0 =>
    refine wpList_append_own w hgd s x _ ho base 45 i _ 7 64 Tryz.underlying38 hi hz hz1 hz2 rfl (by decide) v n _ hs hown a0 m c news hx hl (hnews a0 rfl) h1 (by unfold maxLen; omega) (by omega) hbase ?_
    intro v' w' h2 h3 _
    exact h v' w' h2 h3
theorem set6_below {w w1 : World} {B : Nat} {a b c d e f : Value} (h : Below w.heap.size w w1) (hB : w.heap.size ≤ B) : Below w.heap.size w ((((((w1.setCell ⟨B, 0, none⟩ a).setCell ⟨B, 1, none⟩ b).setCell ⟨B, 2, none⟩ c).setCell ⟨B, 3, none⟩ d).setCell ⟨B, 4, none⟩ e).setCell ⟨B, 5, none⟩ f) := put6_below a b c d e f h hB
theorem six_set6 {W : World} {B : Nat} (h : Slot W B) (a b c d e f : Value) : Six ((((((W.setCell ⟨B, 0, none⟩ a).setCell ⟨B, 1, none⟩ b).setCell ⟨B, 2, none⟩ c).setCell ⟨B, 3, none⟩ d).setCell ⟨B, 4, none⟩ e).setCell ⟨B, 5, none⟩ f) B a b c d e f := by
  obtain ⟨⟨k0, k1, k2, k3, k4, k5⟩, _, _⟩ := h
  refine ⟨?_, ?_, ?_, ?_, ?_, ?_⟩ <;> simp [go_sem, k0, k1, k2, k3, k4, k5]
theorem insert_flat (st : List VKS) (m : Nat) (x : VKS) : flatK (st.take m ++ x :: st.drop m) = flatK (st.take m) ++ encK x ++ flatK (st.drop m) := by rw [flatK_append, flatK_cons, List.append_assoc]
theorem insert_len {st : List VKS} {m : Nat} (h : m ≤ st.length) (x : VKS) : (st.take m ++ x :: st.drop m).length = m + 1 + (st.length - m) := by
  rw [List.length_append, List.length_cons, List.length_take, List.length_drop]; omega
theorem row_below {w w' : World} {base : Nat} {T : TypeId} {sz : Nat} {v : Value} {n : Nat} {xs : List Value} (h : w.ownsRow base T sz v n xs) (hb : Below w.heap.size w w') : w'.ownsRow base T sz v n xs :=
  h.kept (below_grownBy hb) (by
    cases hv : v.ownBlock with
    | none => exact Or.inl rfl
    | some b => exact Or.inr (by simp))
theorem slot_drew {w : World} {B : Nat} (h : Slot w B) : Slot w.drew B := h.below (Below.refl _ _).drew
end Go.Proofs.YtnkcbmlobikjkaaGreatDoor
