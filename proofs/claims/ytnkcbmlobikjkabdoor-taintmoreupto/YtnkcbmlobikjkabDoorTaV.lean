/- Layer 5: what is tolerated, and taints, together in one argument, opened with what its bulk says of their lengths. -/
import Derived.Test.YtnkcbmlobikjkabDoorTaU
namespace Go.Proofs.YtnkcbmlobikjkabDoor
open Go.ChangeShapes Go.WideShapes Go.ChangeAt Go.RowKit Suf Val

theorem bulk_one {H : Type} (d : DataW H) : 1 ≤ Rows.uptoBulk d := by
  cases d with
  | lit l => cases l <;> simp [Rows.uptoBulk]
  | nil => simp [Rows.uptoBulk]
  | ptr d => simp [Rows.uptoBulk]
  | slice elems spare => simp [Rows.uptoBulk]
  | agg parts => simp [Rows.uptoBulk]
  | iface t d => simp [Rows.uptoBulk]
  | map entries => simp [Rows.uptoBulk]
  | held h => simp [Rows.uptoBulk]
theorem bulk_len {H : Type} (l : List (DataW H)) : l.length ≤ Rows.uptoBulkAll l := by
  induction l with
  | nil => simp [Rows.uptoBulkAll]
  | cons x r ih => have := bulk_one x; simp only [Rows.uptoBulkAll, List.length_cons]; omega
theorem bulk_le {H : Type} {d : DataW H} {l : List (DataW H)} (h : d ∈ l) : Rows.uptoBulk d ≤ Rows.uptoBulkAll l := by
  induction l with
  | nil => cases h
  | cons x r ih =>
    simp only [Rows.uptoBulkAll]
    cases List.mem_cons.1 h with
    | inl e => subst e; omega
    | inr e => have := ih e; omega
theorem bulk_bound {H : Type} {l : List (DataW H)} (hk : Rows.uptoSmall H l = true) : Rows.uptoBulkAll l ≤ 1048576 := of_decide_eq_true hk
theorem array4 {α : Type} {cs : Array α} (h : cs.size = 4) : ∃ c0 c1 c2 c3, cs = #[c0, c1, c2, c3] := by
  obtain ⟨l⟩ := cs
  match l, h with
  | [c0, c1, c2, c3], _ => exact ⟨c0, c1, c2, c3, rfl⟩
theorem Tryd.cells23 : Tryd.prog.cellsOf 23 = 1 := by kernel_rfl
theorem Tryd.cells22 : Tryd.prog.cellsOf 22 = 1 := by kernel_rfl
theorem Tryd.cells38 : Tryd.prog.cellsOf 38 = 4 := by kernel_rfl
section
variable {H : Type} {enc : TypeId × Value → H} {W : World} {base : Nat} {spare : Nat → Bool} {held : Bool}
set_option maxRecDepth 100000 in
theorem open_labs_at {n : Nat} {c : Value} {y : DataW H × List MemPlace} (hf : DataW.trod enc Tryd.prog W base spare held n 22 [c] = some y) (hz : ∀ k ∈ y.1.weights Tryd.prog 22, k ≤ reachBytes) :
    ∃ l, Labs W c l ∧ l.length ≤ Rows.uptoBulk y.1 := by
  rcases DataW.trod_slice Tryd.underlying22 hf with ⟨hcs, _⟩ | ⟨a, len, cap, elems, rest, n, _, hcs, hx, _, hl, hm, hlen, hel, _, _⟩
  · obtain rfl : c = .slice none 0 0 := by simpa using hcs
    exact ⟨[], ⟨none, 0, rfl, fun j hj => absurd hj (Nat.not_lt_zero _), by simp, by simp⟩, by simp⟩
  · obtain rfl : c = .slice (some a) len cap := by simpa using hcs
    have hd := congrArg Prod.fst hx
    simp only at hd
    have each : ∀ i, i < len → ∃ q : Lab, W.cell? ((a.add (i * 2)).add 0) = some (.string (bytesT q.1)) ∧ W.cell? ((a.add (i * 2)).add 1) = some (.string (bytesT q.2)) ∧ short q.1 ∧ short q.2 := by
      intro i hi
      have e := hel i hi
      have hie : i < elems.length := by omega
      rw [List.getElem?_eq_getElem hie, Tryd.cells26] at e
      obtain ⟨cs, hc, ht⟩ := Option.bind_eq_some_iff.1 e
      obtain ⟨_, hcl, hce⟩ := World.cells?_some hc
      match cs, hcl with
      | [c0, c1], _ =>
        obtain ⟨q, rfl, rfl, q1, q2⟩ := open_lab_cells ht (fun k hk => hz k (by
          rw [hd]
          simp only [DataW.weights, Tryd.underlying22]
          refine List.mem_cons_of_mem _ (List.mem_append_left _ ?_)
          exact weights_at (i := i) (by rw [List.getElem?_map, List.getElem?_eq_getElem hie]; rfl) k hk))
        exact ⟨q, by simpa using hce 0 (by omega), by simpa using hce 1 (by omega), q1, q2⟩
    haveI : Inhabited (Lab) := ⟨([], [])⟩
    obtain ⟨F, hF⟩ := Go.Deep.choose_lt each
    have hps : ((List.range len).map fun i => F i).length = len := by simp
    have hcount : len ≤ 4398046511104 := by
      have := hz ((elems.length + rest.length) * Tryd.prog.bytesOf 26) (by
        rw [hd]; simp [DataW.weights, Tryd.underlying22])
      rw [show Tryd.prog.bytesOf 26 = 32 by kernel_rfl] at this
      have hr := reachBytes_lt
      omega
    have hbulk : len ≤ Rows.uptoBulk y.1 := by
      rw [hd]
      simp only [Rows.uptoBulk]
      have := bulk_len (elems.map fun x => x.fst)
      rw [List.length_map] at this
      omega
    refine ⟨(List.range len).map fun i => F i, ⟨some a, cap, by rw [hps], fun j hj => ?_, by rw [hps]; exact hcount, by rw [hps]; omega⟩, by rw [hps]; exact hbulk⟩
    rw [hps] at hj
    obtain ⟨b, off, spot⟩ := a
    have hspot : spot = none := by
      have := World.cell?_spot (hF 0 (by omega)).1
      simpa [Addr.add] using this
    subst hspot
    have := hF j hj
    simp only [add_off, Nat.add_zero] at this
    have hg : ((List.range len).map fun i => F i)[j]'(by rw [hps]; exact hj) = F j := by simp
    rw [hg]
    exact ⟨b, off, rfl, this⟩
set_option maxRecDepth 100000 in
theorem open_tols_at {n : Nat} {c : Value} {y : DataW H × List MemPlace} (hf : DataW.trod enc Tryd.prog W base spare held n 23 [c] = some y) (hz : ∀ k ∈ y.1.weights Tryd.prog 23, k ≤ reachBytes) :
    ∃ l, Tols W c l ∧ l.length ≤ Rows.uptoBulk y.1 := by
  rcases DataW.trod_slice Tryd.underlying23 hf with ⟨hcs, _⟩ | ⟨a, len, cap, elems, rest, n, _, hcs, hx, _, hl, hm, hlen, hel, _, _⟩
  · obtain rfl : c = .slice none 0 0 := by simpa using hcs
    exact ⟨[], ⟨none, 0, rfl, fun j hj => absurd hj (Nat.not_lt_zero _), by simp, by simp⟩, by simp⟩
  · obtain rfl : c = .slice (some a) len cap := by simpa using hcs
    have hd := congrArg Prod.fst hx
    simp only at hd
    have each : ∀ i, i < len → ∃ q : VTol, W.cell? ((a.add (i * 3)).add 0) = some (.string (bytesT q.1)) ∧ W.cell? ((a.add (i * 3)).add 1) = some (.string (bytesT q.2.1)) ∧ W.cell? ((a.add (i * 3)).add 2) = some (.bool q.2.2) ∧ short q.1 ∧ short q.2.1 := by
      intro i hi
      have e := hel i hi
      have hie : i < elems.length := by omega
      rw [List.getElem?_eq_getElem hie, Tryd.cells28] at e
      obtain ⟨cs, hc, ht⟩ := Option.bind_eq_some_iff.1 e
      obtain ⟨_, hcl, hce⟩ := World.cells?_some hc
      match cs, hcl with
      | [c0, c1, c2], _ =>
        obtain ⟨q, rfl, rfl, rfl, q1, q2⟩ := open_tol_cells ht (fun k hk => hz k (by
          rw [hd]
          simp only [DataW.weights, Tryd.underlying23]
          refine List.mem_cons_of_mem _ (List.mem_append_left _ ?_)
          exact weights_at (i := i) (by rw [List.getElem?_map, List.getElem?_eq_getElem hie]; rfl) k hk))
        exact ⟨q, by simpa using hce 0 (by omega), by simpa using hce 1 (by omega), by simpa using hce 2 (by omega), q1, q2⟩
    haveI : Inhabited (VTol) := ⟨([], [], false)⟩
    obtain ⟨F, hF⟩ := Go.Deep.choose_lt each
    have hps : ((List.range len).map fun i => F i).length = len := by simp
    have hcount : len ≤ 4398046511104 := by
      have := hz ((elems.length + rest.length) * Tryd.prog.bytesOf 28) (by
        rw [hd]; simp [DataW.weights, Tryd.underlying23])
      rw [show Tryd.prog.bytesOf 28 = 40 by kernel_rfl] at this
      have hr := reachBytes_lt
      omega
    have hbulk : len ≤ Rows.uptoBulk y.1 := by
      rw [hd]
      simp only [Rows.uptoBulk]
      have := bulk_len (elems.map fun x => x.fst)
      rw [List.length_map] at this
      omega
    refine ⟨(List.range len).map fun i => F i, ⟨some a, cap, by rw [hps], fun j hj => ?_, by rw [hps]; exact hcount, by rw [hps]; omega⟩, by rw [hps]; exact hbulk⟩
    rw [hps] at hj
    obtain ⟨b, off, spot⟩ := a
    have hspot : spot = none := by
      have := World.cell?_spot (hF 0 (by omega)).1
      simpa [Addr.add] using this
    subst hspot
    have := hF j hj
    simp only [add_off, Nat.add_zero] at this
    have hg : ((List.range len).map fun i => F i)[j]'(by rw [hps]; exact hj) = F j := by simp
    rw [hg]
    exact ⟨b, off, rfl, this⟩
set_option maxRecDepth 100000 in
theorem open_more {v : Value} {d : DataW H} {p : List MemPlace} {r : Reach} {b0 : Nat} (hv : Value.okWide Tryd.prog W r b0 38 v) (h : DataW.Trod enc Tryd.prog W base spare held 38 v d p) (hz : ∀ k ∈ d.weights Tryd.prog 38, k ≤ reachBytes) (hb : Rows.uptoBulk d ≤ 1048576) :
    ∃ v0 v1 v2 v3 lm lr la lb, v = .agg #[v0, v1, v2, v3] ∧ Tols W v0 lm ∧ Tols W v1 lr ∧ Labs W v2 la ∧ Labs W v3 lb ∧ lm.length ≤ 1048576 ∧ lr.length ≤ 1048576 ∧ la.length ≤ 1048576 ∧ lb.length ≤ 1048576 := by
  obtain ⟨cs, rfl, hsz⟩ := okWide_struct Tryd.underlying38 hv
  obtain ⟨c0, c1, c2, c3, rfl⟩ := array4 (hsz.trans Tryd.cells38)
  obtain ⟨fuel, hf⟩ := h
  obtain ⟨xs, n, _, hx, _, hlen, hfs⟩ := DataW.trod_struct Tryd.underlying38 hf
  match xs, hlen with
  | [y0, y1, y2, y3], _ =>
    have h0 := hfs 0 _ rfl
    have h1 := hfs 1 _ rfl
    have h2 := hfs 2 _ rfl
    have h3 := hfs 3 _ rfl
    simp [Value.cells, Tryd.cells23, Tryd.cells22] at h0 h1 h2 h3
    obtain ⟨hd, _⟩ := Prod.mk.inj hx
    have hw : ∀ (j : Nat) (t : TypeId) (x : DataW H), [23, 23, 22, 22][j]? = some t → [y0.1, y1.1, y2.1, y3.1][j]? = some x → ∀ k ∈ x.weights Tryd.prog t, k ≤ reachBytes := fun j t x h1 h2 k hk => hz k (by
      rw [hd]
      simp only [DataW.weights, Tryd.underlying38]
      exact DataW.weights_mem_each (j := j) h1 h2 k hk)
    have hbb : ∀ x ∈ [y0.1, y1.1, y2.1, y3.1], Rows.uptoBulk x ≤ 1048576 := fun x hx => by
      have h1 : Rows.uptoBulk d = Rows.uptoBulkAll [y0.1, y1.1, y2.1, y3.1] + 1 := by rw [hd]; simp only [Rows.uptoBulk]; rfl
      have h2 := bulk_le hx
      omega
    obtain ⟨l0, t0, s0⟩ := open_tols_at h0 (hw 0 _ _ rfl rfl)
    obtain ⟨l1, t1, s1⟩ := open_tols_at h1 (hw 1 _ _ rfl rfl)
    obtain ⟨l2, t2, s2⟩ := open_labs_at h2 (hw 2 _ _ rfl rfl)
    obtain ⟨l3, t3, s3⟩ := open_labs_at h3 (hw 3 _ _ rfl rfl)
    exact ⟨c0, c1, c2, c3, l0, l1, l2, l3, rfl, t0, t1, t2, t3, Nat.le_trans s0 (hbb _ (by simp)), Nat.le_trans s1 (hbb _ (by simp)), Nat.le_trans s2 (hbb _ (by simp)), Nat.le_trans s3 (hbb _ (by simp))⟩
end
end Go.Proofs.YtnkcbmlobikjkabDoor
