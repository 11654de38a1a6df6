/- Layer 5: taints, and what is tolerated, as arguments, opened. -/
import Derived.Test.YtnkcbmlobikjkabDoorTaT
import Derived.SliceStrings
import Derived.Lib.SmallJoins
import Derived.SizedLaws
import Derived.Lib.LaidTab
namespace Go.Proofs.YtnkcbmlobikjkabDoor
open Go.ChangeShapes Go.WideShapes Go.ChangeAt Go.RowKit Suf Val
theorem add_off (b o i : Nat) : (⟨b, o, none⟩ : Addr).add i = ⟨b, o + i, none⟩ := by
  unfold Addr.add; split <;> simp_all
theorem Tryd.cells4 : Tryd.prog.cellsOf 4 = 1 := by kernel_rfl
theorem Tryd.cells26 : Tryd.prog.cellsOf 26 = 2 := by kernel_rfl
theorem Tryd.cells28 : Tryd.prog.cellsOf 28 = 3 := by kernel_rfl
section
variable {H : Type} {enc : TypeId × Value → H} {W : World} {base : Nat} {spare : Nat → Bool} {held : Bool}
theorem weights_at {P : Program} {e : TypeId} : ∀ {l : List (DataW H)} {i : Nat} {d : DataW H}, l[i]? = some d → ∀ k ∈ d.weights P e, k ∈ DataW.weightsAll P e l
  | [], i, d, h, _, _ => by simp at h
  | x :: l, 0, d, h, k, hk => by
    simp only [List.getElem?_cons_zero, Option.some.injEq] at h
    subst h
    unfold DataW.weightsAll
    exact List.mem_append_left _ hk
  | x :: l, i + 1, d, h, k, hk => by
    unfold DataW.weightsAll
    exact List.mem_append_right _ (weights_at (l := l) (i := i) (by simpa using h) k hk)
theorem bytes_back (k : ByteArray) : bytesT k.data.toList = k := by apply bytes_ext; rw [bytesT_list]
theorem open_lab_cells {n : Nat} {c0 c1 : Value} {y : DataW H × List MemPlace} (hf : DataW.trod enc Tryd.prog W base spare held n 26 [c0, c1] = some y) (hz : ∀ k ∈ y.1.weights Tryd.prog 26, k ≤ reachBytes) :
    ∃ r : Lab, c0 = .string (bytesT r.1) ∧ c1 = .string (bytesT r.2) ∧ short r.1 ∧ short r.2 := by
  obtain ⟨xs, n, _, hx, _, hlen, hfs⟩ := DataW.trod_struct Tryd.underlying26 hf
  match xs, hlen with
  | [y0, y1], _ =>
    have h0 := hfs 0 _ rfl
    have h1 := hfs 1 _ rfl
    simp [Tryd.cells9] at h0 h1
    obtain ⟨key, e0, x0, _⟩ := DataW.trod_string Tryd.underlying9 h0
    obtain ⟨val, e1, x1, _⟩ := DataW.trod_string Tryd.underlying9 h1
    obtain ⟨hd, _⟩ := Prod.mk.inj hx
    have hs := hz key.data.toList.length (by
      rw [hd]
      simp only [DataW.weights, Tryd.underlying26]
      refine DataW.weights_mem_each (j := 0) rfl rfl _ ?_
      rw [x0]; simp [DataW.weights])
    have ht := hz val.data.toList.length (by
      rw [hd]
      simp only [DataW.weights, Tryd.underlying26]
      refine DataW.weights_mem_each (j := 1) rfl rfl _ ?_
      rw [x1]; simp [DataW.weights])
    have hr := reachBytes_lt
    obtain rfl : c0 = .string key := by simpa using e0
    obtain rfl : c1 = .string val := by simpa using e1
    exact ⟨(key.data.toList, val.data.toList), by rw [bytes_back], by rw [bytes_back], by show key.data.toList.length ≤ _; omega, by show val.data.toList.length ≤ _; omega⟩
theorem open_tol_cells {n : Nat} {c0 c1 c2 : Value} {y : DataW H × List MemPlace} (hf : DataW.trod enc Tryd.prog W base spare held n 28 [c0, c1, c2] = some y) (hz : ∀ k ∈ y.1.weights Tryd.prog 28, k ≤ reachBytes) :
    ∃ r : VTol, c0 = .string (bytesT r.1) ∧ c1 = .string (bytesT r.2.1) ∧ c2 = .bool r.2.2 ∧ short r.1 ∧ short r.2.1 := by
  obtain ⟨xs, n, _, hx, _, hlen, hfs⟩ := DataW.trod_struct Tryd.underlying28 hf
  match xs, hlen with
  | [y0, y1, y2], _ =>
    have h0 := hfs 0 _ rfl
    have h1 := hfs 1 _ rfl
    have h2 := hfs 2 _ rfl
    simp [Tryd.cells9, Tryd.cells4] at h0 h1 h2
    obtain ⟨key, e0, x0, _⟩ := DataW.trod_string Tryd.underlying9 h0
    obtain ⟨val, e1, x1, _⟩ := DataW.trod_string Tryd.underlying9 h1
    obtain ⟨q, e2, _⟩ := DataW.trod_bool Tryd.underlying4 h2
    obtain ⟨hd, _⟩ := Prod.mk.inj hx
    have hs := hz key.data.toList.length (by
      rw [hd]
      simp only [DataW.weights, Tryd.underlying28]
      refine DataW.weights_mem_each (j := 0) rfl rfl _ ?_
      rw [x0]; simp [DataW.weights])
    have ht := hz val.data.toList.length (by
      rw [hd]
      simp only [DataW.weights, Tryd.underlying28]
      refine DataW.weights_mem_each (j := 1) rfl rfl _ ?_
      rw [x1]; simp [DataW.weights])
    have hr := reachBytes_lt
    obtain rfl : c0 = .string key := by simpa using e0
    obtain rfl : c1 = .string val := by simpa using e1
    obtain rfl : c2 = .bool q := by simpa using e2
    exact ⟨(key.data.toList, val.data.toList, q), by rw [bytes_back], by rw [bytes_back], rfl, by show key.data.toList.length ≤ _; omega, by show val.data.toList.length ≤ _; omega⟩
set_option maxRecDepth 100000 in
/-- A list of labels by value. -/
theorem open_labs {v : Value} {d : DataW H} {p : List MemPlace} {r : Reach} {b0 : Nat} (hv : Value.okWide Tryd.prog W r b0 22 v) (h : DataW.Trod enc Tryd.prog W base spare held 22 v d p) (hz : ∀ k ∈ d.weights Tryd.prog 22, k ≤ reachBytes) :
    ∃ l, Labs W v l := by
  obtain ⟨a0, len, cap, rfl⟩ := okWide_slice Tryd.underlying22 hv
  obtain ⟨fuel, hf⟩ := h
  rcases DataW.trod_slice Tryd.underlying22 hf with ⟨hcs, _⟩ | ⟨a, len', cap', elems, rest, n, _, hcs, hx, _, hl, hm, hlen, hel, _, _⟩
  · simp [Value.cells] at hcs
    obtain ⟨rfl, rfl, rfl⟩ := hcs
    exact ⟨[], none, 0, rfl, fun j hj => absurd hj (Nat.not_lt_zero _), by simp, by simp⟩
  · simp [Value.cells] at hcs
    obtain ⟨rfl, rfl, rfl⟩ := hcs
    obtain ⟨hd, _⟩ := Prod.mk.inj hx
    have each : ∀ i, i < len → ∃ q : Lab, W.cell? ((a.add (i * 2)).add 0) = some (.string (bytesT q.1)) ∧ W.cell? ((a.add (i * 2)).add 1) = some (.string (bytesT q.2)) ∧ short q.1 ∧ short q.2 := by
      intro i hi
      have e := hel i hi
      have hie : i < elems.length := by omega
      rw [List.getElem?_eq_getElem hie, Tryd.cells26] at e
      obtain ⟨cs, hc, ht⟩ := Option.bind_eq_some_iff.1 e
      obtain ⟨_, hcl, hce⟩ := World.cells?_some hc
      match cs, hcl with
      | [c0, c1], _ =>
        obtain ⟨q, rfl, rfl, q1, q2⟩ := open_lab_cells ht (fun k hk => hz k (by
          rw [hd]
          simp only [DataW.weights, Tryd.underlying22]
          refine List.mem_cons_of_mem _ (List.mem_append_left _ ?_)
          exact weights_at (i := i) (by rw [List.getElem?_map, List.getElem?_eq_getElem hie]; rfl) k hk))
        exact ⟨q, by simpa using hce 0 (by omega), by simpa using hce 1 (by omega), q1, q2⟩
    haveI : Inhabited (Lab) := ⟨([], [])⟩
    obtain ⟨F, hF⟩ := Go.Deep.choose_lt each
    have hps : ((List.range len).map fun i => F i).length = len := by simp
    have hcount : len ≤ 4398046511104 := by
      have := hz ((elems.length + rest.length) * Tryd.prog.bytesOf 26) (by
        rw [hd]; simp [DataW.weights, Tryd.underlying22])
      rw [show Tryd.prog.bytesOf 26 = 32 by kernel_rfl] at this
      have hr := reachBytes_lt
      omega
    refine ⟨(List.range len).map fun i => F i, some a, cap, by rw [hps], fun j hj => ?_, by rw [hps]; exact hcount, by rw [hps]; omega⟩
    rw [hps] at hj
    obtain ⟨b, off, spot⟩ := a
    have hspot : spot = none := by
      have := World.cell?_spot (hF 0 (by omega)).1
      simpa [Addr.add] using this
    subst hspot
    have := hF j hj
    simp only [add_off, Nat.add_zero] at this
    have hg : ((List.range len).map fun i => F i)[j]'(by rw [hps]; exact hj) = F j := by simp
    rw [hg]
    exact ⟨b, off, rfl, this⟩
set_option maxRecDepth 100000 in
/-- A list of what is tolerated by value. -/
theorem open_tols {v : Value} {d : DataW H} {p : List MemPlace} {r : Reach} {b0 : Nat} (hv : Value.okWide Tryd.prog W r b0 23 v) (h : DataW.Trod enc Tryd.prog W base spare held 23 v d p) (hz : ∀ k ∈ d.weights Tryd.prog 23, k ≤ reachBytes) :
    ∃ l, Tols W v l := by
  obtain ⟨a0, len, cap, rfl⟩ := okWide_slice Tryd.underlying23 hv
  obtain ⟨fuel, hf⟩ := h
  rcases DataW.trod_slice Tryd.underlying23 hf with ⟨hcs, _⟩ | ⟨a, len', cap', elems, rest, n, _, hcs, hx, _, hl, hm, hlen, hel, _, _⟩
  · simp [Value.cells] at hcs
    obtain ⟨rfl, rfl, rfl⟩ := hcs
    exact ⟨[], none, 0, rfl, fun j hj => absurd hj (Nat.not_lt_zero _), by simp, by simp⟩
  · simp [Value.cells] at hcs
    obtain ⟨rfl, rfl, rfl⟩ := hcs
    obtain ⟨hd, _⟩ := Prod.mk.inj hx
    have each : ∀ i, i < len → ∃ q : VTol, W.cell? ((a.add (i * 3)).add 0) = some (.string (bytesT q.1)) ∧ W.cell? ((a.add (i * 3)).add 1) = some (.string (bytesT q.2.1)) ∧ W.cell? ((a.add (i * 3)).add 2) = some (.bool q.2.2) ∧ short q.1 ∧ short q.2.1 := by
      intro i hi
      have e := hel i hi
      have hie : i < elems.length := by omega
      rw [List.getElem?_eq_getElem hie, Tryd.cells28] at e
      obtain ⟨cs, hc, ht⟩ := Option.bind_eq_some_iff.1 e
      obtain ⟨_, hcl, hce⟩ := World.cells?_some hc
      match cs, hcl with
      | [c0, c1, c2], _ =>
        obtain ⟨q, rfl, rfl, rfl, q1, q2⟩ := open_tol_cells ht (fun k hk => hz k (by
          rw [hd]
          simp only [DataW.weights, Tryd.underlying23]
          refine List.mem_cons_of_mem _ (List.mem_append_left _ ?_)
          exact weights_at (i := i) (by rw [List.getElem?_map, List.getElem?_eq_getElem hie]; rfl) k hk))
        exact ⟨q, by simpa using hce 0 (by omega), by simpa using hce 1 (by omega), by simpa using hce 2 (by omega), q1, q2⟩
    haveI : Inhabited (VTol) := ⟨([], [], false)⟩
    obtain ⟨F, hF⟩ := Go.Deep.choose_lt each
    have hps : ((List.range len).map fun i => F i).length = len := by simp
    have hcount : len ≤ 4398046511104 := by
      have := hz ((elems.length + rest.length) * Tryd.prog.bytesOf 28) (by
        rw [hd]; simp [DataW.weights, Tryd.underlying23])
      rw [show Tryd.prog.bytesOf 28 = 40 by kernel_rfl] at this
      have hr := reachBytes_lt
      omega
    refine ⟨(List.range len).map fun i => F i, some a, cap, by rw [hps], fun j hj => ?_, by rw [hps]; exact hcount, by rw [hps]; omega⟩
    rw [hps] at hj
    obtain ⟨b, off, spot⟩ := a
    have hspot : spot = none := by
      have := World.cell?_spot (hF 0 (by omega)).1
      simpa [Addr.add] using this
    subst hspot
    have := hF j hj
    simp only [add_off, Nat.add_zero] at this
    have hg : ((List.range len).map fun i => F i)[j]'(by rw [hps]; exact hj) = F j := by simp
    rw [hg]
    exact ⟨b, off, rfl, this⟩
end
end Go.Proofs.YtnkcbmlobikjkabDoor
