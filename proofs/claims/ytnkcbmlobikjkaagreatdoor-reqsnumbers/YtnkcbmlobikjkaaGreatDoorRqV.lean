/- Layer 4: lists of requirements as arguments, opened. -/
import Derived.Test.YtnkcbmlobikjkaaGreatDoorRqUB
namespace Go.Proofs.YtnkcbmlobikjkaaGreatDoor
open Go.ChangeShapes Go.WideShapes Go.ChangeAt Go.RowKit Suf Val
theorem Tryz.cells34 : Tryz.prog.cellsOf 34 = 2 := by kernel_rfl
section
variable {H : Type} {enc : TypeId × Value → H} {W : World} {base : Nat} {spare : Nat → Bool} {held : Bool}
theorem weights_at {P : Program} {e : TypeId} : ∀ {l : List (DataW H)} {i : Nat} {d : DataW H}, l[i]? = some d → ∀ k ∈ d.weights P e, k ∈ DataW.weightsAll P e l
  | [], i, d, h, _, _ => by simp at h
  | x :: l, 0, d, h, k, hk => by
    simp only [List.getElem?_cons_zero, Option.some.injEq] at h
    subst h
    unfold DataW.weightsAll
    exact List.mem_append_left _ hk
  | x :: l, i + 1, d, h, k, hk => by
    unfold DataW.weightsAll
    exact List.mem_append_right _ (weights_at (l := l) (i := i) (by simpa using h) k hk)
theorem capd_texts {n : Nat} {c : Value} {y : DataW H × List MemPlace} (h : DataW.trod enc Tryz.prog W base spare held n 23 [c] = some y) : Capd c := by
  rcases open_strings Tryz.underlying23 Tryz.underlying9 Tryz.cells9 h with ⟨hcs, _⟩ | ⟨a, len, cap, ss, hcs, _, hl, _⟩
  · obtain rfl : c = .slice none 0 0 := by simpa using hcs
    exact capd_nil
  · obtain rfl : c = .slice (some a) len cap := by simpa using hcs
    intro a n c e
    injection e with e1 e2 e3
    omega
theorem bytes_back (k : ByteArray) : bytesT k.data.toList = k := by apply bytes_ext; rw [bytesT_list]
theorem open_req_cells {n : Nat} {c0 c1 c2 c3 : Value} {y : DataW H × List MemPlace} (hf : DataW.trod enc Tryz.prog W base spare held n 25 [c0, c1, c2, c3] = some y) (hz : ∀ k ∈ y.1.weights Tryz.prog 25, k ≤ reachBytes) :
    ∃ r : VReq, c0 = .string (bytesT r.key) ∧ c1 = .int .i64 r.op ∧ c3 = .int .i64 r.n ∧ Strs W c2 r.vals ∧ short r.key ∧ Capd c2 := by
  obtain ⟨xs, n, _, hx, _, hlen, hfs⟩ := DataW.trod_struct Tryz.underlying25 hf
  match xs, hlen with
  | [y0, y1, y2, y3], _ =>
    have h0 := hfs 0 _ rfl
    have h1 := hfs 1 _ rfl
    have h2 := hfs 2 _ rfl
    have h3 := hfs 3 _ rfl
    simp [Tryz.cells9, Tryz.cells2, Tryz.cells3, Tryz.cells23] at h0 h1 h2 h3
    obtain ⟨key, e0, x0, hk⟩ := DataW.trod_string Tryz.underlying9 h0
    obtain ⟨op, e1, _⟩ := DataW.trod_int Tryz.underlying3 h1
    obtain ⟨z, e3, _⟩ := DataW.trod_int Tryz.underlying2 h3
    obtain ⟨hd, _⟩ := Prod.mk.inj hx
    obtain ⟨l, hl, _⟩ := open_texts2 h2 (fun k hk => hz k (by
      rw [hd]
      simp only [DataW.weights, Tryz.underlying25]
      exact DataW.weights_mem_each (j := 2) rfl rfl k hk))
    have hs := hz key.data.toList.length (by
      rw [hd]
      simp only [DataW.weights, Tryz.underlying25]
      refine DataW.weights_mem_each (j := 0) rfl rfl _ ?_
      rw [x0]; simp [DataW.weights])
    have hr := reachBytes_lt
    obtain rfl : c0 = .string key := by simpa using e0
    obtain rfl : c1 = .int .i64 op := by simpa using e1
    obtain rfl : c3 = .int .i64 z := by simpa using e3
    exact ⟨⟨key.data.toList, op, l, z⟩, by rw [bytes_back], rfl, rfl, hl, by show key.data.toList.length ≤ _; omega, capd_texts h2⟩
theorem open_lab_cells {n : Nat} {c0 c1 : Value} {y : DataW H × List MemPlace} (hf : DataW.trod enc Tryz.prog W base spare held n 34 [c0, c1] = some y) (hz : ∀ k ∈ y.1.weights Tryz.prog 34, k ≤ reachBytes) :
    ∃ r : Lab, c0 = .string (bytesT r.1) ∧ c1 = .string (bytesT r.2) ∧ short r.1 ∧ short r.2 := by
  obtain ⟨xs, n, _, hx, _, hlen, hfs⟩ := DataW.trod_struct Tryz.underlying34 hf
  match xs, hlen with
  | [y0, y1], _ =>
    have h0 := hfs 0 _ rfl
    have h1 := hfs 1 _ rfl
    simp [Tryz.cells9] at h0 h1
    obtain ⟨key, e0, x0, _⟩ := DataW.trod_string Tryz.underlying9 h0
    obtain ⟨val, e1, x1, _⟩ := DataW.trod_string Tryz.underlying9 h1
    obtain ⟨hd, _⟩ := Prod.mk.inj hx
    have hs := hz key.data.toList.length (by
      rw [hd]
      simp only [DataW.weights, Tryz.underlying34]
      refine DataW.weights_mem_each (j := 0) rfl rfl _ ?_
      rw [x0]; simp [DataW.weights])
    have ht := hz val.data.toList.length (by
      rw [hd]
      simp only [DataW.weights, Tryz.underlying34]
      refine DataW.weights_mem_each (j := 1) rfl rfl _ ?_
      rw [x1]; simp [DataW.weights])
    have hr := reachBytes_lt
    obtain rfl : c0 = .string key := by simpa using e0
    obtain rfl : c1 = .string val := by simpa using e1
    exact ⟨(key.data.toList, val.data.toList), by rw [bytes_back], by rw [bytes_back], by show key.data.toList.length ≤ _; omega, by show val.data.toList.length ≤ _; omega⟩
set_option maxRecDepth 100000 in
/-- A list of requirements by value. -/
theorem open_reqs {v : Value} {d : DataW H} {p : List MemPlace} {r : Reach} {b0 : Nat} (hv : Value.okWide Tryz.prog W r b0 22 v) (h : DataW.Trod enc Tryz.prog W base spare held 22 v d p) (hz : ∀ k ∈ d.weights Tryz.prog 22, k ≤ reachBytes) :
    ∃ l, Reqs W v l := by
  obtain ⟨a0, len, cap, rfl⟩ := okWide_slice Tryz.underlying22 hv
  obtain ⟨fuel, hf⟩ := h
  rcases DataW.trod_slice Tryz.underlying22 hf with ⟨hcs, _⟩ | ⟨a, len', cap', elems, rest, n, _, hcs, hx, _, hl, hm, hlen, hel, _, _⟩
  · simp [Value.cells] at hcs
    obtain ⟨rfl, rfl, rfl⟩ := hcs
    exact ⟨[], none, 0, rfl, fun j hj => absurd hj (Nat.not_lt_zero _), by simp⟩
  · simp [Value.cells] at hcs
    obtain ⟨rfl, rfl, rfl⟩ := hcs
    obtain ⟨hd, _⟩ := Prod.mk.inj hx
    have each : ∀ i, i < len → ∃ q : VReq × Value, W.cell? ((a.add (i * 4)).add 0) = some (.string (bytesT q.1.key)) ∧ W.cell? ((a.add (i * 4)).add 1) = some (.int .i64 q.1.op) ∧ W.cell? ((a.add (i * 4)).add 2) = some q.2 ∧ W.cell? ((a.add (i * 4)).add 3) = some (.int .i64 q.1.n) ∧ Strs W q.2 q.1.vals ∧ short q.1.key ∧ Capd q.2 := by
      intro i hi
      have e := hel i hi
      have hie : i < elems.length := by omega
      rw [List.getElem?_eq_getElem hie, Tryz.cells25] at e
      obtain ⟨cs, hc, ht⟩ := Option.bind_eq_some_iff.1 e
      obtain ⟨_, hcl, hce⟩ := World.cells?_some hc
      match cs, hcl with
      | [c0, c1, c2, c3], _ =>
        obtain ⟨q, rfl, rfl, rfl, q1, q2, q3⟩ := open_req_cells ht (fun k hk => hz k (by
          rw [hd]
          simp only [DataW.weights, Tryz.underlying22]
          refine List.mem_cons_of_mem _ (List.mem_append_left _ ?_)
          exact weights_at (i := i) (by rw [List.getElem?_map, List.getElem?_eq_getElem hie]; rfl) k hk))
        exact ⟨(q, c2), by simpa using hce 0 (by omega), by simpa using hce 1 (by omega), by simpa using hce 2 (by omega), by simpa using hce 3 (by omega), q1, q2, q3⟩
    haveI : Inhabited (VReq × Value) := ⟨(⟨[], 0, [], 0⟩, .bool false)⟩
    obtain ⟨F, hF⟩ := Go.Deep.choose_lt each
    have hps : ((List.range len).map fun i => (F i).1).length = len := by simp
    have hcount : len ≤ 4398046511104 := by
      have := hz ((elems.length + rest.length) * Tryz.prog.bytesOf 25) (by
        rw [hd]; simp [DataW.weights, Tryz.underlying22])
      rw [show Tryz.prog.bytesOf 25 = 56 by kernel_rfl] at this
      have hr := reachBytes_lt
      omega
    refine ⟨(List.range len).map fun i => (F i).1, some a, cap, by rw [hps], fun j hj => ?_, by rw [hps]; exact hcount⟩
    rw [hps] at hj
    obtain ⟨b, off, spot⟩ := a
    have hspot : spot = none := by
      have := World.cell?_spot (hF 0 (by omega)).1
      simpa [Addr.add] using this
    subst hspot
    have := hF j hj
    simp only [add_off, Nat.add_zero] at this
    have hg : ((List.range len).map fun i => (F i).1)[j]'(by rw [hps]; exact hj) = (F j).1 := by simp
    rw [hg]
    exact ⟨b, off, (F j).2, rfl, this⟩
set_option maxRecDepth 100000 in
/-- A list of labels by value. -/
theorem open_labs {v : Value} {d : DataW H} {p : List MemPlace} {r : Reach} {b0 : Nat} (hv : Value.okWide Tryz.prog W r b0 35 v) (h : DataW.Trod enc Tryz.prog W base spare held 35 v d p) (hz : ∀ k ∈ d.weights Tryz.prog 35, k ≤ reachBytes) :
    ∃ l, Labs W v l := by
  obtain ⟨a0, len, cap, rfl⟩ := okWide_slice Tryz.underlying35 hv
  obtain ⟨fuel, hf⟩ := h
  rcases DataW.trod_slice Tryz.underlying35 hf with ⟨hcs, _⟩ | ⟨a, len', cap', elems, rest, n, _, hcs, hx, _, hl, hm, hlen, hel, _, _⟩
  · simp [Value.cells] at hcs
    obtain ⟨rfl, rfl, rfl⟩ := hcs
    exact ⟨[], none, 0, rfl, fun j hj => absurd hj (Nat.not_lt_zero _), by simp⟩
  · simp [Value.cells] at hcs
    obtain ⟨rfl, rfl, rfl⟩ := hcs
    obtain ⟨hd, _⟩ := Prod.mk.inj hx
    have each : ∀ i, i < len → ∃ q : Lab, W.cell? ((a.add (i * 2)).add 0) = some (.string (bytesT q.1)) ∧ W.cell? ((a.add (i * 2)).add 1) = some (.string (bytesT q.2)) ∧ short q.1 ∧ short q.2 := by
      intro i hi
      have e := hel i hi
      have hie : i < elems.length := by omega
      rw [List.getElem?_eq_getElem hie, Tryz.cells34] at e
      obtain ⟨cs, hc, ht⟩ := Option.bind_eq_some_iff.1 e
      obtain ⟨_, hcl, hce⟩ := World.cells?_some hc
      match cs, hcl with
      | [c0, c1], _ =>
        obtain ⟨q, rfl, rfl, q1, q2⟩ := open_lab_cells ht (fun k hk => hz k (by
          rw [hd]
          simp only [DataW.weights, Tryz.underlying35]
          refine List.mem_cons_of_mem _ (List.mem_append_left _ ?_)
          exact weights_at (i := i) (by rw [List.getElem?_map, List.getElem?_eq_getElem hie]; rfl) k hk))
        exact ⟨q, by simpa using hce 0 (by omega), by simpa using hce 1 (by omega), q1, q2⟩
    haveI : Inhabited (Lab) := ⟨([], [])⟩
    obtain ⟨F, hF⟩ := Go.Deep.choose_lt each
    have hps : ((List.range len).map fun i => F i).length = len := by simp
    have hcount : len ≤ 4398046511104 := by
      have := hz ((elems.length + rest.length) * Tryz.prog.bytesOf 34) (by
        rw [hd]; simp [DataW.weights, Tryz.underlying35])
      rw [show Tryz.prog.bytesOf 34 = 32 by kernel_rfl] at this
      have hr := reachBytes_lt
      omega
    refine ⟨(List.range len).map fun i => F i, some a, cap, by rw [hps], fun j hj => ?_, by rw [hps]; exact hcount⟩
    rw [hps] at hj
    obtain ⟨b, off, spot⟩ := a
    have hspot : spot = none := by
      have := World.cell?_spot (hF 0 (by omega)).1
      simpa [Addr.add] using this
    subst hspot
    have := hF j hj
    simp only [add_off, Nat.add_zero] at this
    have hg : ((List.range len).map fun i => F i)[j]'(by rw [hps]; exact hj) = F j := by simp
    rw [hg]
    exact ⟨b, off, rfl, this⟩
end
end Go.Proofs.YtnkcbmlobikjkaaGreatDoor
