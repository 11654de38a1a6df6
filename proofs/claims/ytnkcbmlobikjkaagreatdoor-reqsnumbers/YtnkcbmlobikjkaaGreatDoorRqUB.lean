/- Layer 4: sets and requirements as arguments, opened with the lengths that memory lets be. -/
import Derived.Test.YtnkcbmlobikjkaaGreatDoorRqU
namespace Go.Proofs.YtnkcbmlobikjkaaGreatDoor
open Go.ChangeShapes Go.WideShapes Go.ChangeAt Go.RowKit Suf Val
section
variable {H : Type} {enc : TypeId × Value → H} {W : World} {base : Nat} {spare : Nat → Bool} {held : Bool}
/-- A field of texts. -/
theorem open_texts2 {n : Nat} {c : Value} {y : DataW H × List MemPlace} (h : DataW.trod enc Tryz.prog W base spare held n 23 [c] = some y) (hz : ∀ k ∈ y.1.weights Tryz.prog 23, k ≤ reachBytes) : ∃ l, Strs W c l ∧ l.length ≤ 8796093022208 := by
  rcases open_strings Tryz.underlying23 Tryz.underlying9 Tryz.cells9 h with ⟨hcs, _⟩ | ⟨a, len, cap, ss, hcs, _, hl, _, hss, hx, hcell, _⟩
  · obtain rfl : c = .slice none 0 0 := by simpa using hcs
    exact ⟨[], ⟨none, 0, rfl, fun j hj => absurd hj (Nat.not_lt_zero _), by simp, by simp⟩, by simp⟩
  · obtain rfl : c = .slice (some a) len cap := by simpa using hcs
    have hls : len ≤ ss.length := by rw [hss]; split <;> omega
    have hlen2 : ((ss.take len).map fun s => s.data.toList).length ≤ 8796093022208 := by
      have := hz ((ss.length) * Tryz.prog.bytesOf 9) (by
        rw [hx]; simp [DataW.weights, Tryz.underlying23, strs, Nat.min_eq_left hls, Nat.add_sub_cancel' hls])
      rw [show Tryz.prog.bytesOf 9 = 16 by kernel_rfl] at this
      have hr := reachBytes_lt
      simp [Nat.min_eq_left hls]
      omega
    refine ⟨(ss.take len).map fun s => s.data.toList, ⟨some a, cap, by simp [Nat.min_eq_left hls], fun j hj => ?_, ?_, fun t ht => ?_⟩, hlen2⟩
    · have hj2 : j < len := by simpa [Nat.min_eq_left hls] using hj
      have hc := hcell j (by omega)
      obtain ⟨b, o, sp⟩ := a
      have hsp : sp = none := by
        cases sp with
        | none => rfl
        | some k =>
          have h0 := hcell 0 (by omega)
          unfold World.cell? Addr.add at h0
          simp at h0
          split at h0 <;> simp at h0
      subst hsp
      refine ⟨b, o, rfl, ?_⟩
      rw [add_off] at hc
      rw [hc]
      congr 2
      apply bytes_ext
      rw [bytesT_list]
      have : ss.getD j ByteArray.empty = ss[j]'(by omega) := by rw [List.getD_eq_getElem?_getD, List.getElem?_eq_getElem (by omega)]; rfl
      rw [this]; simp
    · omega
    · obtain ⟨s, hs, rfl⟩ := List.mem_map.1 ht
      have := hz s.data.toList.length (by
        rw [hx]
        simp only [DataW.weights, Tryz.underlying23]
        refine List.mem_cons_of_mem _ (List.mem_append_left _ ?_)
        exact mem_weightsAll _ hs)
      have hr := reachBytes_lt
      unfold short; omega
set_option maxRecDepth 100000 in
/-- A set by value. -/
theorem open_set2 {v : Value} {d : DataW H} {p : List MemPlace} {r : Reach} {b0 : Nat} (hv : Value.okWide Tryz.prog W r b0 42 v) (h : DataW.Trod enc Tryz.prog W base spare held 42 v d p) (hz : ∀ k ∈ d.weights Tryz.prog 42, k ≤ reachBytes) :
    ∃ (miss no num : Bool) (u : Value) (l : List Txt) (lo hi : Int), v = .agg #[.bool miss, .bool no, .bool num, u, .int .i64 lo, .int .i64 hi] ∧ Strs W u l ∧ l.length ≤ 8796093022208 := by
  obtain ⟨cs, rfl, hsz⟩ := okWide_struct Tryz.underlying42 hv
  obtain ⟨c0, c1, c2, c3, c4, c5, rfl⟩ := array6 (hsz.trans Tryz.cells42)
  obtain ⟨fuel, hf⟩ := h
  obtain ⟨xs, n, _, hx, _, hlen, hfs⟩ := DataW.trod_struct Tryz.underlying42 hf
  match xs, hlen with
  | [y0, y1, y2, y3, y4, y5], _ =>
    have h0 := hfs 0 _ rfl
    have h1 := hfs 1 _ rfl
    have h2 := hfs 2 _ rfl
    have h3 := hfs 3 _ rfl
    have h4 := hfs 4 _ rfl
    have h5 := hfs 5 _ rfl
    simp [Value.cells, Tryz.cells4, Tryz.cells2, Tryz.cells23] at h0 h1 h2 h3 h4 h5
    obtain ⟨b0, e0, _⟩ := DataW.trod_bool Tryz.underlying4 h0
    obtain ⟨b1, e1, _⟩ := DataW.trod_bool Tryz.underlying4 h1
    obtain ⟨b2, e2, _⟩ := DataW.trod_bool Tryz.underlying4 h2
    obtain ⟨lo, e4, _⟩ := DataW.trod_int Tryz.underlying2 h4
    obtain ⟨hi, e5, _⟩ := DataW.trod_int Tryz.underlying2 h5
    obtain ⟨hd, _⟩ := Prod.mk.inj hx
    obtain ⟨l, hl, hl2⟩ := open_texts2 h3 (fun k hk => hz k (by
      rw [hd]
      simp only [DataW.weights, Tryz.underlying42]
      exact DataW.weights_mem_each (j := 3) rfl rfl k hk))
    obtain rfl : c0 = .bool b0 := by simpa using e0
    obtain rfl : c1 = .bool b1 := by simpa using e1
    obtain rfl : c2 = .bool b2 := by simpa using e2
    obtain rfl : c4 = .int .i64 lo := by simpa using e4
    obtain rfl : c5 = .int .i64 hi := by simpa using e5
    exact ⟨b0, b1, b2, c3, l, lo, hi, rfl, hl, hl2⟩
set_option maxRecDepth 100000 in
/-- A requirement by value. -/
theorem open_req2 {v : Value} {d : DataW H} {p : List MemPlace} {r : Reach} {b0 : Nat} (hv : Value.okWide Tryz.prog W r b0 25 v) (h : DataW.Trod enc Tryz.prog W base spare held 25 v d p) (hz : ∀ k ∈ d.weights Tryz.prog 25, k ≤ reachBytes) :
    ∃ (key : ByteArray) (op : Int) (u : Value) (l : List Txt) (z : Int), v = .agg #[.string key, .int .i64 op, u, .int .i64 z] ∧ Strs W u l ∧ l.length ≤ 8796093022208 ∧ key.size ≤ maxLen := by
  obtain ⟨cs, rfl, hsz⟩ := okWide_struct Tryz.underlying25 hv
  obtain ⟨c0, c1, c2, c3, rfl⟩ := array4' (hsz.trans Tryz.cells25)
  obtain ⟨fuel, hf⟩ := h
  obtain ⟨xs, n, _, hx, _, hlen, hfs⟩ := DataW.trod_struct Tryz.underlying25 hf
  match xs, hlen with
  | [y0, y1, y2, y3], _ =>
    have h0 := hfs 0 _ rfl
    have h1 := hfs 1 _ rfl
    have h2 := hfs 2 _ rfl
    have h3 := hfs 3 _ rfl
    simp [Value.cells, Tryz.cells9, Tryz.cells2, Tryz.cells3, Tryz.cells23] at h0 h1 h2 h3
    obtain ⟨key, e0, _, hk⟩ := DataW.trod_string Tryz.underlying9 h0
    obtain ⟨op, e1, _⟩ := DataW.trod_int Tryz.underlying3 h1
    obtain ⟨z, e3, _⟩ := DataW.trod_int Tryz.underlying2 h3
    obtain ⟨hd, _⟩ := Prod.mk.inj hx
    obtain ⟨l, hl, hl2⟩ := open_texts2 h2 (fun k hk => hz k (by
      rw [hd]
      simp only [DataW.weights, Tryz.underlying25]
      exact DataW.weights_mem_each (j := 2) rfl rfl k hk))
    obtain rfl : c0 = .string key := by simpa using e0
    obtain rfl : c1 = .int .i64 op := by simpa using e1
    obtain rfl : c3 = .int .i64 z := by simpa using e3
    exact ⟨key, op, c2, l, z, rfl, hl, hl2, hk⟩
end
end Go.Proofs.YtnkcbmlobikjkaaGreatDoor
