/- Layer 4: sets, requirements and texts as arguments, opened. -/
import Derived.Test.YtnkcbmlobikjkaaGreatDoorRqTG
import Derived.SliceStrings
import Derived.Lib.SmallJoins
import Derived.SizedLaws
namespace Go.Proofs.YtnkcbmlobikjkaaGreatDoor
open Go.ChangeShapes Go.WideShapes Go.ChangeAt Go.RowKit Suf Val

theorem add_off (b o i : Nat) : (⟨b, o, none⟩ : Addr).add i = ⟨b, o + i, none⟩ := by
  unfold Addr.add; split <;> simp_all
theorem Tryz.cells42 : Tryz.prog.cellsOf 42 = 6 := by kernel_rfl
theorem Tryz.cells25 : Tryz.prog.cellsOf 25 = 4 := by kernel_rfl
theorem Tryz.cells4 : Tryz.prog.cellsOf 4 = 1 := by kernel_rfl
theorem Tryz.cells2 : Tryz.prog.cellsOf 2 = 1 := by kernel_rfl
theorem Tryz.cells3 : Tryz.prog.cellsOf 3 = 1 := by kernel_rfl
theorem Tryz.cells23 : Tryz.prog.cellsOf 23 = 1 := by kernel_rfl
theorem array6 {α : Type} {cs : Array α} (h : cs.size = 6) : ∃ c0 c1 c2 c3 c4 c5, cs = #[c0, c1, c2, c3, c4, c5] := by
  obtain ⟨l⟩ := cs
  match l, h with
  | [c0, c1, c2, c3, c4, c5], _ => exact ⟨c0, c1, c2, c3, c4, c5, rfl⟩
theorem mem_weightsAll {H : Type} {s : ByteArray} : ∀ (l : List ByteArray), s ∈ l → s.data.toList.length ∈ DataW.weightsAll Tryz.prog 9 (strs (H := H) l)
  | a :: l, h => by
    unfold strs
    rw [List.map_cons]
    unfold DataW.weightsAll
    rcases List.mem_cons.1 h with rfl | h
    · exact List.mem_append_left _ (by simp [DataW.weights])
    · exact List.mem_append_right _ (mem_weightsAll l h)
theorem array4' {α : Type} {cs : Array α} (h : cs.size = 4) : ∃ c0 c1 c2 c3, cs = #[c0, c1, c2, c3] := by
  obtain ⟨l⟩ := cs
  match l, h with
  | [c0, c1, c2, c3], _ => exact ⟨c0, c1, c2, c3, rfl⟩
section
variable {H : Type} {enc : TypeId × Value → H} {W : World} {base : Nat} {spare : Nat → Bool} {held : Bool}
/-- A field of texts. -/
theorem open_texts {n : Nat} {c : Value} {y : DataW H × List MemPlace} (h : DataW.trod enc Tryz.prog W base spare held n 23 [c] = some y) (hz : ∀ k ∈ y.1.weights Tryz.prog 23, k ≤ reachBytes) : ∃ l, Strs W c l := by
  rcases open_strings Tryz.underlying23 Tryz.underlying9 Tryz.cells9 h with ⟨hcs, _⟩ | ⟨a, len, cap, ss, hcs, _, hl, _, hss, hx, hcell, _⟩
  · obtain rfl : c = .slice none 0 0 := by simpa using hcs
    exact ⟨[], none, 0, rfl, fun j hj => absurd hj (Nat.not_lt_zero _), by simp, by simp⟩
  · obtain rfl : c = .slice (some a) len cap := by simpa using hcs
    have hls : len ≤ ss.length := by rw [hss]; split <;> omega
    refine ⟨(ss.take len).map fun s => s.data.toList, some a, cap, by simp [Nat.min_eq_left hls], fun j hj => ?_, ?_, fun t ht => ?_⟩
    · have hj2 : j < len := by simpa [Nat.min_eq_left hls] using hj
      have hc := hcell j (by omega)
      obtain ⟨b, o, sp⟩ := a
      have hsp : sp = none := by
        cases sp with
        | none => rfl
        | some k =>
          have h0 := hcell 0 (by omega)
          unfold World.cell? Addr.add at h0
          simp at h0
          split at h0 <;> simp at h0
      subst hsp
      refine ⟨b, o, rfl, ?_⟩
      rw [add_off] at hc
      rw [hc]
      congr 2
      apply bytes_ext
      rw [bytesT_list]
      have : ss.getD j ByteArray.empty = ss[j]'(by omega) := by rw [List.getD_eq_getElem?_getD, List.getElem?_eq_getElem (by omega)]; rfl
      rw [this]; simp
    · have := hz ((ss.length) * Tryz.prog.bytesOf 9) (by
        rw [hx]; simp [DataW.weights, Tryz.underlying23, strs, Nat.min_eq_left hls, Nat.add_sub_cancel' hls])
      rw [show Tryz.prog.bytesOf 9 = 16 by kernel_rfl] at this
      have hr := reachBytes_lt
      simp [Nat.min_eq_left hls]
      omega
    · obtain ⟨s, hs, rfl⟩ := List.mem_map.1 ht
      have := hz s.data.toList.length (by
        rw [hx]
        simp only [DataW.weights, Tryz.underlying23]
        refine List.mem_cons_of_mem _ (List.mem_append_left _ ?_)
        exact mem_weightsAll _ hs)
      have hr := reachBytes_lt
      unfold short; omega
set_option maxRecDepth 100000 in
/-- A set by value. -/
theorem open_set {v : Value} {d : DataW H} {p : List MemPlace} {r : Reach} {b0 : Nat} (hv : Value.okWide Tryz.prog W r b0 42 v) (h : DataW.Trod enc Tryz.prog W base spare held 42 v d p) (hz : ∀ k ∈ d.weights Tryz.prog 42, k ≤ reachBytes) :
    ∃ (miss no num : Bool) (u : Value) (l : List Txt) (lo hi : Int), v = .agg #[.bool miss, .bool no, .bool num, u, .int .i64 lo, .int .i64 hi] ∧ Strs W u l := by
  obtain ⟨cs, rfl, hsz⟩ := okWide_struct Tryz.underlying42 hv
  obtain ⟨c0, c1, c2, c3, c4, c5, rfl⟩ := array6 (hsz.trans Tryz.cells42)
  obtain ⟨fuel, hf⟩ := h
  obtain ⟨xs, n, _, hx, _, hlen, hfs⟩ := DataW.trod_struct Tryz.underlying42 hf
  match xs, hlen with
  | [y0, y1, y2, y3, y4, y5], _ =>
    have h0 := hfs 0 _ rfl
    have h1 := hfs 1 _ rfl
    have h2 := hfs 2 _ rfl
    have h3 := hfs 3 _ rfl
    have h4 := hfs 4 _ rfl
    have h5 := hfs 5 _ rfl
    simp [Value.cells, Tryz.cells4, Tryz.cells2, Tryz.cells23] at h0 h1 h2 h3 h4 h5
    obtain ⟨b0, e0, _⟩ := DataW.trod_bool Tryz.underlying4 h0
    obtain ⟨b1, e1, _⟩ := DataW.trod_bool Tryz.underlying4 h1
    obtain ⟨b2, e2, _⟩ := DataW.trod_bool Tryz.underlying4 h2
    obtain ⟨lo, e4, _⟩ := DataW.trod_int Tryz.underlying2 h4
    obtain ⟨hi, e5, _⟩ := DataW.trod_int Tryz.underlying2 h5
    obtain ⟨hd, _⟩ := Prod.mk.inj hx
    obtain ⟨l, hl⟩ := open_texts h3 (fun k hk => hz k (by
      rw [hd]
      simp only [DataW.weights, Tryz.underlying42]
      exact DataW.weights_mem_each (j := 3) rfl rfl k hk))
    obtain rfl : c0 = .bool b0 := by simpa using e0
    obtain rfl : c1 = .bool b1 := by simpa using e1
    obtain rfl : c2 = .bool b2 := by simpa using e2
    obtain rfl : c4 = .int .i64 lo := by simpa using e4
    obtain rfl : c5 = .int .i64 hi := by simpa using e5
    exact ⟨b0, b1, b2, c3, l, lo, hi, rfl, hl⟩
set_option maxRecDepth 100000 in
/-- A requirement by value. -/
theorem open_req {v : Value} {d : DataW H} {p : List MemPlace} {r : Reach} {b0 : Nat} (hv : Value.okWide Tryz.prog W r b0 25 v) (h : DataW.Trod enc Tryz.prog W base spare held 25 v d p) (hz : ∀ k ∈ d.weights Tryz.prog 25, k ≤ reachBytes) :
    ∃ (key : ByteArray) (op : Int) (u : Value) (l : List Txt) (z : Int), v = .agg #[.string key, .int .i64 op, u, .int .i64 z] ∧ Strs W u l ∧ key.size ≤ maxLen := by
  obtain ⟨cs, rfl, hsz⟩ := okWide_struct Tryz.underlying25 hv
  obtain ⟨c0, c1, c2, c3, rfl⟩ := array4' (hsz.trans Tryz.cells25)
  obtain ⟨fuel, hf⟩ := h
  obtain ⟨xs, n, _, hx, _, hlen, hfs⟩ := DataW.trod_struct Tryz.underlying25 hf
  match xs, hlen with
  | [y0, y1, y2, y3], _ =>
    have h0 := hfs 0 _ rfl
    have h1 := hfs 1 _ rfl
    have h2 := hfs 2 _ rfl
    have h3 := hfs 3 _ rfl
    simp [Value.cells, Tryz.cells9, Tryz.cells2, Tryz.cells3, Tryz.cells23] at h0 h1 h2 h3
    obtain ⟨key, e0, _, hk⟩ := DataW.trod_string Tryz.underlying9 h0
    obtain ⟨op, e1, _⟩ := DataW.trod_int Tryz.underlying3 h1
    obtain ⟨z, e3, _⟩ := DataW.trod_int Tryz.underlying2 h3
    obtain ⟨hd, _⟩ := Prod.mk.inj hx
    obtain ⟨l, hl⟩ := open_texts h2 (fun k hk => hz k (by
      rw [hd]
      simp only [DataW.weights, Tryz.underlying25]
      exact DataW.weights_mem_each (j := 2) rfl rfl k hk))
    obtain rfl : c0 = .string key := by simpa using e0
    obtain rfl : c1 = .int .i64 op := by simpa using e1
    obtain rfl : c3 = .int .i64 z := by simpa using e3
    exact ⟨key, op, c2, l, z, rfl, hl, hk⟩
end
end Go.Proofs.YtnkcbmlobikjkaaGreatDoor

/- Layer 4: sets and requirements as arguments, opened with the lengths that memory lets be. -/
namespace Go.Proofs.YtnkcbmlobikjkaaGreatDoor
open Go.ChangeShapes Go.WideShapes Go.ChangeAt Go.RowKit Suf Val
section
variable {H : Type} {enc : TypeId × Value → H} {W : World} {base : Nat} {spare : Nat → Bool} {held : Bool}
/-- A field of texts. -/
theorem open_texts2 {n : Nat} {c : Value} {y : DataW H × List MemPlace} (h : DataW.trod enc Tryz.prog W base spare held n 23 [c] = some y) (hz : ∀ k ∈ y.1.weights Tryz.prog 23, k ≤ reachBytes) : ∃ l, Strs W c l ∧ l.length ≤ 8796093022208 := by
  rcases open_strings Tryz.underlying23 Tryz.underlying9 Tryz.cells9 h with ⟨hcs, _⟩ | ⟨a, len, cap, ss, hcs, _, hl, _, hss, hx, hcell, _⟩
  · obtain rfl : c = .slice none 0 0 := by simpa using hcs
    exact ⟨[], ⟨none, 0, rfl, fun j hj => absurd hj (Nat.not_lt_zero _), by simp, by simp⟩, by simp⟩
  · obtain rfl : c = .slice (some a) len cap := by simpa using hcs
    have hls : len ≤ ss.length := by rw [hss]; split <;> omega
    have hlen2 : ((ss.take len).map fun s => s.data.toList).length ≤ 8796093022208 := by
      have := hz ((ss.length) * Tryz.prog.bytesOf 9) (by
        rw [hx]; simp [DataW.weights, Tryz.underlying23, strs, Nat.min_eq_left hls, Nat.add_sub_cancel' hls])
      rw [show Tryz.prog.bytesOf 9 = 16 by kernel_rfl] at this
      have hr := reachBytes_lt
      simp [Nat.min_eq_left hls]
      omega
    refine ⟨(ss.take len).map fun s => s.data.toList, ⟨some a, cap, by simp [Nat.min_eq_left hls], fun j hj => ?_, ?_, fun t ht => ?_⟩, hlen2⟩
    · have hj2 : j < len := by simpa [Nat.min_eq_left hls] using hj
      have hc := hcell j (by omega)
      obtain ⟨b, o, sp⟩ := a
      have hsp : sp = none := by
        cases sp with
        | none => rfl
        | some k =>
          have h0 := hcell 0 (by omega)
          unfold World.cell? Addr.add at h0
          simp at h0
          split at h0 <;> simp at h0
      subst hsp
      refine ⟨b, o, rfl, ?_⟩
      rw [add_off] at hc
      rw [hc]
      congr 2
      apply bytes_ext
      rw [bytesT_list]
      have : ss.getD j ByteArray.empty = ss[j]'(by omega) := by rw [List.getD_eq_getElem?_getD, List.getElem?_eq_getElem (by omega)]; rfl
      rw [this]; simp
    · omega
    · obtain ⟨s, hs, rfl⟩ := List.mem_map.1 ht
      have := hz s.data.toList.length (by
        rw [hx]
        simp only [DataW.weights, Tryz.underlying23]
        refine List.mem_cons_of_mem _ (List.mem_append_left _ ?_)
        exact mem_weightsAll _ hs)
      have hr := reachBytes_lt
      unfold short; omega
set_option maxRecDepth 100000 in
/-- A set by value. -/
theorem open_set2 {v : Value} {d : DataW H} {p : List MemPlace} {r : Reach} {b0 : Nat} (hv : Value.okWide Tryz.prog W r b0 42 v) (h : DataW.Trod enc Tryz.prog W base spare held 42 v d p) (hz : ∀ k ∈ d.weights Tryz.prog 42, k ≤ reachBytes) :
    ∃ (miss no num : Bool) (u : Value) (l : List Txt) (lo hi : Int), v = .agg #[.bool miss, .bool no, .bool num, u, .int .i64 lo, .int .i64 hi] ∧ Strs W u l ∧ l.length ≤ 8796093022208 := by
  obtain ⟨cs, rfl, hsz⟩ := okWide_struct Tryz.underlying42 hv
  obtain ⟨c0, c1, c2, c3, c4, c5, rfl⟩ := array6 (hsz.trans Tryz.cells42)
  obtain ⟨fuel, hf⟩ := h
  obtain ⟨xs, n, _, hx, _, hlen, hfs⟩ := DataW.trod_struct Tryz.underlying42 hf
  match xs, hlen with
  | [y0, y1, y2, y3, y4, y5], _ =>
    have h0 := hfs 0 _ rfl
    have h1 := hfs 1 _ rfl
    have h2 := hfs 2 _ rfl
    have h3 := hfs 3 _ rfl
    have h4 := hfs 4 _ rfl
    have h5 := hfs 5 _ rfl
    simp [Value.cells, Tryz.cells4, Tryz.cells2, Tryz.cells23] at h0 h1 h2 h3 h4 h5
    obtain ⟨b0, e0, _⟩ := DataW.trod_bool Tryz.underlying4 h0
    obtain ⟨b1, e1, _⟩ := DataW.trod_bool Tryz.underlying4 h1
    obtain ⟨b2, e2, _⟩ := DataW.trod_bool Tryz.underlying4 h2
    obtain ⟨lo, e4, _⟩ := DataW.trod_int Tryz.underlying2 h4
    obtain ⟨hi, e5, _⟩ := DataW.trod_int Tryz.underlying2 h5
    obtain ⟨hd, _⟩ := Prod.mk.inj hx
    obtain ⟨l, hl, hl2⟩ := open_texts2 h3 (fun k hk => hz k (by
      rw [hd]
      simp only [DataW.weights, Tryz.underlying42]
      exact DataW.weights_mem_each (j := 3) rfl rfl k hk))
    obtain rfl : c0 = .bool b0 := by simpa using e0
    obtain rfl : c1 = .bool b1 := by simpa using e1
    obtain rfl : c2 = .bool b2 := by simpa using e2
    obtain rfl : c4 = .int .i64 lo := by simpa using e4
    obtain rfl : c5 = .int .i64 hi := by simpa using e5
    exact ⟨b0, b1, b2, c3, l, lo, hi, rfl, hl, hl2⟩
set_option maxRecDepth 100000 in
/-- A requirement by value. -/
theorem open_req2 {v : Value} {d : DataW H} {p : List MemPlace} {r : Reach} {b0 : Nat} (hv : Value.okWide Tryz.prog W r b0 25 v) (h : DataW.Trod enc Tryz.prog W base spare held 25 v d p) (hz : ∀ k ∈ d.weights Tryz.prog 25, k ≤ reachBytes) :
    ∃ (key : ByteArray) (op : Int) (u : Value) (l : List Txt) (z : Int), v = .agg #[.string key, .int .i64 op, u, .int .i64 z] ∧ Strs W u l ∧ l.length ≤ 8796093022208 ∧ key.size ≤ maxLen := by
  obtain ⟨cs, rfl, hsz⟩ := okWide_struct Tryz.underlying25 hv
  obtain ⟨c0, c1, c2, c3, rfl⟩ := array4' (hsz.trans Tryz.cells25)
  obtain ⟨fuel, hf⟩ := h
  obtain ⟨xs, n, _, hx, _, hlen, hfs⟩ := DataW.trod_struct Tryz.underlying25 hf
  match xs, hlen with
  | [y0, y1, y2, y3], _ =>
    have h0 := hfs 0 _ rfl
    have h1 := hfs 1 _ rfl
    have h2 := hfs 2 _ rfl
    have h3 := hfs 3 _ rfl
    simp [Value.cells, Tryz.cells9, Tryz.cells2, Tryz.cells3, Tryz.cells23] at h0 h1 h2 h3
    obtain ⟨key, e0, _, hk⟩ := DataW.trod_string Tryz.underlying9 h0
    obtain ⟨op, e1, _⟩ := DataW.trod_int Tryz.underlying3 h1
    obtain ⟨z, e3, _⟩ := DataW.trod_int Tryz.underlying2 h3
    obtain ⟨hd, _⟩ := Prod.mk.inj hx
    obtain ⟨l, hl, hl2⟩ := open_texts2 h2 (fun k hk => hz k (by
      rw [hd]
      simp only [DataW.weights, Tryz.underlying25]
      exact DataW.weights_mem_each (j := 2) rfl rfl k hk))
    obtain rfl : c0 = .string key := by simpa using e0
    obtain rfl : c1 = .int .i64 op := by simpa using e1
    obtain rfl : c3 = .int .i64 z := by simpa using e3
    exact ⟨key, op, c2, l, z, rfl, hl, hl2, hk⟩
end
end Go.Proofs.YtnkcbmlobikjkaaGreatDoor

/- Layer 4: lists of requirements as arguments, opened. -/
namespace Go.Proofs.YtnkcbmlobikjkaaGreatDoor
open Go.ChangeShapes Go.WideShapes Go.ChangeAt Go.RowKit Suf Val
theorem Tryz.cells34 : Tryz.prog.cellsOf 34 = 2 := by kernel_rfl
section
variable {H : Type} {enc : TypeId × Value → H} {W : World} {base : Nat} {spare : Nat → Bool} {held : Bool}
theorem weights_at {P : Program} {e : TypeId} : ∀ {l : List (DataW H)} {i : Nat} {d : DataW H}, l[i]? = some d → ∀ k ∈ d.weights P e, k ∈ DataW.weightsAll P e l
  | [], i, d, h, _, _ => by simp at h
  | x :: l, 0, d, h, k, hk => by
    simp only [List.getElem?_cons_zero, Option.some.injEq] at h
    subst h
    unfold DataW.weightsAll
    exact List.mem_append_left _ hk
  | x :: l, i + 1, d, h, k, hk => by
    unfold DataW.weightsAll
    exact List.mem_append_right _ (weights_at (l := l) (i := i) (by simpa using h) k hk)
theorem capd_texts {n : Nat} {c : Value} {y : DataW H × List MemPlace} (h : DataW.trod enc Tryz.prog W base spare held n 23 [c] = some y) : Capd c := by
  rcases open_strings Tryz.underlying23 Tryz.underlying9 Tryz.cells9 h with ⟨hcs, _⟩ | ⟨a, len, cap, ss, hcs, _, hl, _⟩
  · obtain rfl : c = .slice none 0 0 := by simpa using hcs
    exact capd_nil
  · obtain rfl : c = .slice (some a) len cap := by simpa using hcs
    intro a n c e
    injection e with e1 e2 e3
    omega
theorem bytes_back (k : ByteArray) : bytesT k.data.toList = k := by apply bytes_ext; rw [bytesT_list]
theorem open_req_cells {n : Nat} {c0 c1 c2 c3 : Value} {y : DataW H × List MemPlace} (hf : DataW.trod enc Tryz.prog W base spare held n 25 [c0, c1, c2, c3] = some y) (hz : ∀ k ∈ y.1.weights Tryz.prog 25, k ≤ reachBytes) :
    ∃ r : VReq, c0 = .string (bytesT r.key) ∧ c1 = .int .i64 r.op ∧ c3 = .int .i64 r.n ∧ Strs W c2 r.vals ∧ short r.key ∧ Capd c2 := by
  obtain ⟨xs, n, _, hx, _, hlen, hfs⟩ := DataW.trod_struct Tryz.underlying25 hf
  match xs, hlen with
  | [y0, y1, y2, y3], _ =>
    have h0 := hfs 0 _ rfl
    have h1 := hfs 1 _ rfl
    have h2 := hfs 2 _ rfl
    have h3 := hfs 3 _ rfl
    simp [Tryz.cells9, Tryz.cells2, Tryz.cells3, Tryz.cells23] at h0 h1 h2 h3
    obtain ⟨key, e0, x0, hk⟩ := DataW.trod_string Tryz.underlying9 h0
    obtain ⟨op, e1, _⟩ := DataW.trod_int Tryz.underlying3 h1
    obtain ⟨z, e3, _⟩ := DataW.trod_int Tryz.underlying2 h3
    obtain ⟨hd, _⟩ := Prod.mk.inj hx
    obtain ⟨l, hl, _⟩ := open_texts2 h2 (fun k hk => hz k (by
      rw [hd]
      simp only [DataW.weights, Tryz.underlying25]
      exact DataW.weights_mem_each (j := 2) rfl rfl k hk))
    have hs := hz key.data.toList.length (by
      rw [hd]
      simp only [DataW.weights, Tryz.underlying25]
      refine DataW.weights_mem_each (j := 0) rfl rfl _ ?_
      rw [x0]; simp [DataW.weights])
    have hr := reachBytes_lt
    obtain rfl : c0 = .string key := by simpa using e0
    obtain rfl : c1 = .int .i64 op := by simpa using e1
    obtain rfl : c3 = .int .i64 z := by simpa using e3
    exact ⟨⟨key.data.toList, op, l, z⟩, by rw [bytes_back], rfl, rfl, hl, by show key.data.toList.length ≤ _; omega, capd_texts h2⟩
theorem open_lab_cells {n : Nat} {c0 c1 : Value} {y : DataW H × List MemPlace} (hf : DataW.trod enc Tryz.prog W base spare held n 34 [c0, c1] = some y) (hz : ∀ k ∈ y.1.weights Tryz.prog 34, k ≤ reachBytes) :
    ∃ r : Lab, c0 = .string (bytesT r.1) ∧ c1 = .string (bytesT r.2) ∧ short r.1 ∧ short r.2 := by
  obtain ⟨xs, n, _, hx, _, hlen, hfs⟩ := DataW.trod_struct Tryz.underlying34 hf
  match xs, hlen with
  | [y0, y1], _ =>
    have h0 := hfs 0 _ rfl
    have h1 := hfs 1 _ rfl
    simp [Tryz.cells9] at h0 h1
    obtain ⟨key, e0, x0, _⟩ := DataW.trod_string Tryz.underlying9 h0
    obtain ⟨val, e1, x1, _⟩ := DataW.trod_string Tryz.underlying9 h1
    obtain ⟨hd, _⟩ := Prod.mk.inj hx
    have hs := hz key.data.toList.length (by
      rw [hd]
      simp only [DataW.weights, Tryz.underlying34]
      refine DataW.weights_mem_each (j := 0) rfl rfl _ ?_
      rw [x0]; simp [DataW.weights])
    have ht := hz val.data.toList.length (by
      rw [hd]
      simp only [DataW.weights, Tryz.underlying34]
      refine DataW.weights_mem_each (j := 1) rfl rfl _ ?_
      rw [x1]; simp [DataW.weights])
    have hr := reachBytes_lt
    obtain rfl : c0 = .string key := by simpa using e0
    obtain rfl : c1 = .string val := by simpa using e1
    exact ⟨(key.data.toList, val.data.toList), by rw [bytes_back], by rw [bytes_back], by show key.data.toList.length ≤ _; omega, by show val.data.toList.length ≤ _; omega⟩
set_option maxRecDepth 100000 in
/-- A list of requirements by value. -/
theorem open_reqs {v : Value} {d : DataW H} {p : List MemPlace} {r : Reach} {b0 : Nat} (hv : Value.okWide Tryz.prog W r b0 22 v) (h : DataW.Trod enc Tryz.prog W base spare held 22 v d p) (hz : ∀ k ∈ d.weights Tryz.prog 22, k ≤ reachBytes) :
    ∃ l, Reqs W v l := by
  obtain ⟨a0, len, cap, rfl⟩ := okWide_slice Tryz.underlying22 hv
  obtain ⟨fuel, hf⟩ := h
  rcases DataW.trod_slice Tryz.underlying22 hf with ⟨hcs, _⟩ | ⟨a, len', cap', elems, rest, n, _, hcs, hx, _, hl, hm, hlen, hel, _, _⟩
  · simp [Value.cells] at hcs
    obtain ⟨rfl, rfl, rfl⟩ := hcs
    exact ⟨[], none, 0, rfl, fun j hj => absurd hj (Nat.not_lt_zero _), by simp⟩
  · simp [Value.cells] at hcs
    obtain ⟨rfl, rfl, rfl⟩ := hcs
    obtain ⟨hd, _⟩ := Prod.mk.inj hx
    have each : ∀ i, i < len → ∃ q : VReq × Value, W.cell? ((a.add (i * 4)).add 0) = some (.string (bytesT q.1.key)) ∧ W.cell? ((a.add (i * 4)).add 1) = some (.int .i64 q.1.op) ∧ W.cell? ((a.add (i * 4)).add 2) = some q.2 ∧ W.cell? ((a.add (i * 4)).add 3) = some (.int .i64 q.1.n) ∧ Strs W q.2 q.1.vals ∧ short q.1.key ∧ Capd q.2 := by
      intro i hi
      have e := hel i hi
      have hie : i < elems.length := by omega
      rw [List.getElem?_eq_getElem hie, Tryz.cells25] at e
      obtain ⟨cs, hc, ht⟩ := Option.bind_eq_some_iff.1 e
      obtain ⟨_, hcl, hce⟩ := World.cells?_some hc
      match cs, hcl with
      | [c0, c1, c2, c3], _ =>
        obtain ⟨q, rfl, rfl, rfl, q1, q2, q3⟩ := open_req_cells ht (fun k hk => hz k (by
          rw [hd]
          simp only [DataW.weights, Tryz.underlying22]
          refine List.mem_cons_of_mem _ (List.mem_append_left _ ?_)
          exact weights_at (i := i) (by rw [List.getElem?_map, List.getElem?_eq_getElem hie]; rfl) k hk))
        exact ⟨(q, c2), by simpa using hce 0 (by omega), by simpa using hce 1 (by omega), by simpa using hce 2 (by omega), by simpa using hce 3 (by omega), q1, q2, q3⟩
    haveI : Inhabited (VReq × Value) := ⟨(⟨[], 0, [], 0⟩, .bool false)⟩
    obtain ⟨F, hF⟩ := Go.Deep.choose_lt each
    have hps : ((List.range len).map fun i => (F i).1).length = len := by simp
    have hcount : len ≤ 4398046511104 := by
      have := hz ((elems.length + rest.length) * Tryz.prog.bytesOf 25) (by
        rw [hd]; simp [DataW.weights, Tryz.underlying22])
      rw [show Tryz.prog.bytesOf 25 = 56 by kernel_rfl] at this
      have hr := reachBytes_lt
      omega
    refine ⟨(List.range len).map fun i => (F i).1, some a, cap, by rw [hps], fun j hj => ?_, by rw [hps]; exact hcount⟩
    rw [hps] at hj
    obtain ⟨b, off, spot⟩ := a
    have hspot : spot = none := by
      have := World.cell?_spot (hF 0 (by omega)).1
      simpa [Addr.add] using this
    subst hspot
    have := hF j hj
    simp only [add_off, Nat.add_zero] at this
    have hg : ((List.range len).map fun i => (F i).1)[j]'(by rw [hps]; exact hj) = (F j).1 := by simp
    rw [hg]
    exact ⟨b, off, (F j).2, rfl, this⟩
set_option maxRecDepth 100000 in
/-- A list of labels by value. -/
theorem open_labs {v : Value} {d : DataW H} {p : List MemPlace} {r : Reach} {b0 : Nat} (hv : Value.okWide Tryz.prog W r b0 35 v) (h : DataW.Trod enc Tryz.prog W base spare held 35 v d p) (hz : ∀ k ∈ d.weights Tryz.prog 35, k ≤ reachBytes) :
    ∃ l, Labs W v l := by
  obtain ⟨a0, len, cap, rfl⟩ := okWide_slice Tryz.underlying35 hv
  obtain ⟨fuel, hf⟩ := h
  rcases DataW.trod_slice Tryz.underlying35 hf with ⟨hcs, _⟩ | ⟨a, len', cap', elems, rest, n, _, hcs, hx, _, hl, hm, hlen, hel, _, _⟩
  · simp [Value.cells] at hcs
    obtain ⟨rfl, rfl, rfl⟩ := hcs
    exact ⟨[], none, 0, rfl, fun j hj => absurd hj (Nat.not_lt_zero _), by simp⟩
  · simp [Value.cells] at hcs
    obtain ⟨rfl, rfl, rfl⟩ := hcs
    obtain ⟨hd, _⟩ := Prod.mk.inj hx
    have each : ∀ i, i < len → ∃ q : Lab, W.cell? ((a.add (i * 2)).add 0) = some (.string (bytesT q.1)) ∧ W.cell? ((a.add (i * 2)).add 1) = some (.string (bytesT q.2)) ∧ short q.1 ∧ short q.2 := by
      intro i hi
      have e := hel i hi
      have hie : i < elems.length := by omega
      rw [List.getElem?_eq_getElem hie, Tryz.cells34] at e
      obtain ⟨cs, hc, ht⟩ := Option.bind_eq_some_iff.1 e
      obtain ⟨_, hcl, hce⟩ := World.cells?_some hc
      match cs, hcl with
      | [c0, c1], _ =>
        obtain ⟨q, rfl, rfl, q1, q2⟩ := open_lab_cells ht (fun k hk => hz k (by
          rw [hd]
          simp only [DataW.weights, Tryz.underlying35]
          refine List.mem_cons_of_mem _ (List.mem_append_left _ ?_)
          exact weights_at (i := i) (by rw [List.getElem?_map, List.getElem?_eq_getElem hie]; rfl) k hk))
        exact ⟨q, by simpa using hce 0 (by omega), by simpa using hce 1 (by omega), q1, q2⟩
    haveI : Inhabited (Lab) := ⟨([], [])⟩
    obtain ⟨F, hF⟩ := Go.Deep.choose_lt each
    have hps : ((List.range len).map fun i => F i).length = len := by simp
    have hcount : len ≤ 4398046511104 := by
      have := hz ((elems.length + rest.length) * Tryz.prog.bytesOf 34) (by
        rw [hd]; simp [DataW.weights, Tryz.underlying35])
      rw [show Tryz.prog.bytesOf 34 = 32 by kernel_rfl] at this
      have hr := reachBytes_lt
      omega
    refine ⟨(List.range len).map fun i => F i, some a, cap, by rw [hps], fun j hj => ?_, by rw [hps]; exact hcount⟩
    rw [hps] at hj
    obtain ⟨b, off, spot⟩ := a
    have hspot : spot = none := by
      have := World.cell?_spot (hF 0 (by omega)).1
      simpa [Addr.add] using this
    subst hspot
    have := hF j hj
    simp only [add_off, Nat.add_zero] at this
    have hg : ((List.range len).map fun i => F i)[j]'(by rw [hps]; exact hj) = F j := by simp
    rw [hg]
    exact ⟨b, off, rfl, this⟩
end
end Go.Proofs.YtnkcbmlobikjkaaGreatDoor
