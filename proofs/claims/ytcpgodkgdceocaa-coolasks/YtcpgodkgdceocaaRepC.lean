/- Kinds of the program's own data, out of tools/reps.py. No function of the program is named. -/
import Derived.Test.YtcpgodkgdceocaaGenC
import Derived.Test.YtcpgodkgdceocaaCoA
namespace Go.Proofs.Ytcpgodkgdceocaa
open Go.ChangeShapes Go.WideShapes Go.ChangeAt Go.RowKit Val

def offK : Rep (Txt × Txt × Txt) := (pairK strK (pairK strK strK))
theorem off_at {w : World} {b o : Nat} {x : Txt × Txt × Txt} : At offK w b o x ↔ (w.cell? ⟨b, o, none⟩ = some (.string (bytesT x.1)) ∧ short x.1) ∧ (w.cell? ⟨b, o + 1, none⟩ = some (.string (bytesT x.2.1)) ∧ short x.2.1) ∧ (w.cell? ⟨b, o + 2, none⟩ = some (.string (bytesT x.2.2)) ∧ short x.2.2) := by
  constructor
  · intro h
    obtain ⟨h0, g0⟩ := at_pair.1 h
    obtain ⟨h1, g1⟩ := at_pair.1 g0
    exact ⟨at_str.1 h0, at_str.1 h1, at_str.1 g1⟩
  · rintro ⟨h0, h1, h2⟩
    exact (at_pair.2 ⟨(at_str.2 h0), (at_pair.2 ⟨(at_str.2 h1), (at_str.2 h2)⟩)⟩)
theorem off_row {w : World} {x : Txt × Txt × Txt} (s0 : short x.1) (s1 : short x.2.1) (s2 : short x.2.2) : offK.R w [.string (bytesT x.1), .string (bytesT x.2.1), .string (bytesT x.2.2)] x := ⟨_, _, rfl, ⟨rfl, s0⟩, ⟨_, _, rfl, ⟨rfl, s1⟩, ⟨rfl, s2⟩⟩⟩
theorem off_cells : Try.prog.cellsOf 23 = 3 := by kernel_rfl
theorem off_bytes : Try.prog.bytesOf 23 = 48 := by kernel_rfl
section
variable {H : Type} {enc : TypeId × Value → H} {W : World} {base : Nat} {spare : Nat → Bool} {held : Bool}
set_option maxRecDepth 100000 in
theorem opens_off : Opens enc W base spare held offK 23 := fun n cs y h hz => by
  obtain ⟨xs, n, _, hx, hl, hlen, hfs⟩ := DataW.trod_struct Try.underlying23 h
  rw [off_cells] at hl
  match xs, hlen with
  | [y0, y1, y2], _ =>
    have hd := congrArg Prod.fst hx
    simp only at hd
    have hw : ∀ (j : Nat) (t : TypeId) (x : DataW H), [9, 9, 9][j]? = some t → [y0.1, y1.1, y2.1][j]? = some x → ∀ k ∈ x.weights Try.prog t, k ≤ reachBytes := fun j t x h1 h2 k hk => hz k (by
      rw [hd]
      simp only [DataW.weights, Try.underlying23]
      exact DataW.weights_mem_each (j := j) h1 h2 k hk)
    match cs, hl with
    | [c0, c1, c2], _ =>
      have h0 := hfs 0 _ rfl
      have h1 := hfs 1 _ rfl
      have h2 := hfs 2 _ rfl
      simp only [List.getElem?_cons_zero, List.getElem?_cons_succ] at h0 h1 h2
      exact (opens_pair (opens_str Try.underlying9 _ _ _ h0 (hw 0 _ _ rfl rfl)) (opens_pair (opens_str Try.underlying9 _ _ _ h1 (hw 1 _ _ rfl rfl)) (opens_str Try.underlying9 _ _ _ h2 (hw 2 _ _ rfl rfl))))
end
theorem tells_off : Tells offK 23 35 48 := ⟨⟨.agg #[.string ⟨#[]⟩, .string ⟨#[]⟩, .string ⟨#[]⟩], by kernel_rfl, rfl⟩, Try.underlying35, by decide⟩
def coolK : Rep ((Txt × Txt × Txt) × Int) := (pairK offK intK)
theorem cool_at {w : World} {b o : Nat} {x : (Txt × Txt × Txt) × Int} : At coolK w b o x ↔ At offK w b o x.1 ∧ w.cell? ⟨b, o + 3, none⟩ = some (.int .i64 x.2) := by
  constructor
  · intro h
    obtain ⟨h0, g0⟩ := at_pair.1 h
    exact ⟨h0, at_int.1 g0⟩
  · rintro ⟨h0, h1⟩
    exact (at_pair.2 ⟨h0, (at_int.2 h1)⟩)
theorem cool_row {w : World} {x : (Txt × Txt × Txt) × Int} (s0_0 : short x.1.1) (s0_1 : short x.1.2.1) (s0_2 : short x.1.2.2) : coolK.R w [.string (bytesT x.1.1), .string (bytesT x.1.2.1), .string (bytesT x.1.2.2), .int .i64 x.2] x := ⟨_, _, rfl, ⟨_, _, rfl, ⟨rfl, s0_0⟩, ⟨_, _, rfl, ⟨rfl, s0_1⟩, ⟨rfl, s0_2⟩⟩⟩, rfl⟩
theorem cool_cells : Try.prog.cellsOf 25 = 4 := by kernel_rfl
theorem cool_bytes : Try.prog.bytesOf 25 = 56 := by kernel_rfl
section
variable {H : Type} {enc : TypeId × Value → H} {W : World} {base : Nat} {spare : Nat → Bool} {held : Bool}
set_option maxRecDepth 100000 in
theorem opens_cool : Opens enc W base spare held coolK 25 := fun n cs y h hz => by
  obtain ⟨xs, n, _, hx, hl, hlen, hfs⟩ := DataW.trod_struct Try.underlying25 h
  rw [cool_cells] at hl
  match xs, hlen with
  | [y0, y1], _ =>
    have hd := congrArg Prod.fst hx
    simp only at hd
    have hw : ∀ (j : Nat) (t : TypeId) (x : DataW H), [23, 2][j]? = some t → [y0.1, y1.1][j]? = some x → ∀ k ∈ x.weights Try.prog t, k ≤ reachBytes := fun j t x h1 h2 k hk => hz k (by
      rw [hd]
      simp only [DataW.weights, Try.underlying25]
      exact DataW.weights_mem_each (j := j) h1 h2 k hk)
    match cs, hl with
    | [c0, c1, c2, c3], _ =>
      have h0 := hfs 0 _ rfl
      have h1 := hfs 1 _ rfl
      simp only [List.getElem?_cons_zero, List.getElem?_cons_succ] at h0 h1
      exact (opens_pair (opens_off _ _ _ h0 (hw 0 _ _ rfl rfl)) (opens_int Try.underlying2 _ _ _ h1 (hw 1 _ _ rfl rfl)))
end
theorem tells_cool : Tells coolK 25 29 56 := ⟨⟨.agg #[.string ⟨#[]⟩, .string ⟨#[]⟩, .string ⟨#[]⟩, .int .i64 0], by kernel_rfl, rfl⟩, Try.underlying29, by decide⟩
end Go.Proofs.Ytcpgodkgdceocaa
