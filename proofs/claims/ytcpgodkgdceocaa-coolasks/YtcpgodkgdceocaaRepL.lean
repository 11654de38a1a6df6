/- Kinds of the program's own data, out of tools/reps.py. No function of the program is named. -/
import Derived.Test.YtcpgodkgdceocaaGenC
import Derived.Test.YtcpgodkgdceocaaRepC
namespace Go.Proofs.Ytcpgodkgdceocaa
open Go.ChangeShapes Go.WideShapes Go.ChangeAt Go.RowKit Val

def lay7K : Rep (List ((Txt × Txt × Txt) × Int) × ((Txt × Txt × Txt) × Int) × (Txt × Txt × Txt) × Int × Int) := (pairK (listK coolK) (pairK coolK (pairK offK (pairK intK intK))))
theorem lay7_at {w : World} {b o : Nat} {x : List ((Txt × Txt × Txt) × Int) × ((Txt × Txt × Txt) × Int) × (Txt × Txt × Txt) × Int × Int} : At lay7K w b o x ↔ (∃ v, w.cell? ⟨b, o, none⟩ = some v ∧ Lst coolK w v x.1) ∧ At coolK w b (o + 1) x.2.1 ∧ At offK w b (o + 5) x.2.2.1 ∧ w.cell? ⟨b, o + 8, none⟩ = some (.int .i64 x.2.2.2.1) ∧ w.cell? ⟨b, o + 9, none⟩ = some (.int .i64 x.2.2.2.2) := by
  constructor
  · intro h
    obtain ⟨h0, g0⟩ := at_pair.1 h
    obtain ⟨h1, g1⟩ := at_pair.1 g0
    obtain ⟨h2, g2⟩ := at_pair.1 g1
    obtain ⟨h3, g3⟩ := at_pair.1 g2
    exact ⟨at_lst.1 h0, h1, h2, at_int.1 h3, at_int.1 g3⟩
  · rintro ⟨h0, h1, h2, h3, h4⟩
    exact (at_pair.2 ⟨(at_lst.2 h0), (at_pair.2 ⟨h1, (at_pair.2 ⟨h2, (at_pair.2 ⟨(at_int.2 h3), (at_int.2 h4)⟩)⟩)⟩)⟩)
theorem lay7_row {w : World} {x : List ((Txt × Txt × Txt) × Int) × ((Txt × Txt × Txt) × Int) × (Txt × Txt × Txt) × Int × Int} {v0 : Value} (l0 : Lst coolK w v0 x.1) (s1_0_0 : short x.2.1.1.1) (s1_0_1 : short x.2.1.1.2.1) (s1_0_2 : short x.2.1.1.2.2) (s2_0 : short x.2.2.1.1) (s2_1 : short x.2.2.1.2.1) (s2_2 : short x.2.2.1.2.2) : lay7K.R w [v0, .string (bytesT x.2.1.1.1), .string (bytesT x.2.1.1.2.1), .string (bytesT x.2.1.1.2.2), .int .i64 x.2.1.2, .string (bytesT x.2.2.1.1), .string (bytesT x.2.2.1.2.1), .string (bytesT x.2.2.1.2.2), .int .i64 x.2.2.2.1, .int .i64 x.2.2.2.2] x := ⟨_, _, rfl, ⟨_, rfl, l0⟩, ⟨_, _, rfl, ⟨_, _, rfl, ⟨_, _, rfl, ⟨rfl, s1_0_0⟩, ⟨_, _, rfl, ⟨rfl, s1_0_1⟩, ⟨rfl, s1_0_2⟩⟩⟩, rfl⟩, ⟨_, _, rfl, ⟨_, _, rfl, ⟨rfl, s2_0⟩, ⟨_, _, rfl, ⟨rfl, s2_1⟩, ⟨rfl, s2_2⟩⟩⟩, ⟨_, _, rfl, rfl, rfl⟩⟩⟩⟩
theorem lay7_cells : Try.prog.cellsOf 43 = 10 := by kernel_rfl
theorem lay7_bytes : Try.prog.bytesOf 43 = 144 := by kernel_rfl
section
variable {H : Type} {enc : TypeId × Value → H} {W : World} {base : Nat} {spare : Nat → Bool} {held : Bool}
set_option maxRecDepth 100000 in
theorem opens_lay7 : Opens enc W base spare held lay7K 43 := fun n cs y h hz => by
  obtain ⟨xs, n, _, hx, hl, hlen, hfs⟩ := DataW.trod_struct Try.underlying43 h
  rw [lay7_cells] at hl
  match xs, hlen with
  | [y0, y1, y2, y3, y4], _ =>
    have hd := congrArg Prod.fst hx
    simp only at hd
    have hw : ∀ (j : Nat) (t : TypeId) (x : DataW H), [29, 25, 23, 2, 2][j]? = some t → [y0.1, y1.1, y2.1, y3.1, y4.1][j]? = some x → ∀ k ∈ x.weights Try.prog t, k ≤ reachBytes := fun j t x h1 h2 k hk => hz k (by
      rw [hd]
      simp only [DataW.weights, Try.underlying43]
      exact DataW.weights_mem_each (j := j) h1 h2 k hk)
    match cs, hl with
    | [c0, c1, c2, c3, c4, c5, c6, c7, c8, c9], _ =>
      have h0 := hfs 0 _ rfl
      have h1 := hfs 1 _ rfl
      have h2 := hfs 2 _ rfl
      have h3 := hfs 3 _ rfl
      have h4 := hfs 4 _ rfl
      simp only [List.getElem?_cons_zero, List.getElem?_cons_succ] at h0 h1 h2 h3 h4
      exact (opens_pair (opens_list Try.underlying29 cool_cells cool_bytes (by decide) (by decide) opens_cool _ _ _ h0 (hw 0 _ _ rfl rfl)) (opens_pair (opens_cool _ _ _ h1 (hw 1 _ _ rfl rfl)) (opens_pair (opens_off _ _ _ h2 (hw 2 _ _ rfl rfl)) (opens_pair (opens_int Try.underlying2 _ _ _ h3 (hw 3 _ _ rfl rfl)) (opens_int Try.underlying2 _ _ _ h4 (hw 4 _ _ rfl rfl))))))
end
end Go.Proofs.Ytcpgodkgdceocaa
