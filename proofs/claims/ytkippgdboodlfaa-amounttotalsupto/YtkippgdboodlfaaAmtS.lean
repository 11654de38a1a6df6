/- Layer 1: an argument that is a slice of Amounts, opened. -/
import Derived.Test.YtkippgdboodlfaaAmtH
import Derived.Deep.Slices
import Derived.SizedLaws
import Derived.Deep.AppendLies
namespace Go.Proofs.Ytkippgdboodlfaa
open Go.ChangeShapes Go.WideShapes Go.ChangeAt Go.RowKit

theorem add_off (b o i : Nat) : (⟨b, o, none⟩ : Addr).add i = ⟨b, o + i, none⟩ := by
  unfold Addr.add; split <;> simp_all

/-- What a slice of pairs that came in is: its pairs lie two cells each from its address on. -/
def PairsAt (W : World) (a : Option Addr) (b off : Nat) (ps : List (Int × Int)) : Prop :=
  (0 < ps.length → a = some ⟨b, off, none⟩) ∧ ∀ i, i < ps.length → W.cell? ⟨b, off + i * 2, none⟩ = some (.int .i64 (ps.getD i (0, 0)).1) ∧ W.cell? ⟨b, off + i * 2 + 1, none⟩ = some (.int .i64 (ps.getD i (0, 0)).2)

theorem open_pairs {H : Type} {enc : TypeId × Value → H} {W : World} {r : Reach} {base b0 : Nat} {spare : Nat → Bool} {held : Bool} {v : Value} {d : DataW H} {p : List MemPlace}
    (hv : Value.okWide Try.prog W r b0 31 v) (h : DataW.Trod enc Try.prog W base spare held 31 v d p) :
    ∃ (a : Option Addr) (len cap : Nat) (ps : List (Int × Int)) (b off : Nat), v = .slice a len cap ∧ len = ps.length ∧ len ≤ maxLen ∧ PairsAt W a b off ps ∧
      (d = .nil ∧ ps = [] ∨ ∃ elems rest, d = .slice elems rest ∧ elems.length = ps.length) := by
  obtain ⟨a0, len, cap, rfl⟩ := okWide_slice Try.underlying31 hv
  obtain ⟨fuel, hf⟩ := h
  rcases DataW.trod_slice Try.underlying31 hf with ⟨hcs, hx⟩ | ⟨a, len', cap', elems, rest, n, _, hcs, hx, _, hl, hm, hlen, hel, _, _⟩
  · simp [Value.cells] at hcs
    obtain ⟨rfl, rfl, rfl⟩ := hcs
    simp at hx
    exact ⟨none, 0, 0, [], 0, 0, rfl, rfl, Nat.zero_le _, ⟨fun h => absurd h (by simp), fun i hi => absurd hi (by simp)⟩, Or.inl ⟨hx.1, rfl⟩⟩
  · simp [Value.cells] at hcs
    obtain ⟨rfl, rfl, rfl⟩ := hcs
    have each : ∀ i, i < len → ∃ q : Int × Int, W.cell? (a.add (i * 2)) = some (.int .i64 q.1) ∧ W.cell? ((a.add (i * 2)).add 1) = some (.int .i64 q.2) := by
      intro i hi
      have e := hel i hi
      rw [List.getElem?_eq_getElem (by omega), Try.cells26] at e
      obtain ⟨cs, hc, ht⟩ := Option.bind_eq_some_iff.1 e
      obtain ⟨_, hcl, hce⟩ := World.cells?_some hc
      obtain ⟨xs, m, _, _, _, hxl, hxe⟩ := DataW.trod_array Try.underlying26 ht
      match xs, hxl with
      | [q0, q1], _ =>
        have e0 := hxe 0 (by omega)
        have e1 := hxe 1 (by omega)
        match cs, hcl with
        | [x, y], _ =>
          simp [Try.cells2] at e0 e1
          obtain ⟨u, hu, _, _⟩ := DataW.trod_int Try.underlying2 e0
          obtain ⟨v, hv, _, _⟩ := DataW.trod_int Try.underlying2 e1
          simp at hu hv
          subst hu hv
          have g0 := hce 0 (by omega)
          have g1 := hce 1 (by omega)
          refine ⟨(u, v), ?_, ?_⟩
          · simpa [Addr.add] using g0
          · simpa using g1
    obtain ⟨F, hF⟩ := Go.Deep.choose_lt each
    have hps : ((List.range len).map F).length = len := by simp
    have hat : ∀ i, i < len → ((List.range len).map F).getD i (0, 0) = F i := by
      intro i hi; simp [List.getD, hi]
    by_cases h0 : 0 < len
    · obtain ⟨b, off, spot⟩ := a
      have hspot : spot = none := by
        have := World.cell?_spot (hF 0 h0).1
        simpa [Addr.add] using this
      subst hspot
      refine ⟨some ⟨b, off, none⟩, len, cap, (List.range len).map F, b, off, rfl, hps.symm, Nat.le_trans hl hm, ⟨fun _ => rfl, fun i hi => ?_⟩, Or.inr ⟨elems.map (·.1), rest.map (·.1), ?_, by simp [hlen]⟩⟩
      · rw [hps] at hi
        rw [hat i hi]
        have := hF i hi
        rw [add_off, add_off] at this
        exact this
      · simp at hx; exact hx.1
    · have hz : len = 0 := by omega
      subst hz
      refine ⟨some a, 0, cap, [], 0, 0, rfl, rfl, Nat.zero_le _, ⟨fun h => absurd h (by simp), fun i hi => absurd hi (by simp)⟩, Or.inr ⟨elems.map (·.1), rest.map (·.1), ?_, by simp [hlen]⟩⟩
      simp at hx; exact hx.1

end Go.Proofs.Ytkippgdboodlfaa
