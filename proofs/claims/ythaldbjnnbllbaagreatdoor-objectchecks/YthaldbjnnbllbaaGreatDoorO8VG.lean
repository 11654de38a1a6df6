/- Layer 8: arguments opened: commands, pods, objects of any kind -/
import Derived.Test.YthaldbjnnbllbaaGreatDoorO8TG
import Derived.SizedLaws
namespace Go.Proofs.YthaldbjnnbllbaaGreatDoor
open Go.ChangeShapes Go.WideShapes Go.ChangeAt Go.RowKit Suf Val

section
variable {H : Type} {enc : TypeId × Value → H} {W : World} {base : Nat} {spare : Nat → Bool} {held : Bool}
set_option maxRecDepth 100000 in
theorem open_int8 {v : Value} {d : DataW H} {p : List MemPlace} {r : Reach} {b0 : Nat} (hv : Value.okWide Tryz.prog W r b0 3 v) (_h : DataW.Trod enc Tryz.prog W base spare held 3 v d p) : ∃ n, v = .int .i64 n := by
  obtain ⟨n, rfl, _⟩ := okWide_int Tryz.underlying3 hv
  exact ⟨n, rfl⟩
set_option maxRecDepth 100000 in
theorem open_cmd {v : Value} {d : DataW H} {p : List MemPlace} {r : Reach} {b0 : Nat} (hv : Value.okWide Tryz.prog W r b0 40 v) (h : DataW.Trod enc Tryz.prog W base spare held 40 v d p) (hz : ∀ k ∈ d.weights Tryz.prog 40, k ≤ reachBytes) :
    ∃ (x : VCmd) (u1 u2 : Value), v = cmdA x u1 u2 ∧ CmdIn W x u1 u2 := by
  obtain ⟨cs, rfl, hsz⟩ := okWide_struct Tryz.underlying40 hv
  obtain ⟨fuel, hf⟩ := h
  obtain ⟨x, hx⟩ := opens_cmd _ _ _ hf hz
  obtain ⟨_, _, e0, rfl, _, _, rfl, ⟨v1, rfl, l1⟩, _, _, rfl, rfl, _, _, rfl, rfl, _, _, rfl, ⟨rfl, s4⟩, _, _, rfl, ⟨rfl, s5⟩, _, _, rfl, ⟨v6, rfl, l6, b6⟩, rfl⟩ := hx
  refine ⟨x, v1, v6, ?_, ⟨s4, s5, l1, l6⟩⟩
  have hc : cs.toList = [.int .i64 x.cause, v1, .int .i64 x.step, .int .i64 x.til, .string (bytesT x.fresh), .string (bytesT x.pool), v6, .bool x.made] := e0
  have : cs = #[.int .i64 x.cause, v1, .int .i64 x.step, .int .i64 x.til, .string (bytesT x.fresh), .string (bytesT x.pool), v6, .bool x.made] := by
    apply Array.toList_inj.1
    exact hc
  rw [this]; rfl
set_option maxRecDepth 100000 in
theorem open_pod {v : Value} {d : DataW H} {p : List MemPlace} {r : Reach} {b0 : Nat} (hv : Value.okWide Tryz.prog W r b0 29 v) (h : DataW.Trod enc Tryz.prog W base spare held 29 v d p) (hz : ∀ k ∈ d.weights Tryz.prog 29, k ≤ reachBytes) :
    ∃ (x : VPod) (u1 u2 u3 u4 u5 : Value), v = podA x u1 u2 u3 u4 u5 ∧ PodIn W x u1 u2 u3 u4 u5 ∧ Lst reqK W u1 x.reqs ∧ Lst tolK W u2 x.tols := by
  obtain ⟨cs, rfl, hsz⟩ := okWide_struct Tryz.underlying29 hv
  obtain ⟨fuel, hf⟩ := h
  obtain ⟨x, hx⟩ := opens_pod _ _ _ hf hz
  obtain ⟨_, _, e0, ⟨rfl, s0⟩, _, _, rfl, ⟨rfl, s1⟩, _, _, rfl, ⟨_, _, rfl, rfl, rfl⟩, _, _, rfl, rfl, _, _, rfl, ⟨v4, rfl, l4, b4⟩, _, _, rfl, ⟨v5, rfl, l5, b5⟩, _, _, rfl, ⟨v6, rfl, l6, b6⟩, _, _, rfl, ⟨v7, rfl, l7, b7⟩, _, _, rfl, ⟨v8, rfl, l8, b8⟩, _, _, rfl, rfl, ⟨rfl, s10⟩⟩ := hx
  refine ⟨x, v4, v5, v6, v7, v8, ?_, ⟨s0, s1, s10, lst_reqs l4 b4, lst_tols l5 b5, l6, l7, l8⟩, l4, l5⟩
  have hc : cs.toList = [.string (bytesT x.name), .string (bytesT x.app), .int .i64 x.need.1, .int .i64 x.need.2, .int .i64 x.prio, v4, v5, v6, v7, v8, .int .i64 x.since, .string (bytesT x.on)] := e0
  have : cs = #[.string (bytesT x.name), .string (bytesT x.app), .int .i64 x.need.1, .int .i64 x.need.2, .int .i64 x.prio, v4, v5, v6, v7, v8, .int .i64 x.since, .string (bytesT x.on)] := by
    apply Array.toList_inj.1
    exact hc
  rw [this]; rfl
end
end Go.Proofs.YthaldbjnnbllbaaGreatDoor
