/- Layer 7: arguments opened. -/
import Derived.Test.YtcpgodkgdceocaaCoO
import Derived.Test.YtcpgodkgdceocaaRepL
import Derived.SizedLaws
namespace Go.Proofs.Ytcpgodkgdceocaa
open Go.ChangeShapes Go.WideShapes Go.ChangeAt Go.RowKit Suf Val

/-- A Lay, as an argument. -/
def layA (u : Value) (c : VCool) (o : VOff) (m k : Int) : Value := .agg #[u, .string (bytesT c.1.1), .string (bytesT c.1.2.1), .string (bytesT c.1.2.2), .int .i64 c.2, .string (bytesT o.1), .string (bytesT o.2.1), .string (bytesT o.2.2), .int .i64 m, .int .i64 k]
section
variable {H : Type} {enc : TypeId × Value → H} {W : World} {base : Nat} {spare : Nat → Bool} {held : Bool}
set_option maxRecDepth 100000 in
theorem open_cools {v : Value} {d : DataW H} {p : List MemPlace} {r : Reach} {b0 : Nat} (hv : Value.okWide Try.prog W r b0 29 v) (h : DataW.Trod enc Try.prog W base spare held 29 v d p) (hz : ∀ k ∈ d.weights Try.prog 29, k ≤ reachBytes) :
    ∃ l, Lst coolK W v l ∧ l.length * 56 ≤ reachBytes := by
  obtain ⟨a0, len, cap, rfl⟩ := okWide_slice Try.underlying29 hv
  obtain ⟨fuel, hf⟩ := h
  obtain ⟨l, hl, _, hb⟩ := open_lst (K := coolK) Try.underlying29 cool_cells cool_bytes (by decide) (by decide) opens_cool hf hz
  exact ⟨l, hl, hb⟩
set_option maxRecDepth 100000 in
theorem open_cool7 {v : Value} {d : DataW H} {p : List MemPlace} {r : Reach} {b0 : Nat} (hv : Value.okWide Try.prog W r b0 25 v) (h : DataW.Trod enc Try.prog W base spare held 25 v d p) (hz : ∀ k ∈ d.weights Try.prog 25, k ≤ reachBytes) :
    ∃ x : VCool, v = coolA x ∧ okO x.1 := by
  obtain ⟨cs, rfl, hsz⟩ := okWide_struct Try.underlying25 hv
  obtain ⟨fuel, hf⟩ := h
  obtain ⟨x, hx⟩ := opens_cool _ _ _ hf hz
  have hok : okO x.1 := by
    obtain ⟨c1, c2, _, ⟨d1, d2, _, ⟨_, h1⟩, e1, e2, _, ⟨_, h2⟩, ⟨_, h3⟩⟩, _⟩ := hx
    exact ⟨h1, h2, h3⟩
  refine ⟨x, ?_, hok⟩
  have hc : cs.toList = encC x := enc_c hx
  have : cs = #[.string (bytesT x.1.1), .string (bytesT x.1.2.1), .string (bytesT x.1.2.2), .int .i64 x.2] := by
    apply Array.toList_inj.1
    exact hc
  rw [this]; rfl
set_option maxRecDepth 100000 in
theorem open_lay {v : Value} {d : DataW H} {p : List MemPlace} {r : Reach} {b0 : Nat} (hv : Value.okWide Try.prog W r b0 43 v) (h : DataW.Trod enc Try.prog W base spare held 43 v d p) (hz : ∀ k ∈ d.weights Try.prog 43, k ≤ reachBytes) :
    ∃ (u : Value) (l : List VCool) (c : VCool) (o : VOff) (m k : Int), v = layA u c o m k ∧ Lst coolK W u l ∧ okO c.1 ∧ okO o := by
  obtain ⟨cs, rfl, hsz⟩ := okWide_struct Try.underlying43 hv
  obtain ⟨fuel, hf⟩ := h
  obtain ⟨⟨l, c, o, m, k⟩, hx⟩ := opens_lay7 _ _ _ hf hz
  obtain ⟨c0, c1, e0, ⟨u, rfl, hl⟩, c2, c3, rfl, hc, c4, c5, rfl, ho, c6, c7, rfl, h6, h7⟩ := hx
  have ec := enc_c hc
  have eo := enc_o ho
  have hok : okO c.1 := by
    obtain ⟨c1, c2, _, ⟨d1, d2, _, ⟨_, h1⟩, e1, e2, _, ⟨_, h2⟩, ⟨_, h3⟩⟩, _⟩ := hc
    exact ⟨h1, h2, h3⟩
  have hoo : okO o := by
    obtain ⟨d1, d2, _, ⟨_, h1⟩, e1, e2, _, ⟨_, h2⟩, ⟨_, h3⟩⟩ := ho
    exact ⟨h1, h2, h3⟩
  refine ⟨u, l, c, o, m, k, ?_, hl, hok, hoo⟩
  simp only at ec eo h6 h7
  have h6' : c6 = [.int .i64 m] := h6
  have h7' : c7 = [.int .i64 k] := h7
  have hcs : cs.toList = [u] ++ (c2 ++ (c4 ++ (c6 ++ c7))) := e0
  rw [ec, eo, h6', h7'] at hcs
  have : cs = #[u, .string (bytesT c.1.1), .string (bytesT c.1.2.1), .string (bytesT c.1.2.2), .int .i64 c.2, .string (bytesT o.1), .string (bytesT o.2.1), .string (bytesT o.2.2), .int .i64 m, .int .i64 k] := by
    apply Array.toList_inj.1
    exact hcs
  rw [this]; rfl
set_option maxRecDepth 100000 in
theorem open_offs {v : Value} {d : DataW H} {p : List MemPlace} {r : Reach} {b0 : Nat} (hv : Value.okWide Try.prog W r b0 35 v) (h : DataW.Trod enc Try.prog W base spare held 35 v d p) (hz : ∀ k ∈ d.weights Try.prog 35, k ≤ reachBytes) :
    ∃ l, Lst offK W v l ∧ l.length * 48 ≤ reachBytes := by
  obtain ⟨a0, len, cap, rfl⟩ := okWide_slice Try.underlying35 hv
  obtain ⟨fuel, hf⟩ := h
  obtain ⟨l, hl, _, hb⟩ := open_lst (K := offK) Try.underlying35 off_cells off_bytes (by decide) (by decide) opens_off hf hz
  exact ⟨l, hl, hb⟩
theorem open_int7 {v : Value} {d : DataW H} {p : List MemPlace} {r : Reach} {b0 : Nat} (hv : Value.okWide Try.prog W r b0 2 v) (_h : DataW.Trod enc Try.prog W base spare held 2 v d p) : ∃ n, v = .int .i64 n := by
  obtain ⟨n, rfl, _⟩ := okWide_int Try.underlying2 hv
  exact ⟨n, rfl⟩
end
end Go.Proofs.Ytcpgodkgdceocaa
