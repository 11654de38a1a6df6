/- Layer 1: an argument of type Amounts, opened; facts of the program. -/
import Derived.Test.YtkippgdboodlfaaAmtG
import Derived.ProofKit
import Derived.OpenShut
import Derived.ShutString
import Derived.ChangeOld
import Derived.Below
namespace Go.Proofs.Ytkippgdboodlfaa
open Go.ChangeShapes Go.WideShapes Go.ChangeAt Go.RowKit

theorem own : ownKnob Try.prog.godebug = none := by kernel_rfl
theorem laidOut : laidOutB Try.prog = true := by kernel_rfl
theorem Try.cells26 : Try.prog.cellsOf 26 = 2 := by kernel_rfl

/-- An argument of type Amounts is two numbers that fit. -/
theorem open_pair {H : Type} {enc : TypeId × Value → H} {W : World} {r : Reach} {base b0 : Nat} {spare : Nat → Bool} {held : Bool} {v : Value} {d : DataW H} {p : List MemPlace}
    (hv : Value.okWide Try.prog W r b0 26 v) (h : DataW.Trod enc Try.prog W base spare held 26 v d p) :
    ∃ a b : Int, v = .agg #[.int .i64 a, .int .i64 b] ∧ (Lit.int .i64 a).wf = true ∧ (Lit.int .i64 b).wf = true := by
  simp only [Value.okWide, Try.underlying26] at hv
  obtain ⟨cs, rfl, hsz, _⟩ := hv
  rw [Try.cells26] at hsz
  obtain ⟨l⟩ := cs
  match l, hsz with
  | [x, y], _ =>
    obtain ⟨fuel, hf⟩ := h
    obtain ⟨xs, m, _, _, _, hl, hx⟩ := DataW.trod_array Try.underlying26 hf
    match xs, hl with
    | [q0, q1], _ =>
      have e0 := hx 0 (by omega)
      have e1 := hx 1 (by omega)
      simp [Value.cells, Try.cells2] at e0 e1
      obtain ⟨a, ha, _, wa⟩ := DataW.trod_int Try.underlying2 e0
      obtain ⟨b, hb, _, wb⟩ := DataW.trod_int Try.underlying2 e1
      simp at ha hb
      subst ha hb
      exact ⟨a, b, rfl, wa, wb⟩

theorem start_two2 {w : World} {a b c d : Value} {t : TypeId} :
    ((w.alloc (.cells #[a, b] t)).alloc (.cells #[c, d] t)).cell? ⟨w.heap.size, 0, none⟩ = some a ∧ ((w.alloc (.cells #[a, b] t)).alloc (.cells #[c, d] t)).cell? ⟨w.heap.size, 1, none⟩ = some b ∧
    ((w.alloc (.cells #[a, b] t)).alloc (.cells #[c, d] t)).cell? ⟨w.heap.size + 1, 0, none⟩ = some c ∧ ((w.alloc (.cells #[a, b] t)).alloc (.cells #[c, d] t)).cell? ⟨w.heap.size + 1, 1, none⟩ = some d ∧
    Below w.heap.size w ((w.alloc (.cells #[a, b] t)).alloc (.cells #[c, d] t)) :=
  ⟨by simp [go_sem], by simp [go_sem], by simp [go_sem], by simp [go_sem], ((Below.refl _ _).alloc (Nat.le_refl _) _).alloc (by simp) _⟩

section
variable {V V' : World} {o : Obj} {p : Addr} {u v x y : Value} {t : TypeId} {w : World}
/-- Behind a box that was laid, and a call: what was there; the box; all below a bound. -/
theorem kept1 (h : Below (V.alloc o).heap.size (V.alloc o) V') (hc : V.cell? p = some v) : V'.cell? p = some v :=
  cell_kept h (by rw [World.cell?_alloc_lt _ _ _ (World.block_lt_of_cell? V p hc)]; exact hc)
theorem kept_box (h : Below (V.alloc (.cells #[x, y] t)).heap.size (V.alloc (.cells #[x, y] t)) V') : V'.cell? ⟨V.heap.size, 0, none⟩ = some x ∧ V'.cell? ⟨V.heap.size, 1, none⟩ = some y :=
  ⟨cell_kept h (by simp [go_sem]), cell_kept h (by simp [go_sem])⟩
theorem below_box {B : Nat} (h0 : Below B w V) (hB : B ≤ V.heap.size) (h : Below (V.alloc o).heap.size (V.alloc o) V') : Below B w V' :=
  (h0.alloc hB _).trans (h.mono (by simp; omega))
theorem below_call {B : Nat} (h0 : Below B w V) (hB : B ≤ V.heap.size) (h : Below V.heap.size V V') : Below B w V' := h0.trans (h.mono hB)
theorem size_le (h0 : Below w.heap.size w V) : w.heap.size ≤ V.heap.size := h0.size
end

theorem places_lt {H : Type} {enc : TypeId × Value → H} {W : World} {base : Nat} {spare : Nat → Bool} {held : Bool} {t : TypeId} {v : Value} {d : DataW H} {p : List MemPlace}
    (h : DataW.Trod enc Try.prog W base spare held t v d p) : ∀ x ∈ p, x.block < W.heap.size := by
  obtain ⟨m, hm⟩ := h; exact DataW.trod_lt m _ _ _ hm

end Go.Proofs.Ytkippgdboodlfaa
