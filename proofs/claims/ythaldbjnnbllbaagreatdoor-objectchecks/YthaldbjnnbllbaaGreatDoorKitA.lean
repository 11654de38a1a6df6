/- Small words that every layer's contracts use: hiding, endings that are the same, Below carried on, arguments opened. No function of the program is named. -/
import Derived.Test.YthaldbjnnbllbaaGreatDoorRows
import Derived.WalkKit
import Derived.WalkSpells
import Derived.WalkLawsBesides
import Derived.Deep.RegionHeld3
import Derived.Deep.QuietTactic
import Derived.BigQuiet
import Derived.ChangeKeysEq
import Derived.ProofKit
import Derived.OpenShut
import Derived.ShutString
import Derived.ChangeOld
import Derived.Below
namespace Go.Proofs.YthaldbjnnbllbaaGreatDoor
open Go.ChangeShapes Go.WideShapes Go.ChangeAt Go.RowKit

theorem hide {p : Prop} (h : p) : Hid p := h
theorem unhide {p : Prop} (h : Hid p) : p := h.out
theorem ret_int {k : IntKind} {a b : Int} (h : a = b) : Ending.returned (.int k a) = .returned (.int k b) := by rw [h]
theorem ret_bool {x y : Bool} (h : x = y) : Ending.returned (.bool x) = .returned (.bool y) := by rw [h]
theorem ret_str {x y : ByteArray} (h : x = y) : Ending.returned (.string x) = .returned (.string y) := by rw [h]
theorem ret_pair {a b a' b' : Int} (h : a = a') (h1 : b = b') : Ending.returned (.tuple #[.int .i64 a, .int .i64 b]) = .returned (.tuple #[.int .i64 a', .int .i64 b']) := by
  subst h h1; rfl
theorem ret_strpair {a a' : ByteArray} {b b' : Int} (h : a = a') (h1 : b = b') : Ending.returned (.tuple #[.string a, .int .i64 b]) = .returned (.tuple #[.string a', .int .i64 b']) := by
  subst h h1; rfl
theorem bcell {W w1 : World} (hb : Below W.heap.size W w1) : (∀ b o, b < W.heap.size → w1.cell? ⟨b, o, none⟩ = W.cell? ⟨b, o, none⟩) ∧ (∀ b o, b < W.heap.size → w1.frozen? ⟨b, o, none⟩ = W.frozen? ⟨b, o, none⟩) :=
  ⟨fun b o h => hb.cell (p := ⟨b, o, none⟩) h, fun b o h => hb.frozen (p := ⟨b, o, none⟩) h⟩
theorem cell_kept {V V' : World} (h : Below V.heap.size V V') {p : Addr} {v : Value} (hc : V.cell? p = some v) : V'.cell? p = some v := by
  rw [h.cell (World.block_lt_of_cell? V p hc)]; exact hc
theorem own : ownKnob Tryz.prog.godebug = none := by kernel_rfl
theorem laidOut : laidOutB Tryz.prog = true := by kernel_rfl
section
variable {V V' : World} {o : Obj} {p : Addr} {u v x y : Value} {t : TypeId} {w : World}
/-- Behind a box that was laid, and a call: what was there; the box; all below a bound. -/
theorem kept1 (h : Below (V.alloc o).heap.size (V.alloc o) V') (hc : V.cell? p = some v) : V'.cell? p = some v :=
  cell_kept h (by rw [World.cell?_alloc_lt _ _ _ (World.block_lt_of_cell? V p hc)]; exact hc)
theorem kept_box (h : Below (V.alloc (.cells #[x, y] t)).heap.size (V.alloc (.cells #[x, y] t)) V') : V'.cell? ⟨V.heap.size, 0, none⟩ = some x ∧ V'.cell? ⟨V.heap.size, 1, none⟩ = some y :=
  ⟨cell_kept h (by simp [go_sem]), cell_kept h (by simp [go_sem])⟩
theorem below_box {B : Nat} (h0 : Below B w V) (hB : B ≤ V.heap.size) (h : Below (V.alloc o).heap.size (V.alloc o) V') : Below B w V' :=
  (h0.alloc hB _).trans (h.mono (by simp; omega))
theorem below_call {B : Nat} (h0 : Below B w V) (hB : B ≤ V.heap.size) (h : Below V.heap.size V V') : Below B w V' := h0.trans (h.mono hB)
theorem size_le (h0 : Below w.heap.size w V) : w.heap.size ≤ V.heap.size := h0.size
theorem chain (h0 : Below w.heap.size w V) (h : Below V.heap.size V V') : Below w.heap.size w V' := h0.trans (h.mono h0.size)
end
theorem places_lt {H : Type} {enc : TypeId × Value → H} {W : World} {base : Nat} {spare : Nat → Bool} {held : Bool} {t : TypeId} {v : Value} {d : DataW H} {p : List MemPlace}
    (h : DataW.Trod enc Tryz.prog W base spare held t v d p) : ∀ x ∈ p, x.block < W.heap.size := by
  obtain ⟨m, hm⟩ := h; exact DataW.trod_lt m _ _ _ hm

end Go.Proofs.YthaldbjnnbllbaaGreatDoor
