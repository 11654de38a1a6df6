/- Small words that every layer's contracts use: hiding,endings that are the same,Below carried on,arguments opened. No function of the program is named. -/
import Derived.Test.YtfpfdnapamdhjaaGreatDoorRows
import Derived.WalkKit
import Derived.WalkSpells
import Derived.WalkLawsBesides
import Derived.Deep.RegionHeld3
import Derived.Deep.QuietTactic
import Derived.BigQuiet
import Derived.ChangeKeysEq
import Derived.ProofKit
import Derived.OpenShut
import Derived.ShutString
import Derived.ChangeOld
import Derived.Below
namespace Go.Proofs.YtfpfdnapamdhjaaGreatDoor
open Go.ChangeShapes Go.WideShapes Go.ChangeAt Go.RowKit

theorem hide {p : Prop} (h : p) : Hid p := h
theorem unhide {p : Prop} (h : Hid p) : p := h.out
theorem ret_int {k : IntKind} {a b : Int} (h : a = b) : Ending.returned (.int k a) = .returned (.int k b) := by rw [h]
theorem ret_bool {x y : Bool} (h : x = y) : Ending.returned (.bool x) = .returned (.bool y) := by rw [h]
theorem ret_str {x y : ByteArray} (h : x = y) : Ending.returned (.string x) = .returned (.string y) := by rw [h]
theorem cell_kept {V V' : World} (h : Below V.heap.size V V') {p : Addr} {v : Value} (hc : V.cell? p = some v) : V'.cell? p = some v := by
  rw [h.cell (World.block_lt_of_cell? V p hc)]; exact hc
theorem own : ownKnob Tryz.prog.godebug = none := by kernel_rfl
theorem laidOut : laidOutB Tryz.prog = true := by kernel_rfl
section
variable {V V' : World} {o : Obj} {p : Addr} {u v x y : Value} {t : TypeId} {w : World}
theorem chain (h0 : Below w.heap.size w V) (h : Below V.heap.size V V') : Below w.heap.size w V' := h0.trans (h.mono h0.size)
end
theorem places_lt {H : Type} {enc : TypeId × Value -> H} {W : World} {base : Nat} {spare : Nat -> Bool} {held : Bool} {t : TypeId} {v : Value} {d : DataW H} {p : List MemPlace}
    (h : DataW.Trod enc Tryz.prog W base spare held t v d p) : ∀ x ∈ p,x.block < W.heap.size := by
  obtain ⟨m,hm⟩ := h; exact DataW.trod_lt m _ _ _ hm

end Go.Proofs.YtfpfdnapamdhjaaGreatDoor
