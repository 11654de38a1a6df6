/- Layer 3: contracts of Check,bounds,has,Has. -/
import Derived.Test.YtfpfdnapamdhjaaGreatDoorV3BGZ
import Derived.Test.YtfpfdnapamdhjaaGreatDoorIterZ
namespace Go.Proofs.YtfpfdnapamdhjaaGreatDoor
open Go.RowKit Suf Val

/-- A set's six fields in memory. -/
def Six (w : World) (B : Nat) (a b c d e f : Value) : Prop :=
  w.cell? ⟨B,0,none⟩ = some a /\ w.cell? ⟨B,1,none⟩ = some b /\ w.cell? ⟨B,2,none⟩ = some c /\ w.cell? ⟨B,3,none⟩ = some d /\ w.cell? ⟨B,4,none⟩ = some e /\ w.cell? ⟨B,5,none⟩ = some f
theorem Six.below {w w' : World} {B : Nat} {a b c d e f : Value} (h : Six w B a b c d e f) (hb : Below w.heap.size w w') : Six w' B a b c d e f :=
  ⟨cell_kept hb h.1,cell_kept hb h.2.1,cell_kept hb h.2.2.1,cell_kept hb h.2.2.2.1,cell_kept hb h.2.2.2.2.1,cell_kept hb h.2.2.2.2.2⟩
theorem six_new (w : World) (a b c d e f : Value) (t : TypeId) : Six (w.alloc (.cells #[a,b,c,d,e,f] t)) w.heap.size a b c d e f := by
  refine ⟨?_,?_,?_,?_,?_,?_⟩ <;> simp [go_sem]
theorem box_below {w : World} (o : Obj) : Below w.heap.size w (w.alloc o) := (Below.refl _ _).alloc (Nat.le_refl _) _

end Go.Proofs.YtfpfdnapamdhjaaGreatDoor
