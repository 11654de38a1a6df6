/- Layer 8: the program's Claim -/
import Derived.Test.YthaldbjnnbllbaaGreatDoorO8MAG
import Derived.Test.YthaldbjnnbllbaaGreatDoorO8MBG
import Derived.Test.YthaldbjnnbllbaaGreatDoorO8MCG
import Derived.Test.YthaldbjnnbllbaaGreatDoorO8MDG
namespace Go.Proofs.YthaldbjnnbllbaaGreatDoor
open Go.RowKit Suf Val

theorem pclaim_any (p : VClaim) (u1 : Value) (w : World) (h : ClmIn w p u1) :
    Calls Tryz.prog 14 #[clmA p u1] w fun e w' => e = .returned (.int .i64 (claimR p)) ∧ Below w.heap.size w w' := by
  cases hA : (nameB p.name && nameB p.pool) <;> cases hB : timeB p.gen
  · exact pclaim_D p u1 w h hA hB
  · exact pclaim_C p u1 w h hA hB
  · exact pclaim_B p u1 w h hA hB
  · exact pclaim_A p u1 w h hA hB
end Go.Proofs.YthaldbjnnbllbaaGreatDoor
