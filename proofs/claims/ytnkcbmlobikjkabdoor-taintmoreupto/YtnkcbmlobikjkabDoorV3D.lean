/- Layer 3: contracts of rises, left, plain, numeric, Check. -/
import Derived.Test.YtnkcbmlobikjkabDoorV3C
namespace Go.Proofs.YtnkcbmlobikjkabDoor
open Go.RowKit Suf Val

/-- A set as the program holds it: v is the list. -/
def setV (miss no num : Bool) (v : Value) (lo hi : Int) : Value := .agg #[.bool miss, .bool no, .bool num, v, .int .i64 lo, .int .i64 hi]

theorem wrap_small (x : Int) (h0 : -9223372036854775808 ≤ x) (h1 : x ≤ 9223372036854775807) : wrap64 x = x := by unfold wrap64; omega
end Go.Proofs.YtnkcbmlobikjkabDoor
