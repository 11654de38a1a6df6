/- Layer 4: the laws' req; what live asks, in plain mathematics. -/
import Derived.Test.YtnkcbmlobikjkaaGreatDoorRqQ
namespace Go.Proofs.YtnkcbmlobikjkaaGreatDoor
open Go.RowKit Suf Val Go.Maps

theorem req_any (key : ByteArray) (op n : Int) (a : Option Addr) (m c : Nat) (w : World) :
    Calls Tryz.prog 9 #[.string key, .int .i64 op, .int .i64 n, .slice a m c] w fun e w' => e = .returned (.agg #[.string key, .int .i64 op, .slice a m c, .int .i64 n]) ∧ Below w.heap.size w w' := by
  go_enter Tryz.func9, Tryz.ntmps9
  go_wp2_with fail
  refine bodyPost_ret (v := .agg #[.string key, .int .i64 op, .slice a m c, .int .i64 n]) (by simp [results, Tryz.results9, go_sem]) rfl ?_
  exact ⟨rfl, box_below _⟩

def tZone : Txt := [122, 111, 110, 101]
def tGen : Txt := [103, 101, 110]
def liveL : List VReq := [⟨tZone, 1, [[97], [98], [99]], 0⟩, ⟨tZone, 2, [[98]], 0⟩, ⟨tGen, 5, [], 3⟩]
theorem live_sets0 : (setsR liveL).2 = 0 := by decide +kernel
theorem live_sets1 : (setsR liveL).1.map (fun x => (x.1, x.2.vals.length)) = [(tGen, 0), (tZone, 2)] := by decide +kernel
theorem live_adm1 : admitsR liveL [(tZone, [97]), (tGen, [53])] = (true, 0) := by decide +kernel
theorem live_adm2 : admitsR liveL [(tZone, [97])] = (false, 0) := by decide +kernel
theorem live_can : canR [⟨tZone, 1, [[97]], 0⟩, ⟨tZone, 1, [[98]], 0⟩] = (false, 0) := by decide +kernel
theorem live_meets : meetsR liveL [] = (true, 0) := by decide +kernel
end Go.Proofs.YtnkcbmlobikjkaaGreatDoor
