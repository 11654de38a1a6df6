/- ObjectChecks: the walk, whole -/
import Derived.Test.YthaldbjnnbllbaaGreatDoorOChecksWG
import Derived.Test.YthaldbjnnbllbaaGreatDoorO8WG
import Derived.Test.YthaldbjnnbllbaaGreatDoorO8NG
namespace Go.Proofs.YthaldbjnnbllbaaGreatDoor.objectChecks
open Go.RowKit Suf Val

set_option maxRecDepth 100000 in
set_option maxHeartbeats 16000000 in
theorem walk (x : VAny) (u1 u2 u3 u4 u5 p1 p2 c1 d1 d2 : Value) (w : World) (h1 : PodIn w x.pod u1 u2 u3 u4 u5) (h2 : PolIn w x.pool p1 p2) (h3 : ClmIn w x.claim c1) (h4 : CmdIn w x.cmd d1 d2) (h5 : okO x.cool.1) (hL : Laid w) :
    Calls Tryz.prog 3 #[anyA x u1 u2 u3 u4 u5 p1 p2 c1 d1 d2] w fun e w' => e = .returned (.bool true) ∧ Below w.heap.size w w' := by
  unfold anyA
  by_cases k1 : x.kind = 1
  · rw [k1]
    exact walk_G 1 _ _ _ _ _ _ _ _ _ _ _ _ _ _ _ _ _ _ _ _ _ _ _ _ _ _ _ _ _ _ _ _ _ _ _ _ _ _ _ _ _ _ _ _ _ _ _ _ _ _ (if podR x.pod = 0 then bytesT x.pod.name else ⟨#[]⟩) (podR x.pod) w hL (fun V hb => of_1 _ _ _ _ _ _ _ _ _ _ _ _ _ _ _ _ _ _ _ _ _ _ _ _ _ _ _ _ _ _ _ _ _ _ _ _ _ _ _ _ _ _ _ _ _ _ _ _ _ V)
      (fun V hb => nm8_of _ _ _ V (told_pod x.pod u1 u2 u3 u4 u5 V (hL.below hb) (h1.below hb)))
      (fun V hb => chk8_of _ _ _ V (told_pod x.pod u1 u2 u3 u4 u5 V (hL.below hb) (h1.below hb)))
      (fun V hb => rnm_1 _ _ _ _ _ _ _ _ _ _ _ _ _ _ _ _ _ _ _ _ _ _ _ _ _ _ _ _ _ _ _ _ _ _ _ _ _ _ _ _ _ _ _ _ _ _ _ _ (podR x.pod) V (bytesT x.pod.name) (fun V1 hb1 => rck_1 _ _ _ _ _ _ _ _ _ _ _ _ _ _ _ _ _ _ _ _ _ _ _ _ _ _ _ _ _ _ _ _ _ _ _ _ _ _ _ _ _ _ _ _ _ _ _ _ _ (podR x.pod) V1 (fun V' hb' => rpod_any x.pod u1 u2 u3 u4 u5 V' (h1.below (chain hb (chain hb1 hb'))))))
      (fun V hb => rck_1 _ _ _ _ _ _ _ _ _ _ _ _ _ _ _ _ _ _ _ _ _ _ _ _ _ _ _ _ _ _ _ _ _ _ _ _ _ _ _ _ _ _ _ _ _ _ _ _ _ (podR x.pod) V (fun V' hb' => rpod_any x.pod u1 u2 u3 u4 u5 V' (h1.below (chain hb hb'))))
      (fun _ V hb => ppod_any x.pod u1 u2 u3 u4 u5 V (hL.below hb) (h1.below hb)) (fun h => absurd h (by decide)) (fun h => absurd h (by decide)) (fun h => absurd h (by decide))
  by_cases k2 : x.kind = 2
  · rw [k2]
    exact walk_G 2 _ _ _ _ _ _ _ _ _ _ _ _ _ _ _ _ _ _ _ _ _ _ _ _ _ _ _ _ _ _ _ _ _ _ _ _ _ _ _ _ _ _ _ _ _ _ _ _ _ _ (if poolR x.pool = 0 then bytesT x.pool.name else ⟨#[]⟩) (poolR x.pool) w hL (fun V hb => of_2 _ _ _ _ _ _ _ _ _ _ _ _ _ _ _ _ _ _ _ _ _ _ _ _ _ _ _ _ _ _ _ _ _ _ _ _ _ _ _ _ _ _ _ _ _ _ _ _ _ V)
      (fun V hb => nm8_of _ _ _ V (told_pool x.pool p1 p2 V (hL.below hb) (h2.below hb)))
      (fun V hb => chk8_of _ _ _ V (told_pool x.pool p1 p2 V (hL.below hb) (h2.below hb)))
      (fun V hb => rnm_2 _ _ _ _ _ _ _ _ _ _ _ _ _ _ _ _ _ _ _ _ _ _ _ _ _ _ _ _ _ _ _ _ _ _ _ _ _ _ _ _ _ _ _ _ _ _ _ _ (poolR x.pool) V (bytesT x.pool.name) (fun V1 hb1 => rck_2 _ _ _ _ _ _ _ _ _ _ _ _ _ _ _ _ _ _ _ _ _ _ _ _ _ _ _ _ _ _ _ _ _ _ _ _ _ _ _ _ _ _ _ _ _ _ _ _ _ (poolR x.pool) V1 (fun V' hb' => rpool_any x.pool p1 p2 V' (h2.below (chain hb (chain hb1 hb'))))))
      (fun V hb => rck_2 _ _ _ _ _ _ _ _ _ _ _ _ _ _ _ _ _ _ _ _ _ _ _ _ _ _ _ _ _ _ _ _ _ _ _ _ _ _ _ _ _ _ _ _ _ _ _ _ _ (poolR x.pool) V (fun V' hb' => rpool_any x.pool p1 p2 V' (h2.below (chain hb hb'))))
      (fun h => absurd h (by decide)) (fun _ V hb => ppool_any x.pool p1 p2 V (hL.below hb) (h2.below hb)) (fun h => absurd h (by decide)) (fun h => absurd h (by decide))
  by_cases k3 : x.kind = 3
  · rw [k3]
    exact walk_G 3 _ _ _ _ _ _ _ _ _ _ _ _ _ _ _ _ _ _ _ _ _ _ _ _ _ _ _ _ _ _ _ _ _ _ _ _ _ _ _ _ _ _ _ _ _ _ _ _ _ _ (if claimR x.claim = 0 then bytesT x.claim.name else ⟨#[]⟩) (claimR x.claim) w hL (fun V hb => of_3 _ _ _ _ _ _ _ _ _ _ _ _ _ _ _ _ _ _ _ _ _ _ _ _ _ _ _ _ _ _ _ _ _ _ _ _ _ _ _ _ _ _ _ _ _ _ _ _ _ V)
      (fun V hb => nm8_of _ _ _ V (told_claim x.claim c1 V (h3.below hb)))
      (fun V hb => chk8_of _ _ _ V (told_claim x.claim c1 V (h3.below hb)))
      (fun V hb => rnm_3 _ _ _ _ _ _ _ _ _ _ _ _ _ _ _ _ _ _ _ _ _ _ _ _ _ _ _ _ _ _ _ _ _ _ _ _ _ _ _ _ _ _ _ _ _ _ _ _ (claimR x.claim) V (bytesT x.claim.name) (fun V1 hb1 => rck_3 _ _ _ _ _ _ _ _ _ _ _ _ _ _ _ _ _ _ _ _ _ _ _ _ _ _ _ _ _ _ _ _ _ _ _ _ _ _ _ _ _ _ _ _ _ _ _ _ _ (claimR x.claim) V1 (fun V' hb' => rclaim_any x.claim c1 V' (h3.below (chain hb (chain hb1 hb'))))))
      (fun V hb => rck_3 _ _ _ _ _ _ _ _ _ _ _ _ _ _ _ _ _ _ _ _ _ _ _ _ _ _ _ _ _ _ _ _ _ _ _ _ _ _ _ _ _ _ _ _ _ _ _ _ _ (claimR x.claim) V (fun V' hb' => rclaim_any x.claim c1 V' (h3.below (chain hb hb'))))
      (fun h => absurd h (by decide)) (fun h => absurd h (by decide)) (fun _ V hb => pclaim_any x.claim c1 V (h3.below hb)) (fun h => absurd h (by decide))
  by_cases k4 : x.kind = 4
  · rw [k4]
    exact walk_G 4 _ _ _ _ _ _ _ _ _ _ _ _ _ _ _ _ _ _ _ _ _ _ _ _ _ _ _ _ _ _ _ _ _ _ _ _ _ _ _ _ _ _ _ _ _ _ _ _ _ _ (if cmdR x.cmd = 0 then ⟨#[99, 111, 109, 109, 97, 110, 100]⟩ else ⟨#[]⟩) (cmdR x.cmd) w hL (fun V hb => of_4 _ _ _ _ _ _ _ _ _ _ _ _ _ _ _ _ _ _ _ _ _ _ _ _ _ _ _ _ _ _ _ _ _ _ _ _ _ _ _ _ _ _ _ _ _ _ _ _ _ V)
      (fun V hb => nm8_of _ _ _ V (told_cmd x.cmd d1 d2 V (h4.below hb)))
      (fun V hb => chk8_of _ _ _ V (told_cmd x.cmd d1 d2 V (h4.below hb)))
      (fun V hb => rnm_4 _ _ _ _ _ _ _ _ _ _ _ _ _ _ _ _ _ _ _ _ _ _ _ _ _ _ _ _ _ _ _ _ _ _ _ _ _ _ _ _ _ _ _ _ _ _ _ _ _ (cmdR x.cmd) V (fun V1 hb1 => rck_4 _ _ _ _ _ _ _ _ _ _ _ _ _ _ _ _ _ _ _ _ _ _ _ _ _ _ _ _ _ _ _ _ _ _ _ _ _ _ _ _ _ _ _ _ _ _ _ _ _ (cmdR x.cmd) V1 (fun V' hb' => rcmd_any x.cmd d1 d2 V' (h4.below (chain hb (chain hb1 hb'))))))
      (fun V hb => rck_4 _ _ _ _ _ _ _ _ _ _ _ _ _ _ _ _ _ _ _ _ _ _ _ _ _ _ _ _ _ _ _ _ _ _ _ _ _ _ _ _ _ _ _ _ _ _ _ _ _ (cmdR x.cmd) V (fun V' hb' => rcmd_any x.cmd d1 d2 V' (h4.below (chain hb hb'))))
      (fun h => absurd h (by decide)) (fun h => absurd h (by decide)) (fun h => absurd h (by decide)) (fun _ V hb => pcmd_any x.cmd d1 d2 V (h4.below hb))
  by_cases k5 : x.kind = 5
  · rw [k5]
    have hC : ∀ (V : World) (B : Nat), V.cell? ⟨B, 0, none⟩ = some (.string (bytesT x.cool.1.1)) → V.cell? ⟨B, 1, none⟩ = some (.string (bytesT x.cool.1.2.1)) → V.cell? ⟨B, 2, none⟩ = some (.string (bytesT x.cool.1.2.2)) → V.cell? ⟨B, 3, none⟩ = some (.int .i64 x.cool.2) → Calls Tryz.prog 21 #[.slice (some ⟨B, 0, none⟩) 1 1] V fun e w' => e = .returned (.int .i64 (coolR [x.cool])) ∧ Below V.heap.size V w' :=
      fun V B g0 g1 g2 g3 => rcheck7_any _ [x.cool] V (cool1 h5 g0 g1 g2 g3)
    exact walk_G 5 _ _ _ _ _ _ _ _ _ _ _ _ _ _ _ _ _ _ _ _ _ _ _ _ _ _ _ _ _ _ _ _ _ _ _ _ _ _ _ _ _ _ _ _ _ _ _ _ _ _ (if coolR [x.cool] = 0 then coolS (bytesT x.cool.1.1) (bytesT x.cool.1.2.1) (bytesT x.cool.1.2.2) else ⟨#[]⟩) (coolR [x.cool]) w hL (fun V hb => of_5 _ _ _ _ _ _ _ _ _ _ _ _ _ _ _ _ _ _ _ _ _ _ _ _ _ _ _ _ _ _ _ _ _ _ _ _ _ _ _ _ _ _ _ _ _ _ _ _ _ V)
      (fun V hb => nm8_of _ _ _ V (told_cool x.cool V h5))
      (fun V hb => chk8_of _ _ _ V (told_cool x.cool V h5))
      (fun V hb => rnm_5 _ _ _ _ _ _ _ _ _ _ _ _ _ _ _ _ _ _ _ _ _ _ _ _ _ _ _ _ _ _ _ _ _ _ _ _ _ _ _ _ _ _ _ _ _ _ (coolR [x.cool]) V (bytesT x.cool.1.1) (bytesT x.cool.1.2.1) (bytesT x.cool.1.2.2) (short_size h5.1) (short_size h5.2.1) (short_size h5.2.2) (fun V1 hb1 => rck_5 _ _ _ _ _ _ _ _ _ _ _ _ _ _ _ _ _ _ _ _ _ _ _ _ _ _ _ _ _ _ _ _ _ _ _ _ _ _ _ _ _ _ _ _ _ _ _ _ _ (coolR [x.cool]) V1 hC))
      (fun V hb => rck_5 _ _ _ _ _ _ _ _ _ _ _ _ _ _ _ _ _ _ _ _ _ _ _ _ _ _ _ _ _ _ _ _ _ _ _ _ _ _ _ _ _ _ _ _ _ _ _ _ _ (coolR [x.cool]) V hC) (fun h => absurd h (by decide)) (fun h => absurd h (by decide)) (fun h => absurd h (by decide)) (fun h => absurd h (by decide))
  have hk : ¬ x.kind = 1 ∧ ¬ x.kind = 2 ∧ ¬ x.kind = 3 ∧ ¬ x.kind = 4 ∧ ¬ x.kind = 5 := ⟨k1, k2, k3, k4, k5⟩
  have ht : ∀ V, Calls Tryz.prog 16 #[.iface 3 (.int .i64 x.kind)] V fun e w' => e = .returned (.tuple #[.string ⟨#[]⟩, .int .i64 1]) ∧ Below V.heap.size V w' := fun V => (told_int x.kind V).mono fun e w' h => ⟨h.1, by rw [h.2]; exact Below.refl _ _⟩
  exact walk_G x.kind _ _ _ _ _ _ _ _ _ _ _ _ _ _ _ _ _ _ _ _ _ _ _ _ _ _ _ _ _ _ _ _ _ _ _ _ _ _ _ _ _ _ _ _ _ _ _ _ _ _ (if (1 : Int) = 0 then ⟨#[]⟩ else ⟨#[]⟩) 1 w hL (fun V hb => of_0 x.kind hk _ _ _ _ _ _ _ _ _ _ _ _ _ _ _ _ _ _ _ _ _ _ _ _ _ _ _ _ _ _ _ _ _ _ _ _ _ _ _ _ _ _ _ _ _ _ _ _ _ V)
    (fun V hb => nm8_of _ _ _ V (ht V))
    (fun V hb => chk8_of _ _ _ V (ht V))
    (fun V hb => rnm_0 x.kind _ _ _ _ _ _ _ _ _ _ _ _ _ _ _ _ _ _ _ _ _ _ _ _ _ _ _ _ _ _ _ _ _ _ _ _ _ _ _ _ _ _ _ _ _ _ _ _ _ 1 V rfl (fun V1 hb1 => rck_0 x.kind hk _ _ _ _ _ _ _ _ _ _ _ _ _ _ _ _ _ _ _ _ _ _ _ _ _ _ _ _ _ _ _ _ _ _ _ _ _ _ _ _ _ _ _ _ _ _ _ _ _ V1))
    (fun V hb => rck_0 x.kind hk _ _ _ _ _ _ _ _ _ _ _ _ _ _ _ _ _ _ _ _ _ _ _ _ _ _ _ _ _ _ _ _ _ _ _ _ _ _ _ _ _ _ _ _ _ _ _ _ _ V) (fun h => absurd h k1) (fun h => absurd h k2) (fun h => absurd h k3) (fun h => absurd h k4)
end Go.Proofs.YthaldbjnnbllbaaGreatDoor.objectChecks
