/- CoolChecks: the walk. -/
import Derived.Test.YtcpgodkgdceocaaCLRow
namespace Go.Proofs.Ytcpgodkgdceocaa.coolChecks
open Go.RowKit Suf Val

set_option maxRecDepth 100000 in
set_option maxHeartbeats 32000000 in
theorem walk (v : Value) (l : List VCool) (x : VCool) (w : World) (hv : Lst coolK w v l) (hb : l.length * 56 ≤ reachBytes) (hx : okO x.1) :
    Calls Try.prog 4 #[v, coolA x] w fun e w' => e = .returned (.bool true) ∧ Below w.heap.size w w' := by
  have HB : Hid (l.length * 56 ≤ 140737488355328) := by have := reachBytes_lt; show _ ≤ _; omega
  have HV := hide hv
  have HX := hide hx
  obtain ⟨a, c, rfl⟩ := hv.val
  obtain ⟨n, hn⟩ : ∃ n, n = l.length := ⟨_, rfl⟩
  rw [← hn] at HV ⊢
  have HN := hide hn
  clear hv hx hn hb
  have cp := hide (fun (W : World) (v : Value) (h : Lst coolK W v l) => pput_any v l x W h (unhide HX))
  have cr := hide (fun (W : World) (v : Value) (h : Lst coolK W v l) => rput_any v l x W h (unhide HX))
  unfold coolA at cp cr ⊢
  obtain ⟨P, hP⟩ : ∃ P, P = putR l x := ⟨_, rfl⟩
  rw [← hP] at cp cr
  clear hP
  obtain ⟨W1, hW1⟩ : ∃ W, W = w.alloc (.cells #[.string (bytesT x.1.1), .string (bytesT x.1.2.1), .string (bytesT x.1.2.2), .int .i64 x.2] 25) := ⟨_, rfl⟩
  have B1 : Hid (Below w.heap.size w W1) := by rw [hW1]; exact boxb _
  have F1 : Hid (CBox W1 w.heap.size x) := by rw [hW1]; exact cbox_new _ _
  have hs1 : W1.heap.size = w.heap.size + 1 := by rw [hW1]; simp
  obtain ⟨W2, hW2⟩ : ∃ W, W = W1.alloc (.cells #[] 25) := ⟨_, rfl⟩
  have B2 : Hid (Below W1.heap.size W1 W2) := by rw [hW2]; exact boxb _
  have O2 : Hid (OwnC W2 W1.heap.size (.slice (some ⟨w.heap.size + 1, 0, none⟩) 0 0) []) := by
    rw [hW2, ← hs1]
    exact ⟨grow_empty (Nat.le_refl _), fun x hx => (by cases hx), by simp⟩
  rw [hW1] at hW2
  have GW := hide hW2
  clear hW1 hW2 hs1
  go_enter Try.func4, Try.ntmps4
  go_wp2_with (at_builtin; rw [← unhide GW]; refine append_cools rfl _ _ rfl W1.heap.size _ [] rfl (unhide O2) _ l rfl ((unhide HV).below (chain (unhide B1) (unhide B2))) (by have := unhide HB; simpa using this) (unhide B2).size ?_; intro v' w9 hown hg; have H9 := hide (And.intro hown hg); clear hown hg; go_frame)
  obtain ⟨hown, hg⟩ := unhide H9
  rw [List.nil_append] at hown
  have B9 := hide (grow_on (unhide B2) (unhide O2).1 hg)
  have LI := hide hown.lst
  have F9 := hide ((unhide F1).below (unhide B9))
  have BW := hide (chain (unhide B1) (unhide B9))
  clear H9 hown hg O2 B2 B1 F1 GW B9
  have cc := hide (rcheck7_any _ l w9 (unhide LI))
  obtain ⟨z, hz⟩ : ∃ z, z = coolR l := ⟨_, rfl⟩
  rw [← hz] at cc
  have HZ := hide hz
  clear hz
  go_wp2_with fail
  refine (unhide cc).mono ?_
  rintro e w3 ⟨rfl, hw3⟩
  have B3 := hide (chain (unhide BW) hw3)
  have LI3 := hide ((unhide LI).below hw3)
  have LL3 := hide ((unhide HV).below (unhide B3))
  have F3 := hide ((unhide F9).below hw3)
  clear hw3 cc LI F9 BW
  obtain ⟨f0, f1, f2, f3⟩ := unhide F3
  have cp3 := hide (unhide cp w3 _ (unhide LL3))
  go_wp2_with fail
  refine (unhide cp3).mono ?_
  rintro e w4 ⟨⟨va, rfl, hown⟩, hw4⟩
  have B4 := hide hw4
  have OA := hide hown
  have LI4 := hide ((unhide LI3).below hw4)
  have F4 := hide ((unhide F3).below hw4)
  clear hw4 hown cp3 F3 f0 f1 f2 f3
  obtain ⟨f0, f1, f2, f3⟩ := unhide F4
  have cr4 := hide (unhide cr w4 _ (unhide LI4))
  go_wp2_with fail
  refine (unhide cr4).mono ?_
  rintro e w5 ⟨⟨vb, rfl, hown⟩, hw5⟩
  have B5 := hide (chain (unhide B4) hw5)
  have OA5 := hide ((unhide OA).below hw5)
  have LB5 := hide hown.lst
  clear hw5 hown cr4 OA LI4 F4 f0 f1 f2 f3 cp cr B4
  obtain ⟨A, hA⟩ : ∃ A, A = P.1 := ⟨_, rfl⟩
  obtain ⟨E, hE⟩ : ∃ E, E = P.2 := ⟨_, rfl⟩
  rw [← hA] at OA5 LB5
  rw [← hE]
  clear hA hE
  have cs := hide (same7_any _ _ A A w5 (unhide OA5).lst (unhide LB5))
  rw [show (A == A) = true by simp] at cs
  obtain ⟨na, hna⟩ : ∃ n, n = A.length := ⟨_, rfl⟩
  have RX : Hid (RowX w5 w3.heap.size 25 4 va na) := ⟨_, by rw [hna]; exact (unhide OA5).1⟩
  have hee : (E == E) = true := by simp
  clear OA5 LB5 hna
  go_wp2_with fail
  refine (unhide cs).mono ?_
  rintro e w6 ⟨rfl, hw6⟩
  have B6 := hide (chain (unhide B5) hw6)
  have RX6 := hide ((unhide RX).below hw6)
  clear hw6 cs RX B5
  have hlen : na ≤ 17592186044416 ∨ True := Or.inr trivial
  clear hlen
  have fin : ∀ W : World, Hid (Below w3.heap.size w3 W) → True := fun _ _ => trivial
  clear fin
  have cck := hide (fun (W : World) (h : Below w3.heap.size w3 W) => pcheck7_any _ l W ((unhide LL3).below h))
  rw [← unhide HZ] at cck
  have css := hide (fun (W : World) (h : Below w3.heap.size w3 W) => same7_any _ _ l l W ((unhide LL3).below h) ((unhide LI3).below h))
  rw [show (l == l) = true by simp] at css
  have hzz : (z == z) = true := by simp
  have hS : ∃ (vv : Value), vv = va ∧ ∃ (sa : Option Addr) (sc : Nat), vv = .slice sa na sc ∧ (0 < na → ∃ g, sa = some ⟨g, 0, none⟩) := by
    rcases (unhide RX6).val with ⟨rfl, h0⟩ | ⟨g, cp, rfl⟩
    · exact ⟨_, rfl, none, 0, by rw [h0], fun h => by omega⟩
    · exact ⟨_, rfl, _, cp, rfl, fun _ => ⟨g, rfl⟩⟩
  obtain ⟨_, rfl, sa, sc, rfl, hsa⟩ := hS
  have hnl : Hid (na ≤ 9223372036854775807) := by
    obtain ⟨xs, h⟩ := unhide RX6
    rcases h.2 with ⟨_, h0⟩ | ⟨g, cap, cur, e, _, _, h1, h2, _⟩
    · show _ ≤ _; omega
    · show _ ≤ _; unfold maxLen at h2; omega
  have hn2 := unhide hnl
  have HSA := hide hsa
  clear LI3 LL3 hsa hnl
  go_wp2_with fail
  go_loopw [12] (fun i W => ∃ k : Nat, k ≤ na ∧ i = .int .i64 k ∧ Hid (RowX W w3.heap.size 25 4 (.slice sa na sc) na) ∧ Hid (Below w3.heap.size w3 W)) (fun i _ => na - (intOf i).toNat)
  case atStart => exact ⟨0, Nat.zero_le _, rfl, RX6, B6⟩
  case round =>
    obtain ⟨k, hk, rfl, hrow, hbel⟩ := hrel
    by_cases hlt : k < na
    · obtain ⟨g, rfl⟩ := unhide HSA (by omega)
      obtain ⟨y0, c0⟩ := (unhide hrow).cell (j := k * 4) (by omega)
      obtain ⟨y1, c1⟩ := (unhide hrow).cell (j := k * 4 + 1) (by omega)
      obtain ⟨y2, c2⟩ := (unhide hrow).cell (j := k * 4 + 2) (by omega)
      obtain ⟨y3, c3⟩ := (unhide hrow).cell (j := k * 4 + 3) (by omega)
      have z0 := (unhide hrow).frozen (k * 4)
      have z1 := (unhide hrow).frozen (k * 4 + 1)
      have z2 := (unhide hrow).frozen (k * 4 + 2)
      have z3 := (unhide hrow).frozen (k * 4 + 3)
      have R2 := hide ((unhide hrow).put4 (k * 4) (.string ⟨#[]⟩) (.string ⟨#[]⟩) (.string ⟨#[]⟩) (.int .i64 (-77)))
      have B2 := hide (put4_below (unhide hbel) (unhide hrow).ge (k * 4) (.string ⟨#[]⟩) (.string ⟨#[]⟩) (.string ⟨#[]⟩) (.int .i64 (-77)))
      have i0 : (0 : Int) ≤ (k : Int) := by omega
      have i1 : (k : Int) < (na : Int) := by omega
      unfold put4 at R2 B2
      clear hrow hbel
      go_wp2_with fail
      exact ⟨⟨k + 1, by omega, by go_num, R2, B2⟩, by simp [intOf]; omega⟩
    · obtain rfl : k = na := by omega
      clear hrow
      go_wp2_with fail
      refine (live7_any _).mono ?_
      rintro e w10 ⟨rfl, hw10⟩
      have B10 := hide (chain (unhide hbel) hw10)
      clear hw10 hbel
      go_wp2_with fail
      refine (unhide cck _ (unhide B10)).mono ?_
      rintro e w11 ⟨rfl, hw11⟩
      have B11 := hide (chain (unhide B10) hw11)
      clear hw11 B10
      go_wp2_with fail
      refine (unhide css _ (unhide B11)).mono ?_
      rintro e w12 ⟨rfl, hw12⟩
      have B12 := hide (chain (unhide B11) hw12)
      clear hw12 B11
      go_wp2_with fail
      go_ret
      exact ⟨rfl, chain (unhide B3) (unhide B12)⟩
end Go.Proofs.Ytcpgodkgdceocaa.coolChecks
