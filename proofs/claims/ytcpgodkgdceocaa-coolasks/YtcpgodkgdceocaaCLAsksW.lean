/- CoolAsks: the walk. -/
import Derived.Test.YtcpgodkgdceocaaCLRowB
namespace Go.Proofs.Ytcpgodkgdceocaa.coolAsks
open Go.RowKit Suf Val

theorem c3_call7 {V W W' : World} {p0 p1 p2 : Addr} {v0 v1 v2 : Value} (hb : Below W.heap.size W W') (h : Hid (Below V.heap.size V W) ∧ W.cell? p0 = some v0 ∧ W.cell? p1 = some v1 ∧ W.cell? p2 = some v2) : Hid (Below V.heap.size V W') ∧ W'.cell? p0 = some v0 ∧ W'.cell? p1 = some v1 ∧ W'.cell? p2 = some v2 :=
  ⟨chain (unhide h.1) hb, cell_kept hb h.2.1, cell_kept hb h.2.2.1, cell_kept hb h.2.2.2⟩
set_option maxRecDepth 100000 in
set_option maxHeartbeats 32000000 in
theorem walk (v : Value) (l : List VCool) (u : Value) (m : List VOff) (now : Int) (w : World) (hv : Lst coolK w v l) (hb : l.length * 56 ≤ reachBytes) (hu : Lst offK w u m) (hbu : m.length * 48 ≤ reachBytes) :
    Calls Try.prog 5 #[v, u, .int .i64 now] w fun e w' => e = .returned (.bool true) ∧ Below w.heap.size w w' := by
  have HB : Hid (l.length * 56 ≤ 140737488355328) := by have := reachBytes_lt; show _ ≤ _; omega
  have HBU : Hid (m.length * 48 ≤ 140737488355328) := by have := reachBytes_lt; show _ ≤ _; omega
  have HV := hide hv
  have HU := hide hu
  have hlen := hu.len
  obtain ⟨a, c, rfl⟩ := hv.val
  obtain ⟨a2, c2, rfl⟩ := hu.val
  obtain ⟨n, hn⟩ : ∃ n, n = l.length := ⟨_, rfl⟩
  rw [← hn] at HV ⊢
  have HN := hide hn
  obtain ⟨n2, hn2⟩ : ∃ n, n = m.length := ⟨_, rfl⟩
  rw [← hn2] at HU hlen ⊢
  have HN2 := hide hn2
  clear hv hu hn hn2 hb hbu
  obtain ⟨W2, hW2⟩ : ∃ W, W = w.alloc (.cells #[] 25) := ⟨_, rfl⟩
  have B2 : Hid (Below w.heap.size w W2) := by rw [hW2]; exact boxb _
  have O2 : Hid (OwnC W2 w.heap.size (.slice (some ⟨w.heap.size, 0, none⟩) 0 0) []) := by
    rw [hW2]
    exact ⟨grow_empty (Nat.le_refl _), fun x hx => (by cases hx), by simp⟩
  have GW := hide hW2
  clear hW2
  go_enter Try.func5, Try.ntmps5
  go_wp2_with (at_builtin; rw [← unhide GW]; refine append_cools rfl _ _ rfl w.heap.size _ [] rfl (unhide O2) _ l rfl ((unhide HV).below (unhide B2)) (by have := unhide HB; simpa using this) (unhide B2).size ?_; intro v' w9 hown hg; have H9 := hide (And.intro hown hg); clear hown hg; go_frame)
  obtain ⟨hown, hg⟩ := unhide H9
  rw [List.nil_append] at hown
  have B3 := hide (grow_on (unhide B2) (unhide O2).1 hg)
  have LI3 := hide hown.lst
  obtain ⟨ia, ic, rfl⟩ := hown.val
  rw [← unhide HN] at LI3 ⊢
  have LL3 := hide ((unhide HV).below (unhide B3))
  have LO3 := hide ((unhide HU).below (unhide B3))
  clear H9 hown hg O2 B2 GW HV HU
  have k0 : Hid (∀ W, Below w9.heap.size w9 W → Lst coolK W (.slice a n c) l ∧ Lst coolK W (.slice ia n ic) l ∧ Lst offK W (.slice a2 n2 c2) m) := fun W h => ⟨(unhide LL3).below h, (unhide LI3).below h, (unhide LO3).below h⟩
  have cA := hide (pleft_any _ _ l m now w9 (unhide LL3) (unhide LO3) (unhide HBU))
  clear LI3 LL3 LO3
  obtain ⟨R, hR⟩ : ∃ R, R = leftR l m now := ⟨_, rfl⟩
  rw [← hR] at cA
  have HR := hide hR
  clear hR
  go_wp2_with fail
  refine (unhide cA).mono ?_
  rintro e w4 ⟨⟨va, rfl, hown⟩, hw4⟩
  have B4 := hide hw4
  have OA4 := hide hown
  have LA4 := hide hown.lst
  clear hw4 hown cA
  have cB := hide (rleft_any _ _ l m now w4 (unhide k0 _ (unhide B4)).2.1 (unhide k0 _ (unhide B4)).2.2 (unhide HBU))
  rw [← unhide HR] at cB
  clear HBU HR
  go_wp2_with fail
  refine (unhide cB).mono ?_
  rintro e w5 ⟨⟨vb, rfl, hown⟩, hw5⟩
  have B5 := hide (chain (unhide B4) hw5)
  have OA5 := hide ((unhide OA4).below hw5)
  have OB5 := hide hown
  have hga : Hid (∀ g, va.ownBlock = some g → g < w4.heap.size) := fun g e => ((unhide OA4).1.lt g e).2
  have hl45 := hide hw5.size
  have hl95 := hide (Nat.le_trans (unhide B4).size hw5.size)
  clear hw5 hown cB LA4 OA4 B4
  have cC := hide (pclean_any _ l now w5 (unhide k0 _ (unhide B5)).1 (unhide HB))
  obtain ⟨Q, hQ⟩ : ∃ Q, Q = cleanR l now := ⟨_, rfl⟩
  rw [← hQ] at cC
  have HQ := hide hQ
  clear hQ
  go_wp2_with fail
  refine (unhide cC).mono ?_
  rintro e w6 ⟨⟨vc, rfl, hown⟩, hw6⟩
  have B6 := hide (chain (unhide B5) hw6)
  have OA6 := hide ((unhide OA5).below hw6)
  have OB6 := hide ((unhide OB5).below hw6)
  have OC6 := hide hown
  clear hw6 hown cC OA5 OB5 B5
  have cD := hide (rclean_any _ l now w6 (unhide k0 _ (unhide B6)).2.1 (unhide HB))
  rw [← unhide HQ] at cD
  clear HQ HB
  go_wp2_with fail
  refine (unhide cD).mono ?_
  rintro e w7 ⟨⟨vd, rfl, hown⟩, hw7⟩
  have B7 := hide (chain (unhide B6) hw7)
  have OA7 := hide ((unhide OA6).below hw7)
  have OB7 := hide ((unhide OB6).below hw7)
  have OC7 := hide ((unhide OC6).below hw7)
  have LD7 := hide hown.lst
  clear hw7 hown cD OA6 OB6 OC6 B6
  obtain ⟨N, hN⟩ : ∃ N, N = nextR l now := ⟨_, rfl⟩
  have cN := hide (fun (W : World) (h : Below w9.heap.size w9 W) => pnext_any _ l now W (unhide k0 _ h).1)
  have cM := hide (fun (W : World) (h : Below w9.heap.size w9 W) => rnext_any _ l now W (unhide k0 _ h).2.1)
  rw [← hN] at cN cM
  clear hN
  go_wp2_with fail
  refine (unhide cN _ (unhide B7)).mono ?_
  rintro e w8 ⟨rfl, hw8⟩
  have B8 := hide (chain (unhide B7) hw8)
  have OA8 := hide ((unhide OA7).below hw8)
  have OB8 := hide ((unhide OB7).below hw8)
  have OC8 := hide ((unhide OC7).below hw8)
  have LD8 := hide ((unhide LD7).below hw8)
  clear hw8 cN OA7 OB7 OC7 LD7 B7
  go_wp2_with fail
  refine (unhide cM _ (unhide B8)).mono ?_
  rintro e w10 ⟨rfl, hw10⟩
  have B10 := hide (chain (unhide B8) hw10)
  have OA10 := hide ((unhide OA8).below hw10)
  have OB10 := hide ((unhide OB8).below hw10)
  have OC10 := hide ((unhide OC8).below hw10)
  have LD10 := hide ((unhide LD8).below hw10)
  clear hw10 cM OA8 OB8 OC8 LD8 B8
  have cs := hide (same7_any _ _ Q Q w10 (unhide OC10).lst (unhide LD10))
  rw [show (Q == Q) = true by simp] at cs
  obtain ⟨nr, hnr⟩ : ∃ n, n = R.length := ⟨_, rfl⟩
  have HNR := hide hnr
  obtain ⟨sb, cb, rfl⟩ := (unhide OB10).val
  have LA10 : Hid (LeftO w10 w9.heap.size va R nr 0) := LeftO.start (unhide OA10) hnr
  obtain ⟨sa, ca, rfl, hsa⟩ := (unhide LA10).rowX.shape
  have HSA := hide hsa
  obtain ⟨nq, hnq⟩ : ∃ n, n = Q.length := ⟨_, rfl⟩
  have RC10 : Hid (RowX w10 w5.heap.size 25 4 vc nq) := ⟨_, by rw [hnq]; exact (unhide OC10).1⟩
  obtain ⟨sq, cq, rfl, hsq⟩ := (unhide RC10).shape
  have HSQ := hide hsq
  have hmr := (unhide LA10).rowX.max
  have hmq := (unhide RC10).max
  rw [← hnr]
  have hne : ((nr : Int) != (nr : Int)) = false := by simp
  have hne1 : (N.1 != N.1) = false := by simp
  have hne2 : (N.2 != N.2) = false := by cases N.2 <;> rfl
  clear hnr hsa hnq hsq OA10 OC10 LD10
  go_wp2_with fail
  refine (unhide cs).mono ?_
  rintro e w11 ⟨rfl, hw11⟩
  have B11 := hide (chain (unhide B10) hw11)
  have LA11 := hide ((unhide LA10).below hw11)
  have OB11 := hide ((unhide OB10).below hw11)
  have RC11 := hide ((unhide RC10).below hw11)
  clear hw11 cs LA10 OB10 RC10 B10
  go_wp2_with fail
  clear hne hne1 hne2
  go_loopw [16] (fun i W => ∃ k : Nat, k ≤ nr ∧ i = .int .i64 k ∧ Hid (LeftO W w9.heap.size (.slice sa nr ca) R nr k) ∧ Hid (OwnO W w4.heap.size (.slice sb nr cb) R) ∧ Hid (RowX W w5.heap.size 25 4 (.slice sq nq cq) nq) ∧ Hid (Below w9.heap.size w9 W)) (fun i _ => nr - (intOf i).toNat)
  case atStart => exact ⟨0, Nat.zero_le _, rfl, LA11, by rw [unhide HNR]; exact OB11, RC11, B11⟩
  case round =>
    obtain ⟨k, hk, rfl, hla, hob, hrc, hbel⟩ := hrel
    by_cases hlt : k < nr
    · obtain ⟨g, rfl⟩ := unhide HSA (by omega)
      have hlk : k < R.length := by rw [← unhide HNR]; exact hlt
      obtain ⟨x0, x1, x2⟩ := (unhide hla).cells (unhide HNR) hlk
      obtain ⟨gb, ob, rfl, hat⟩ := (unhide hob).lst.at hlk
      obtain ⟨⟨y0, _⟩, ⟨y1, _⟩, y2, _⟩ := off_at.1 hat
      rw [show offK.size = 3 from rfl] at y0 y1 y2
      obtain ⟨x, hx⟩ : ∃ x, x = R[k] := ⟨_, rfl⟩
      rw [← hx] at x0 x1 x2 y0 y1 y2
      have hob2 := off_beq x x
      rw [show (x == x) = true by simp] at hob2
      obtain ⟨X0, hX0⟩ : ∃ X, X = bytesT x.1 := ⟨_, rfl⟩
      obtain ⟨X1, hX1⟩ : ∃ X, X = bytesT x.2.1 := ⟨_, rfl⟩
      obtain ⟨X2, hX2⟩ : ∃ X, X = bytesT x.2.2 := ⟨_, rfl⟩
      rw [← hX0, ← hX1, ← hX2] at hob2
      rw [← hX0] at x0 y0
      rw [← hX1] at x1 y1
      rw [← hX2] at x2 y2
      have qN : ∀ W, (binOp .neq 23 (.agg #[.string X0, .string X1, .string X2]) (.agg #[.string X0, .string X1, .string X2])).run Try.prog W = .ok (.bool false) W := fun W => by rw [neqOff, hob2]; rfl
      have qG := offGuard
      have hglt : Hid (g < w4.heap.size) := unhide hga g rfl
      have i0 : (0 : Int) ≤ (k : Int) := by omega
      have i1 : (k : Int) < (nr : Int) := by omega
      have hS : (fun W => Hid (Below wr.heap.size wr W) ∧ W.cell? ⟨g, k * 3, none⟩ = some (.string X0) ∧ W.cell? ⟨g, k * 3 + 1, none⟩ = some (.string X1) ∧ W.cell? ⟨g, k * 3 + 2, none⟩ = some (.string X2) ∧ W.cell? ⟨gb, ob + k * 3, none⟩ = some (.string X0) ∧ W.cell? ⟨gb, ob + k * 3 + 1, none⟩ = some (.string X1) ∧ W.cell? ⟨gb, ob + k * 3 + 2, none⟩ = some (.string X2)) wr := ⟨Below.refl _ _, x0, x1, x2, y0, y1, y2⟩
      simp only at hS
      clear x0 x1 x2 y0 y1 y2 hat hx hX0 hX1 hX2 hob2
      go_wp2_with fail
      go_region_held3 (fun W => Hid (Below wr.heap.size wr W) ∧ W.cell? ⟨g, k * 3, none⟩ = some (.string X0) ∧ W.cell? ⟨g, k * 3 + 1, none⟩ = some (.string X1) ∧ W.cell? ⟨g, k * 3 + 2, none⟩ = some (.string X2) ∧ W.cell? ⟨gb, ob + k * 3, none⟩ = some (.string X0) ∧ W.cell? ⟨gb, ob + k * 3 + 1, none⟩ = some (.string X1) ∧ W.cell? ⟨gb, ob + k * 3 + 2, none⟩ = some (.string X2))
        (first | (with_reducible exact hS) | (with_reducible assumption) | (with_reducible refine c6_drew7 ?_; with_reducible assumption))
        (fail)
      rename_i hH
      have hb9 := unhide hH.1
      obtain ⟨hh0, x0, x1, x2, hh1, hh2, hh3⟩ := hH
      clear hh1 hh2 hh3
      have la := (unhide hla).below hb9
      have ob := (unhide hob).below hb9
      have rc := (unhide hrc).below hb9
      have bl := chain (unhide hbel) hb9
      have gr := put3_grown la.rowX (k * 3) (.string ⟨#[64]⟩) (.string ⟨#[]⟩) (.string ⟨#[]⟩)
      have L2 := hide (la.put3 hlk (.string ⟨#[64]⟩) (.string ⟨#[]⟩) (.string ⟨#[]⟩))
      have O2 := hide (ob.other gr (unhide hglt))
      have R2 := hide (rc.other gr (Nat.lt_of_lt_of_le (unhide hglt) (unhide hl45)))
      have B2 := hide (put3_below bl la.rowX.ge (k * 3) (.string ⟨#[64]⟩) (.string ⟨#[]⟩) (.string ⟨#[]⟩))
      have z0 := la.rowX.frozen (k * 3)
      have z1 := la.rowX.frozen (k * 3 + 1)
      have z2 := la.rowX.frozen (k * 3 + 2)
      unfold put3 at L2 O2 R2 B2
      clear hh0 la ob rc bl gr hS hb9 hla hob hrc hbel qN qG hglt
      obtain ⟨wz, hwz⟩ : ∃ W, W = wr.drew := ⟨_, rfl⟩
      rw [← hwz] at x0 x1 x2 z0 z1 z2 L2 O2 R2 B2 ⊢
      clear hwz
      go_wp2_with fail
      go_roundw
      case rel => exact ⟨k + 1, by omega, by go_num, L2, O2, R2, B2⟩
      case measure => simp [intOf]; omega
    · obtain rfl : k = nr := by omega
      clear hla hob
      go_wp2_with fail
      go_loopw [17] (fun i W => ∃ k : Nat, k ≤ n2 ∧ i = .int .i64 k ∧ Hid (RowX W w5.heap.size 25 4 (.slice sq nq cq) nq) ∧ Hid (Below w9.heap.size w9 W)) (fun i _ => n2 - (intOf i).toNat)
      case atStart => exact ⟨0, Nat.zero_le _, rfl, hrc, hbel⟩
      case round =>
        obtain ⟨k, hk, rfl, hrc, hbel⟩ := hrel
        by_cases hlt2 : k < n2
        · have hlk : k < m.length := by rw [← unhide HN2]; exact hlt2
          obtain ⟨b, o, rfl, hat⟩ := (unhide k0 _ (unhide hbel)).2.2.at hlk
          obtain ⟨x, hx⟩ : ∃ x, x = m[k] := ⟨_, rfl⟩
          rw [← hx] at hat
          obtain ⟨⟨x0, _⟩, ⟨x1, _⟩, x2, _⟩ := off_at.1 hat
          rw [show offK.size = 3 from rfl] at x0 x1 x2
          have c1 := hide (fun (V : World) (h : Below w9.heap.size w9 V) => pisCool_any _ l x now V (unhide k0 _ h).1)
          have c2 := hide (fun (V : World) (h : Below w9.heap.size w9 V) => risCool_any _ l x now V (unhide k0 _ h).2.1)
          unfold offA at c1 c2
          obtain ⟨X0, hX0⟩ : ∃ X, X = bytesT x.1 := ⟨_, rfl⟩
          obtain ⟨X1, hX1⟩ : ∃ X, X = bytesT x.2.1 := ⟨_, rfl⟩
          obtain ⟨X2, hX2⟩ : ∃ X, X = bytesT x.2.2 := ⟨_, rfl⟩
          rw [← hX0, ← hX1, ← hX2] at c1 c2
          rw [← hX0] at x0
          rw [← hX1] at x1
          rw [← hX2] at x2
          obtain ⟨r, hr⟩ : ∃ r, r = isCoolR l x now := ⟨_, rfl⟩
          rw [← hr] at c1 c2
          have c3 := hide (fun (V : World) (h : Hid (Below wr.heap.size wr V) ∧ V.cell? ⟨b, o + k * 3, none⟩ = some (.string X0) ∧ V.cell? ⟨b, o + k * 3 + 1, none⟩ = some (.string X1) ∧ V.cell? ⟨b, o + k * 3 + 2, none⟩ = some (.string X2)) => unhide c1 V (chain (unhide hbel) (unhide h.1)))
          have c4 := hide (fun (V : World) (h : Hid (Below wr.heap.size wr V) ∧ V.cell? ⟨b, o + k * 3, none⟩ = some (.string X0) ∧ V.cell? ⟨b, o + k * 3 + 1, none⟩ = some (.string X1) ∧ V.cell? ⟨b, o + k * 3 + 2, none⟩ = some (.string X2)) => unhide c2 V (chain (unhide hbel) (unhide h.1)))
          have i0 : (0 : Int) ≤ (k : Int) := by omega
          have i1 : (k : Int) < (n2 : Int) := by omega
          have hS : (fun W => Hid (Below wr.heap.size wr W) ∧ W.cell? ⟨b, o + k * 3, none⟩ = some (.string X0) ∧ W.cell? ⟨b, o + k * 3 + 1, none⟩ = some (.string X1) ∧ W.cell? ⟨b, o + k * 3 + 2, none⟩ = some (.string X2)) wr := ⟨Below.refl _ _, x0, x1, x2⟩
          simp only at hS
          clear x0 x1 x2 hat hx hX0 hX1 hX2 hr c1 c2
          go_wp2_with fail
          cases r <;> go_region_held3 (fun W => Hid (Below wr.heap.size wr W) ∧ W.cell? ⟨b, o + k * 3, none⟩ = some (.string X0) ∧ W.cell? ⟨b, o + k * 3 + 1, none⟩ = some (.string X1) ∧ W.cell? ⟨b, o + k * 3 + 2, none⟩ = some (.string X2))
            (first | (with_reducible exact hS) | (with_reducible assumption) | (with_reducible refine c3_drew7 ?_; with_reducible assumption) | (refine c3_call7 (by assumption) ?_; with_reducible assumption))
            (first
              | (go_at_call 21; refine (unhide c3 _ (by with_reducible assumption)).mono ?_; rintro e w12 ⟨rfl, hw12⟩)
              | (go_at_call 22; refine (unhide c4 _ (by with_reducible assumption)).mono ?_; rintro e w12 ⟨rfl, hw12⟩))
          all_goals
            rename_i hH
            have R2 := hide ((unhide hrc).below (unhide hH.1))
            have B2 := hide (chain (unhide hbel) (unhide hH.1))
            clear hH hS hrc hbel c3 c4 hw12
            go_wp2_with fail
            go_roundw
            case rel => exact ⟨k + 1, by omega, by go_num, R2, B2⟩
            case measure => simp [intOf]; omega
        · obtain rfl : k = n2 := by omega
          go_wp2_with fail
          go_loopw [18] (fun i W => ∃ k : Nat, k ≤ nq ∧ i = .int .i64 k ∧ Hid (RowX W w5.heap.size 25 4 (.slice sq nq cq) nq) ∧ Hid (Below w9.heap.size w9 W)) (fun i _ => nq - (intOf i).toNat)
          case atStart => exact ⟨0, Nat.zero_le _, rfl, hrc, hbel⟩
          case round =>
            obtain ⟨k, hk, rfl, hrow, hbel⟩ := hrel
            by_cases hlt3 : k < nq
            · obtain ⟨g, rfl⟩ := unhide HSQ (by omega)
              obtain ⟨y0, c0⟩ := (unhide hrow).cell (j := k * 4) (by omega)
              obtain ⟨y1, c1⟩ := (unhide hrow).cell (j := k * 4 + 1) (by omega)
              obtain ⟨y2, c2⟩ := (unhide hrow).cell (j := k * 4 + 2) (by omega)
              obtain ⟨y3, c3⟩ := (unhide hrow).cell (j := k * 4 + 3) (by omega)
              have z0 := (unhide hrow).frozen (k * 4)
              have z1 := (unhide hrow).frozen (k * 4 + 1)
              have z2 := (unhide hrow).frozen (k * 4 + 2)
              have z3 := (unhide hrow).frozen (k * 4 + 3)
              have hge : w9.heap.size ≤ g := Nat.le_trans (unhide hl95) (unhide hrow).ge
              have R2 := hide ((unhide hrow).put4 (k * 4) (.string ⟨#[]⟩) (.string ⟨#[]⟩) (.string ⟨#[]⟩) (.int .i64 (-77)))
              have B2 := hide (put4_below (unhide hbel) hge (k * 4) (.string ⟨#[]⟩) (.string ⟨#[]⟩) (.string ⟨#[]⟩) (.int .i64 (-77)))
              have i0 : (0 : Int) ≤ (k : Int) := by omega
              have i1 : (k : Int) < (nq : Int) := by omega
              unfold put4 at R2 B2
              clear hrow hbel hge
              go_wp2_with fail
              go_roundw
              case rel => exact ⟨k + 1, by omega, by go_num, R2, B2⟩
              case measure => simp [intOf]; omega
            · obtain rfl : k = nq := by omega
              clear hrow
              go_wp2_with fail
              refine (live7_any _).mono ?_
              rintro e w13 ⟨rfl, hw13⟩
              have B13 := hide (chain (unhide hbel) hw13)
              clear hw13 hbel
              have css := hide (same7_any _ _ l l w13 (unhide k0 _ (unhide B13)).1 (unhide k0 _ (unhide B13)).2.1)
              rw [show (l == l) = true by simp] at css
              go_wp2_with fail
              refine (unhide css).mono ?_
              rintro e w14 ⟨rfl, hw14⟩
              have B14 := hide (chain (unhide B13) hw14)
              clear hw14 B13 css
              go_wp2_with fail
              go_ret
              exact ⟨rfl, chain (unhide B3) (unhide B14)⟩
end Go.Proofs.Ytcpgodkgdceocaa.coolAsks
