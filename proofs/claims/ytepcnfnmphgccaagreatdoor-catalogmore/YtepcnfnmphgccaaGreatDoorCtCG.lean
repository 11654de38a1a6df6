/- Layer 6: contracts of checkAmounts, checkLabels, checkOffers, CheckType, Check. -/
import Derived.Test.YtepcnfnmphgccaaGreatDoorCtBG
import Derived.Test.YtepcnfnmphgccaaGreatDoorAmAG
namespace Go.Proofs.YtepcnfnmphgccaaGreatDoor
open Go.RowKit Suf Val

theorem nameT (x : Txt) (w : World) (h : short x) : Calls Tryz.prog 39 #[.string (bytesT x)] w fun e w' => e = .returned (.bool (nameB x)) ∧ w' = w := name_any (bytesT x) w (short_max h)
theorem valueT (x : Txt) (w : World) (h : short x) (hL : Laid w) : Calls Tryz.prog 95 #[.string (bytesT x)] w fun e w' => e = .returned (.bool (valueB x)) ∧ Below w.heap.size w w' := value_any (bytesT x) w (short_size h) hL
theorem fits_eq (a b : Int × Int) : Am.fitsB a.1 a.2 b.1 b.2 = fitsN a b := by
  have h : Am.chkB a.1 a.2 b.1 b.2 = if chkAll a = 0 then chkAll b else chkAll a := rfl
  unfold Am.fitsB fitsN
  rw [h]
  by_cases e : chkAll a = 0
  · rw [if_pos e]; simp [e]
  · rw [if_neg e]; simp [e]

/-- A type in a box. -/
def TypBox (W : World) (B : Nat) (t : VType) (u1 u2 : Value) : Prop :=
  W.cell? ⟨B, 0, none⟩ = some (.string (bytesT t.name)) ∧ W.cell? ⟨B, 1, none⟩ = some (.int .i64 t.cap.1) ∧ W.cell? ⟨B, 2, none⟩ = some (.int .i64 t.cap.2) ∧ W.cell? ⟨B, 3, none⟩ = some (.int .i64 t.ovr.1) ∧ W.cell? ⟨B, 4, none⟩ = some (.int .i64 t.ovr.2) ∧ W.cell? ⟨B, 5, none⟩ = some u1 ∧ W.cell? ⟨B, 6, none⟩ = some u2
theorem TypBox.below {W W' : World} {B : Nat} {t : VType} {u1 u2 : Value} (h : TypBox W B t u1 u2) (hb : Below W.heap.size W W') : TypBox W' B t u1 u2 :=
  ⟨cell_kept hb h.1, cell_kept hb h.2.1, cell_kept hb h.2.2.1, cell_kept hb h.2.2.2.1, cell_kept hb h.2.2.2.2.1, cell_kept hb h.2.2.2.2.2.1, cell_kept hb h.2.2.2.2.2.2⟩
theorem typ_box (w : World) (t : VType) (u1 u2 : Value) : TypBox (w.alloc (.cells #[.string (bytesT t.name), .int .i64 t.cap.1, .int .i64 t.cap.2, .int .i64 t.ovr.1, .int .i64 t.ovr.2, u1, u2] 57)) w.heap.size t u1 u2 :=
  ⟨by simp [go_sem], by simp [go_sem], by simp [go_sem], by simp [go_sem], by simp [go_sem], by simp [go_sem], by simp [go_sem]⟩
theorem nz {z : Int} (h : ¬ z = 0) : (z != 0) = true := by simp [h]

def amtR (t : VType) : Int := if ¬ chkAll t.cap = 0 then chkAll t.cap else if ¬ chkAll t.ovr = 0 then chkAll t.ovr else if fitsN t.ovr t.cap = false then 1 else 0
set_option maxHeartbeats 4000000 in
theorem pamounts_any (t : VType) (u1 u2 : Value) (w : World) : Calls Tryz.prog 67 #[typA t u1 u2] w fun e w' => e = .returned (.int .i64 (amtR t)) ∧ Below w.heap.size w w' := by
  obtain ⟨z1, hz1⟩ : ∃ z, z = chkAll t.cap := ⟨_, rfl⟩
  obtain ⟨z2, hz2⟩ : ∃ z, z = chkAll t.ovr := ⟨_, rfl⟩
  obtain ⟨q, hq⟩ : ∃ q, q = fitsN t.ovr t.cap := ⟨_, rfl⟩
  have c1 : Hid (∀ W, Calls Tryz.prog 92 #[.agg #[.int .i64 t.cap.1, .int .i64 t.cap.2]] W fun e w' => e = .returned (.int .i64 z1) ∧ Below W.heap.size W w') := by rw [hz1]; exact fun W => Am.checkAll_any _ _ W
  have c2 : Hid (∀ W, Calls Tryz.prog 92 #[.agg #[.int .i64 t.ovr.1, .int .i64 t.ovr.2]] W fun e w' => e = .returned (.int .i64 z2) ∧ Below W.heap.size W w') := by rw [hz2]; exact fun W => Am.checkAll_any _ _ W
  have c3 : Hid (∀ W, Calls Tryz.prog 76 #[.agg #[.int .i64 t.ovr.1, .int .i64 t.ovr.2], .agg #[.int .i64 t.cap.1, .int .i64 t.cap.2]] W fun e w' => e = .returned (.bool q) ∧ Below W.heap.size W w') := by rw [hq, ← fits_eq]; exact fun W => Am.fits_any _ _ _ _ W
  obtain ⟨R, hR⟩ : ∃ R, R = amtR t := ⟨_, rfl⟩
  rw [← hR]
  unfold amtR at hR
  rw [← hz1, ← hz2, ← hq] at hR
  have HR := hide hR
  clear hR hz1 hz2 hq
  unfold typA
  obtain ⟨W0, hW0⟩ : ∃ W, W = w.alloc (.cells #[.string (bytesT t.name), .int .i64 t.cap.1, .int .i64 t.cap.2, .int .i64 t.ovr.1, .int .i64 t.ovr.2, u1, u2] 57) := ⟨_, rfl⟩
  have B0 : Hid (Below w.heap.size w W0) := by rw [hW0]; exact boxb _
  have F0 : Hid (TypBox W0 w.heap.size t u1 u2) := by rw [hW0]; exact typ_box _ _ _ _
  have GW := hide hW0
  clear hW0
  go_enter Tryz.func67, Tryz.ntmps67
  go_wp2_with fail
  rw [← unhide GW]
  refine (unhide c1 _).mono ?_
  rintro e w1 ⟨rfl, hw1⟩
  have B1 := hide (chain (unhide B0) hw1)
  obtain ⟨_, f1, f2, f3, f4, _, _⟩ := (unhide F0).below hw1
  clear hw1 F0 GW B0
  by_cases h1 : z1 = 0
  case neg =>
    have hb := nz h1
    have hfin : Hid (R = z1) := by show _ = _; rw [unhide HR, if_pos h1]
    clear h1
    go_wp2_with fail
    go_ret
    exact ⟨ret_int (unhide hfin).symm, unhide B1⟩
  subst h1
  go_wp2_with fail
  refine (unhide c2 _).mono ?_
  rintro e w2 ⟨rfl, hw2⟩
  have B2 := hide (chain (unhide B1) hw2)
  have g1 := cell_kept hw2 f1
  have g2 := cell_kept hw2 f2
  have g3 := cell_kept hw2 f3
  have g4 := cell_kept hw2 f4
  clear hw2 f1 f2 f3 f4 B1
  by_cases h2 : z2 = 0
  case neg =>
    have hb := nz h2
    have hfin : Hid (R = z2) := by show _ = _; rw [unhide HR, if_neg (by simp), if_pos h2]
    clear h2
    go_wp2_with fail
    go_ret
    exact ⟨ret_int (unhide hfin).symm, unhide B2⟩
  subst h2
  go_wp2_with fail
  refine (unhide c3 _).mono ?_
  rintro e w3 ⟨rfl, hw3⟩
  have B3 := hide (chain (unhide B2) hw3)
  clear hw3 g1 g2 g3 g4 B2
  cases q
  · have hfin : Hid (R = 1) := by show _ = _; rw [unhide HR]; simp
    go_wp2_with fail
    go_ret
    exact ⟨ret_int (unhide hfin).symm, unhide B3⟩
  · have hfin : Hid (R = 0) := by show _ = _; rw [unhide HR]; simp
    go_wp2_with fail
    go_ret
    exact ⟨ret_int (unhide hfin).symm, unhide B3⟩

set_option maxRecDepth 100000 in
set_option maxHeartbeats 8000000 in
theorem plabels_any (v : Value) (l : List Lab) (w : World) (hL : Laid w) (hv : Lst labK w v l) :
    Calls Tryz.prog 68 #[v] w fun e w' => e = .returned (.int .i64 (tlabR l)) ∧ Below w.heap.size w w' := by
  have HL := hide hL
  have HV := hide hv
  have hlen := hv.len
  obtain ⟨a, c, rfl⟩ := hv.val
  have hcap := hv.cap.2
  clear hL hv
  obtain ⟨n, hn⟩ : ∃ n, n = l.length := ⟨_, rfl⟩
  obtain ⟨R, hR⟩ : ∃ R, R = tlabR l := ⟨_, rfl⟩
  rw [← hR]
  unfold tlabR at hR
  rw [← hn] at HV hlen hR hcap ⊢
  have HN := hide hn
  clear hn
  by_cases h4 : 4 < n
  · have hfin : Hid (R = 3) := by show _ = _; rw [hR, if_pos h4]
    have hb : decide ((4 : Int) < (n : Int)) = true := by simp; omega
    clear hR
    go_enter Tryz.func68, Tryz.ntmps68
    go_wp2_with fail
    go_ret
    exact ⟨ret_int (unhide hfin).symm, Below.refl _ _⟩
  rw [if_neg h4] at hR
  have HR := hide hR
  clear hR
  have hb4 : decide ((4 : Int) < (n : Int)) = false := by simp; omega
  go_enter Tryz.func68, Tryz.ntmps68
  go_wp2_with fail
  go_loopw [11] (fun i W => ∃ k : Nat, k ≤ n ∧ i = .int .i64 k ∧ Hid (R = tlabF (l.take k) (l.drop k)) ∧ Hid (Below w.heap.size w W)) (fun i _ => n - (intOf i).toNat)
  case atStart => exact ⟨0, Nat.zero_le _, rfl, unhide HR, Below.refl _ _⟩
  case round =>
    obtain ⟨k, hk, rfl, hlab, hbel⟩ := hrel
    by_cases hlt : k < n
    · have hlk : k < l.length := by rw [← unhide HN]; exact hlt
      obtain ⟨b, o, rfl, hat⟩ := ((unhide HV).below (unhide hbel)).at hlk
      have hst := hide (tlab_step hlk)
      have hlst := hide ((unhide HV).below (unhide hbel))
      have htk := hide ((unhide hlst).take (k := k) (Nat.le_of_lt hlk))
      obtain ⟨y, hy⟩ : ∃ y, y = l[k] := ⟨_, rfl⟩
      rw [← hy] at hat hst
      rw [← unhide hlab] at hst
      obtain ⟨⟨h0, hs0⟩, h1, hs1⟩ := lab_at.1 hat
      rw [show labK.size = 2 from rfl] at h0 h1
      have HS0 := hide hs0
      have HS1 := hide hs1
      clear hs0 hs1 hy hlk hat hlab
      obtain ⟨W0, hW0⟩ : ∃ W, W = wr.alloc (.cells #[.string (bytesT y.1), .string (bytesT y.2)] 38) := ⟨_, rfl⟩
      have B0 : Hid (Below wr.heap.size wr W0) := by rw [hW0]; exact boxb _
      have F0 : Hid (W0.cell? ⟨wr.heap.size, 0, none⟩ = some (.string (bytesT y.1)) ∧ W0.cell? ⟨wr.heap.size, 1, none⟩ = some (.string (bytesT y.2))) := by rw [hW0]; exact ⟨by simp [go_sem], by simp [go_sem]⟩
      have GW0 := hide hW0
      clear hW0
      obtain ⟨q0, hq0⟩ : ∃ q, q = nameB y.1 := ⟨_, rfl⟩
      obtain ⟨q1, hq1⟩ : ∃ q, q = own5 y.1 := ⟨_, rfl⟩
      obtain ⟨q2, hq2⟩ : ∃ q, q = valueB y.2 := ⟨_, rfl⟩
      obtain ⟨q3, hq3⟩ : ∃ q, q = (l.take k).any (fun x => x.1 == y.1) := ⟨_, rfl⟩
      rw [← hq0, ← hq1, ← hq2, ← hq3] at hst
      have c0 : Hid (∀ W, Calls Tryz.prog 39 #[.string (bytesT y.1)] W fun e w' => e = .returned (.bool q0) ∧ w' = W) := by rw [hq0]; exact fun W => nameT _ W (unhide HS0)
      have c1 : Hid (∀ W, Calls Tryz.prog 94 #[.string (bytesT y.1)] W fun e w' => e = .returned (.bool q1) ∧ w' = W) := by rw [hq1]; exact fun W => given_any _ W
      have c2 : Hid (∀ W, Below w.heap.size w W → Calls Tryz.prog 95 #[.string (bytesT y.2)] W fun e w' => e = .returned (.bool q2) ∧ Below W.heap.size W w') := by rw [hq2]; exact fun W hW => valueT _ W (unhide HS1) ((unhide HL).below hW)
      have c3 : Hid (∀ W, Below wr.heap.size wr W → W.cell? ⟨wr.heap.size, 0, none⟩ = some (.string (bytesT y.1)) → Calls Tryz.prog 96 #[.slice (some ⟨b, o, none⟩) k c, .func (.func 93) #[] #[.pointer (some ⟨wr.heap.size, 0, none⟩)]] W fun e w' => e = .returned (.bool q3) ∧ Below W.heap.size W w') := by
        rw [hq3]
        exact fun W hW hc => contains_lab _ _ _ _ _ W ((unhide htk).below hW) enters_skey fun W' x _ hW' => clos_skey x y.1 wr.heap.size W' (cell_kept hW' hc)
      clear hq0 hq1 hq2 hq3
      go_wp2_with fail
      rw [← unhide GW0]
      clear h0 h1
      obtain ⟨f0, f1⟩ := unhide F0
      refine (unhide c0 _).mono ?_
      rintro e w1 ⟨rfl, hw1⟩
      obtain rfl := hw1.symm
      clear hw1
      cases q0
      · have hfin : Hid (R = 7) := by show _ = _; rw [unhide hst]; simp
        go_wp2_with fail
        go_ret
        exact ⟨ret_int (unhide hfin).symm, chain (unhide hbel) (unhide B0)⟩
      go_wp2_with fail
      refine (unhide c1 _).mono ?_
      rintro e w1 ⟨rfl, hw1⟩
      obtain rfl := hw1.symm
      clear hw1
      cases q1
      rotate_left
      · have hfin : Hid (R = 1) := by show _ = _; rw [unhide hst]; simp
        go_wp2_with fail
        go_ret
        exact ⟨ret_int (unhide hfin).symm, chain (unhide hbel) (unhide B0)⟩
      go_wp2_with fail
      refine (unhide c2 _ (chain (unhide hbel) (unhide B0))).mono ?_
      rintro e w2 ⟨rfl, hw2⟩
      have B2 := hide (chain (unhide B0) hw2)
      have f0' := cell_kept hw2 f0
      clear hw2 f0 f1
      cases q2
      · have hfin : Hid (R = 20) := by show _ = _; rw [unhide hst]; simp
        go_wp2_with fail
        go_ret
        exact ⟨ret_int (unhide hfin).symm, chain (unhide hbel) (unhide B2)⟩
      go_wp2_with fail
      refine (unhide c3 _ (unhide B2) f0').mono ?_
      rintro e w3 ⟨rfl, hw3⟩
      have B3 := hide (chain (unhide hbel) (chain (unhide B2) hw3))
      clear hw3 f0'
      cases q3
      · have hnx : Hid (R = tlabF (l.take (k + 1)) (l.drop (k + 1))) := by show _ = _; rw [unhide hst]; simp
        go_wp2_with fail
        exact ⟨⟨k + 1, by omega, by go_num, hnx, B3⟩, by simp [intOf]; omega⟩
      · have hfin : Hid (R = 6) := by show _ = _; rw [unhide hst]; simp
        go_wp2_with fail
        go_ret
        exact ⟨ret_int (unhide hfin).symm, unhide B3⟩
    · obtain rfl : k = n := by omega
      have hfin : Hid (R = 0) := by
        show _ = _
        rw [unhide hlab, List.drop_eq_nil_of_le (by rw [← unhide HN]; exact Nat.le_refl _)]; rfl
      go_wp2_with fail
      go_ret
      exact ⟨ret_int (unhide hfin).symm, unhide hbel⟩
end Go.Proofs.YtepcnfnmphgccaaGreatDoor

/- Layer 6: contracts of checkOffers, CheckType, Check. -/
namespace Go.Proofs.YtepcnfnmphgccaaGreatDoor
open Go.RowKit Suf Val

set_option maxRecDepth 100000 in
set_option maxHeartbeats 8000000 in
theorem poffers_any (v : Value) (l : List VOfg) (w : World) (hv : Lst ofgK w v l) :
    Calls Tryz.prog 69 #[v] w fun e w' => e = .returned (.int .i64 (ofgR l)) ∧ Below w.heap.size w w' := by
  have HV := hide hv
  have hlen := hv.len
  obtain ⟨a, c, rfl⟩ := hv.val
  have hcap := hv.cap.2
  clear hv
  obtain ⟨n, hn⟩ : ∃ n, n = l.length := ⟨_, rfl⟩
  obtain ⟨R, hR⟩ : ∃ R, R = ofgR l := ⟨_, rfl⟩
  rw [← hR]
  unfold ofgR at hR
  rw [← hn] at HV hlen hR hcap ⊢
  have HN := hide hn
  clear hn
  by_cases h4 : 6 < n
  · have hfin : Hid (R = 3) := by show _ = _; rw [hR, if_pos h4]
    have hb : decide ((6 : Int) < (n : Int)) = true := by simp; omega
    clear hR
    go_enter Tryz.func69, Tryz.ntmps69
    go_wp2_with fail
    go_ret
    exact ⟨ret_int (unhide hfin).symm, Below.refl _ _⟩
  rw [if_neg h4] at hR
  have HR := hide hR
  clear hR
  have hb4 : decide ((6 : Int) < (n : Int)) = false := by simp; omega
  go_enter Tryz.func69, Tryz.ntmps69
  go_wp2_with fail
  go_loopw [12] (fun i W => ∃ k : Nat, k ≤ n ∧ i = .int .i64 k ∧ Hid (R = ofgF (l.take k) (l.drop k)) ∧ Hid (Below w.heap.size w W)) (fun i _ => n - (intOf i).toNat)
  case atStart => exact ⟨0, Nat.zero_le _, rfl, unhide HR, Below.refl _ _⟩
  case round =>
    obtain ⟨k, hk, rfl, hlab, hbel⟩ := hrel
    by_cases hlt : k < n
    · have hlk : k < l.length := by rw [← unhide HN]; exact hlt
      obtain ⟨b, o, rfl, hat⟩ := ((unhide HV).below (unhide hbel)).at hlk
      have hst := hide (ofg_step hlk)
      have hlst := hide ((unhide HV).below (unhide hbel))
      have htk := hide ((unhide hlst).take (k := k) (Nat.le_of_lt hlk))
      obtain ⟨y, hy⟩ : ∃ y, y = l[k] := ⟨_, rfl⟩
      rw [← hy] at hat hst
      rw [← unhide hlab] at hst
      obtain ⟨⟨h0, hs0⟩, ⟨h1, hs1⟩, h2, h3⟩ := ofg_at.1 hat
      rw [show ofgK.size = 4 from rfl] at h0 h1 h2 h3
      have HS0 := hide hs0
      have HS1 := hide hs1
      clear hs0 hs1 hy hlk hat hlab
      obtain ⟨W0, hW0⟩ : ∃ W, W = wr.alloc (.cells #[.string (bytesT y.zone), .string (bytesT y.kind), .int .i64 y.price, .bool y.opn] 65) := ⟨_, rfl⟩
      have B0 : Hid (Below wr.heap.size wr W0) := by rw [hW0]; exact boxb _
      have F0 : Hid (W0.cell? ⟨wr.heap.size, 0, none⟩ = some (.string (bytesT y.zone)) ∧ W0.cell? ⟨wr.heap.size, 1, none⟩ = some (.string (bytesT y.kind)) ∧ W0.cell? ⟨wr.heap.size, 2, none⟩ = some (.int .i64 y.price)) := by rw [hW0]; exact ⟨by simp [go_sem], by simp [go_sem], by simp [go_sem]⟩
      have GW0 := hide hW0
      clear hW0
      obtain ⟨q0, hq0⟩ : ∃ q, q = nameB y.zone := ⟨_, rfl⟩
      obtain ⟨q1, hq1⟩ : ∃ q, q = nameB y.kind := ⟨_, rfl⟩
      obtain ⟨z2, hz2⟩ : ∃ z, z = chkN y.price := ⟨_, rfl⟩
      obtain ⟨q3, hq3⟩ : ∃ q, q = (l.take k).any (fun x => sameZK x y) := ⟨_, rfl⟩
      rw [← hq0, ← hq1, ← hz2, ← hq3] at hst
      have c0 : Hid (∀ W, Calls Tryz.prog 39 #[.string (bytesT y.zone)] W fun e w' => e = .returned (.bool q0) ∧ w' = W) := by rw [hq0]; exact fun W => nameT _ W (unhide HS0)
      have c1 : Hid (∀ W, Calls Tryz.prog 39 #[.string (bytesT y.kind)] W fun e w' => e = .returned (.bool q1) ∧ w' = W) := by rw [hq1]; exact fun W => nameT _ W (unhide HS1)
      have c2 : Hid (∀ W, Calls Tryz.prog 97 #[.int .i64 y.price] W fun e w' => e = .returned (.int .i64 z2) ∧ w' = W) := by rw [hz2]; exact fun W => Am.check_any _ W
      have c3 : Hid (∀ W, Below wr.heap.size wr W → W.cell? ⟨wr.heap.size, 0, none⟩ = some (.string (bytesT y.zone)) → W.cell? ⟨wr.heap.size, 1, none⟩ = some (.string (bytesT y.kind)) → Calls Tryz.prog 99 #[.slice (some ⟨b, o, none⟩) k c, .func (.func 98) #[] #[.pointer (some ⟨wr.heap.size, 0, none⟩)]] W fun e w' => e = .returned (.bool q3) ∧ Below W.heap.size W w') := by
        rw [hq3]
        exact fun W hW hc hd => contains_ofg _ _ _ _ _ W ((unhide htk).below hW) enters_splace fun W' x _ hW' => clos_splace x y.zone y.kind wr.heap.size W' ⟨cell_kept hW' hc, cell_kept hW' hd⟩
      clear hq0 hq1 hz2 hq3
      go_wp2_with fail
      rw [← unhide GW0]
      clear h0 h1 h2 h3
      obtain ⟨f0, f1, f2⟩ := unhide F0
      refine (unhide c0 _).mono ?_
      rintro e w1 ⟨rfl, hw1⟩
      obtain rfl := hw1.symm
      clear hw1
      cases q0
      · have hfin : Hid (R = 7) := by show _ = _; rw [unhide hst]; simp
        go_wp2_with fail
        go_ret
        exact ⟨ret_int (unhide hfin).symm, chain (unhide hbel) (unhide B0)⟩
      go_wp2_with fail
      refine (unhide c1 _).mono ?_
      rintro e w1 ⟨rfl, hw1⟩
      obtain rfl := hw1.symm
      clear hw1
      cases q1
      · have hfin : Hid (R = 7) := by show _ = _; rw [unhide hst]; simp
        go_wp2_with fail
        go_ret
        exact ⟨ret_int (unhide hfin).symm, chain (unhide hbel) (unhide B0)⟩
      go_wp2_with fail
      refine (unhide c2 _).mono ?_
      rintro e w1 ⟨rfl, hw1⟩
      obtain rfl := hw1.symm
      clear hw1
      by_cases hz : z2 = 0
      case neg =>
        have hb := nz hz
        have hfin : Hid (R = z2) := by show _ = _; rw [unhide hst]; simp [hz]
        clear hz
        go_wp2_with fail
        go_ret
        exact ⟨ret_int (unhide hfin).symm, chain (unhide hbel) (unhide B0)⟩
      subst hz
      go_wp2_with fail
      refine (unhide c3 _ (unhide B0) f0 f1).mono ?_
      rintro e w3 ⟨rfl, hw3⟩
      have B3 := hide (chain (unhide hbel) (chain (unhide B0) hw3))
      clear hw3 f0 f1 f2
      cases q3
      · have hnx : Hid (R = ofgF (l.take (k + 1)) (l.drop (k + 1))) := by show _ = _; rw [unhide hst]; simp
        go_wp2_with fail
        exact ⟨⟨k + 1, by omega, by go_num, hnx, B3⟩, by simp [intOf]; omega⟩
      · have hfin : Hid (R = 6) := by show _ = _; rw [unhide hst]; simp
        go_wp2_with fail
        go_ret
        exact ⟨ret_int (unhide hfin).symm, unhide B3⟩
    · obtain rfl : k = n := by omega
      have hfin : Hid (R = 0) := by
        show _ = _
        rw [unhide hlab, List.drop_eq_nil_of_le (by rw [← unhide HN]; exact Nat.le_refl _)]; rfl
      go_wp2_with fail
      go_ret
      exact ⟨ret_int (unhide hfin).symm, unhide hbel⟩

theorem typeR_eq (t : VType) : typeR t = if nameB t.name = false then 7 else if ¬ amtR t = 0 then amtR t else if ¬ tlabR t.labs = 0 then tlabR t.labs else ofgR t.offs := by
  unfold typeR amtR
  by_cases h0 : nameB t.name = false
  · rw [if_pos h0, if_pos h0]
  rw [if_neg h0, if_neg h0]
  by_cases h1 : chkAll t.cap = 0
  case neg => simp [h1]
  by_cases h2 : chkAll t.ovr = 0
  case neg => simp [h1, h2]
  by_cases h3 : fitsN t.ovr t.cap = false
  · simp [h1, h2, h3]
  · simp [h1, h2, h3]
set_option maxHeartbeats 4000000 in
theorem ptype_any (t : VType) (u1 u2 : Value) (w : World) (hL : Laid w) (hs : short t.name) (h1 : Lst labK w u1 t.labs) (h2 : Lst ofgK w u2 t.offs) :
    Calls Tryz.prog 43 #[typA t u1 u2] w fun e w' => e = .returned (.int .i64 (typeR t)) ∧ Below w.heap.size w w' := by
  have hR0 := typeR_eq t
  obtain ⟨q, hq⟩ : ∃ q, q = nameB t.name := ⟨_, rfl⟩
  obtain ⟨z1, hz1⟩ : ∃ z, z = amtR t := ⟨_, rfl⟩
  obtain ⟨z2, hz2⟩ : ∃ z, z = tlabR t.labs := ⟨_, rfl⟩
  obtain ⟨z3, hz3⟩ : ∃ z, z = ofgR t.offs := ⟨_, rfl⟩
  have c0 : Hid (∀ W, Calls Tryz.prog 39 #[.string (bytesT t.name)] W fun e w' => e = .returned (.bool q) ∧ w' = W) := by rw [hq]; exact fun W => nameT _ W hs
  have c1 : Hid (∀ W, Calls Tryz.prog 67 #[.agg #[.string (bytesT t.name), .int .i64 t.cap.1, .int .i64 t.cap.2, .int .i64 t.ovr.1, .int .i64 t.ovr.2, u1, u2]] W fun e w' => e = .returned (.int .i64 z1) ∧ Below W.heap.size W w') := by rw [hz1]; exact fun W => pamounts_any t u1 u2 W
  have c2 : Hid (∀ W, Below w.heap.size w W → Calls Tryz.prog 68 #[u1] W fun e w' => e = .returned (.int .i64 z2) ∧ Below W.heap.size W w') := by rw [hz2]; exact fun W hW => plabels_any u1 t.labs W (hL.below hW) (h1.below hW)
  have c3 : Hid (∀ W, Below w.heap.size w W → Calls Tryz.prog 69 #[u2] W fun e w' => e = .returned (.int .i64 z3) ∧ Below W.heap.size W w') := by rw [hz3]; exact fun W hW => poffers_any u2 t.offs W (h2.below hW)
  obtain ⟨R, hR⟩ : ∃ R, R = typeR t := ⟨_, rfl⟩
  rw [← hR]
  rw [hR0, ← hz1, ← hz2, ← hz3, ← hq] at hR
  have HR := hide hR
  have v1 := hide h1.val
  have v2 := hide h2.val
  clear hR hz1 hz2 hz3 hq hL hs h1 h2 hR0
  obtain ⟨a1, d1, e1⟩ := unhide v1
  obtain ⟨a2, d2, e2⟩ := unhide v2
  clear v1 v2
  obtain ⟨n1, hn1⟩ : ∃ n, n = t.labs.length := ⟨_, rfl⟩
  obtain ⟨n2, hn2⟩ : ∃ n, n = t.offs.length := ⟨_, rfl⟩
  rw [← hn1] at e1
  rw [← hn2] at e2
  clear hn1 hn2
  subst e1
  subst e2
  unfold typA
  obtain ⟨W0, hW0⟩ : ∃ W, W = w.alloc (.cells #[.string (bytesT t.name), .int .i64 t.cap.1, .int .i64 t.cap.2, .int .i64 t.ovr.1, .int .i64 t.ovr.2, .slice a1 n1 d1, .slice a2 n2 d2] 57) := ⟨_, rfl⟩
  have B0 : Hid (Below w.heap.size w W0) := by rw [hW0]; exact boxb _
  have F0 : Hid (TypBox W0 w.heap.size t (.slice a1 n1 d1) (.slice a2 n2 d2)) := by rw [hW0]; exact typ_box _ _ _ _
  have GW := hide hW0
  clear hW0
  go_enter Tryz.func43, Tryz.ntmps43
  go_wp2_with fail
  rw [← unhide GW]
  refine (unhide c0 _).mono ?_
  rintro e w1 ⟨rfl, hw1⟩
  obtain rfl := hw1.symm
  clear hw1
  cases q
  · have hfin : Hid (R = 7) := by show _ = _; rw [unhide HR]; rfl
    go_wp2_with fail
    go_ret
    exact ⟨ret_int (unhide hfin).symm, unhide B0⟩
  obtain ⟨f0, f1, f2, f3, f4, f5, f6⟩ := unhide F0
  go_wp2_with fail
  refine (unhide c1 _).mono ?_
  rintro e w1 ⟨rfl, hw1⟩
  have B1 := hide (chain (unhide B0) hw1)
  have F1 := hide ((unhide F0).below hw1)
  clear hw1 f0 f1 f2 f3 f4 f5 f6 F0 GW B0
  by_cases h1 : z1 = 0
  case neg =>
    have hb := nz h1
    have hfin : Hid (R = z1) := by show _ = _; rw [unhide HR]; simp [h1]
    clear h1
    go_wp2_with fail
    go_ret
    exact ⟨ret_int (unhide hfin).symm, unhide B1⟩
  subst h1
  obtain ⟨_, _, _, _, _, f5, f6⟩ := unhide F1
  go_wp2_with fail
  refine (unhide c2 _ (unhide B1)).mono ?_
  rintro e w2 ⟨rfl, hw2⟩
  have B2 := hide (chain (unhide B1) hw2)
  have g6 := cell_kept hw2 f6
  clear hw2 f5 f6 B1 F1
  by_cases h2 : z2 = 0
  case neg =>
    have hb := nz h2
    have hfin : Hid (R = z2) := by show _ = _; rw [unhide HR]; simp [h2]
    clear h2
    go_wp2_with fail
    go_ret
    exact ⟨ret_int (unhide hfin).symm, unhide B2⟩
  subst h2
  go_wp2_with fail
  refine (unhide c3 _ (unhide B2)).mono ?_
  rintro e w3 ⟨rfl, hw3⟩
  have B3 := hide (chain (unhide B2) hw3)
  clear hw3 g6 B2
  have hfin : Hid (R = z3) := by show _ = _; rw [unhide HR]; simp
  go_wp2_with fail
  go_ret
  exact ⟨ret_int (unhide hfin).symm, unhide B3⟩

set_option maxRecDepth 100000 in
set_option maxHeartbeats 8000000 in
theorem pcheck6_any (v : Value) (l : List VType) (w : World) (hL : Laid w) (hv : Lst typK w v l) :
    Calls Tryz.prog 26 #[v] w fun e w' => e = .returned (.int .i64 (catR l)) ∧ Below w.heap.size w w' := by
  have HL := hide hL
  have HV := hide hv
  have hlen := hv.len
  obtain ⟨a, c, rfl⟩ := hv.val
  have hcap := hv.cap.2
  clear hL hv
  obtain ⟨n, hn⟩ : ∃ n, n = l.length := ⟨_, rfl⟩
  obtain ⟨R, hR⟩ : ∃ R, R = catR l := ⟨_, rfl⟩
  rw [← hR]
  unfold catR at hR
  rw [← hn] at HV hlen hR hcap ⊢
  have HN := hide hn
  clear hn
  by_cases h4 : 12 < n
  · have hfin : Hid (R = 3) := by show _ = _; rw [hR, if_pos h4]
    have hb : decide ((12 : Int) < (n : Int)) = true := by simp; omega
    clear hR
    go_enter Tryz.func26, Tryz.ntmps26
    go_wp2_with fail
    go_ret
    exact ⟨ret_int (unhide hfin).symm, Below.refl _ _⟩
  rw [if_neg h4] at hR
  have HR := hide hR
  clear hR
  have hb4 : decide ((12 : Int) < (n : Int)) = false := by simp; omega
  go_enter Tryz.func26, Tryz.ntmps26
  go_wp2_with fail
  go_loopw [12] (fun i W => ∃ k : Nat, k ≤ n ∧ i = .int .i64 k ∧ Hid (R = typesF (l.take k) (l.drop k)) ∧ Hid (Below w.heap.size w W)) (fun i _ => n - (intOf i).toNat)
  case atStart => exact ⟨0, Nat.zero_le _, rfl, unhide HR, Below.refl _ _⟩
  case round =>
    obtain ⟨k, hk, rfl, hlab, hbel⟩ := hrel
    by_cases hlt : k < n
    · have hlk : k < l.length := by rw [← unhide HN]; exact hlt
      obtain ⟨b, o, rfl, hat⟩ := ((unhide HV).below (unhide hbel)).at hlk
      have hst := hide (types_step hlk)
      have hlst := hide ((unhide HV).below (unhide hbel))
      have htk := hide ((unhide hlst).take (k := k) (Nat.le_of_lt hlk))
      obtain ⟨y, hy⟩ : ∃ y, y = l[k] := ⟨_, rfl⟩
      rw [← hy] at hat hst
      rw [← unhide hlab] at hst
      obtain ⟨⟨h0, hs0⟩, ⟨h1, h2⟩, ⟨h3, h4'⟩, ⟨u1, h5, hu1⟩, u2, h6, hu2⟩ := typ_at.1 hat
      rw [show typK.size = 7 from rfl] at h0 h1 h2 h3 h4' h5 h6
      have HS0 := hide hs0
      have HU1 := hide hu1
      have HU2 := hide hu2
      clear hs0 hy hlk hat hlab hu1 hu2
      obtain ⟨W0, hW0⟩ : ∃ W, W = wr.alloc (.cells #[.string (bytesT y.name), .int .i64 y.cap.1, .int .i64 y.cap.2, .int .i64 y.ovr.1, .int .i64 y.ovr.2, u1, u2] 57) := ⟨_, rfl⟩
      have B0 : Hid (Below wr.heap.size wr W0) := by rw [hW0]; exact boxb _
      have F0 : Hid (TypBox W0 wr.heap.size y u1 u2) := by rw [hW0]; exact typ_box _ _ _ _
      have GW0 := hide hW0
      clear hW0
      obtain ⟨z2, hz2⟩ : ∃ z, z = typeR y := ⟨_, rfl⟩
      obtain ⟨q3, hq3⟩ : ∃ q, q = (l.take k).any (fun x => x.name == y.name) := ⟨_, rfl⟩
      rw [← hz2, ← hq3] at hst
      have c2 : Hid (∀ W, Below wr.heap.size wr W → Calls Tryz.prog 43 #[.agg #[.string (bytesT y.name), .int .i64 y.cap.1, .int .i64 y.cap.2, .int .i64 y.ovr.1, .int .i64 y.ovr.2, u1, u2]] W fun e w' => e = .returned (.int .i64 z2) ∧ Below W.heap.size W w') := by
        rw [hz2]
        exact fun W hW => ptype_any y u1 u2 W ((unhide HL).below (chain (unhide hbel) hW)) (unhide HS0) ((unhide HU1).below hW) ((unhide HU2).below hW)
      have c3 : Hid (∀ W, Below wr.heap.size wr W → W.cell? ⟨wr.heap.size, 0, none⟩ = some (.string (bytesT y.name)) → Calls Tryz.prog 45 #[.slice (some ⟨b, o, none⟩) k c, .func (.func 44) #[] #[.pointer (some ⟨wr.heap.size, 0, none⟩)]] W fun e w' => e = .returned (.bool q3) ∧ Below W.heap.size W w') := by
        rw [hq3]
        exact fun W hW hc => contains_typ _ _ _ _ _ W ((unhide htk).below hW) enters_sname fun W' x v1 v2 _ hW' => clos_sname x v1 v2 y.name wr.heap.size W' (cell_kept hW' hc)
      clear hz2 hq3
      obtain ⟨a1, d1, e1⟩ := (unhide HU1).val
      obtain ⟨a2, d2, e2⟩ := (unhide HU2).val
      clear HU1 HU2
      obtain ⟨n1, hn1⟩ : ∃ n, n = y.labs.length := ⟨_, rfl⟩
      obtain ⟨n2, hn2⟩ : ∃ n, n = y.offs.length := ⟨_, rfl⟩
      rw [← hn1] at e1
      rw [← hn2] at e2
      clear hn1 hn2
      subst e1
      subst e2
      go_wp2_with fail
      rw [← unhide GW0]
      clear h0 h1 h2 h3 h4' h5 h6
      refine (unhide c2 _ (unhide B0)).mono ?_
      rintro e w1 ⟨rfl, hw1⟩
      have B1 := hide (chain (unhide B0) hw1)
      obtain ⟨f0, _, _, _, _, _, _⟩ := (unhide F0).below hw1
      clear hw1 F0
      by_cases hz : z2 = 0
      case neg =>
        have hb := nz hz
        have hfin : Hid (R = z2) := by show _ = _; rw [unhide hst]; simp [hz]
        clear hz
        go_wp2_with fail
        go_ret
        exact ⟨ret_int (unhide hfin).symm, chain (unhide hbel) (unhide B1)⟩
      subst hz
      go_wp2_with fail
      refine (unhide c3 _ (unhide B1) f0).mono ?_
      rintro e w3 ⟨rfl, hw3⟩
      have B3 := hide (chain (unhide hbel) (chain (unhide B1) hw3))
      clear hw3 f0
      cases q3
      · have hnx : Hid (R = typesF (l.take (k + 1)) (l.drop (k + 1))) := by show _ = _; rw [unhide hst]; simp
        go_wp2_with fail
        exact ⟨⟨k + 1, by omega, by go_num, hnx, B3⟩, by simp [intOf]; omega⟩
      · have hfin : Hid (R = 6) := by show _ = _; rw [unhide hst]; simp
        go_wp2_with fail
        go_ret
        exact ⟨ret_int (unhide hfin).symm, unhide B3⟩
    · obtain rfl : k = n := by omega
      have hfin : Hid (R = 0) := by
        show _ = _
        rw [unhide hlab, List.drop_eq_nil_of_le (by rw [← unhide HN]; exact Nat.le_refl _)]; rfl
      go_wp2_with fail
      go_ret
      exact ⟨ret_int (unhide hfin).symm, unhide hbel⟩
end Go.Proofs.YtepcnfnmphgccaaGreatDoor
