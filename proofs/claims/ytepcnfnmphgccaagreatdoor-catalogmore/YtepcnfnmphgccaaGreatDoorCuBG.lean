/- Layer 6: cmp.Compare of whole numbers, cmp.Or; the comparison of offers by price, type, zone, kind. -/
import Derived.Test.YtepcnfnmphgccaaGreatDoorCuAG
import Derived.Test.YtepcnfnmphgccaaGreatDoorItOG
import Derived.Test.YtepcnfnmphgccaaGreatDoorSortG
import Derived.Test.YtepcnfnmphgccaaGreatDoorSortL
import Derived.Test.YtepcnfnmphgccaaGreatDoorShelf
import Derived.Deep.RegionHeld3
import Derived.Test.YtepcnfnmphgccaaGreatDoorValAG
namespace Go.Proofs.YtepcnfnmphgccaaGreatDoor
open Go.RowKit Suf Val Go.Maps

def cmpI (x y : Int) : Int := if x < y then -1 else if y < x then 1 else 0
def orI : List Int → Int
  | [] => 0
  | z :: l => if z = 0 then orI l else z
set_option maxHeartbeats 2000000 in
theorem cmpI_any (x y : Int) (w : World) : Calls Tryz.prog 59 #[.int .i64 x, .int .i64 y] w fun e w' => e = .returned (.int .i64 (cmpI x y)) ∧ w' = w := by
  have hx : (x != x) = false := by simp
  have hy : (y != y) = false := by simp
  unfold cmpI
  by_cases h1 : x < y
  · have hb : decide (x < y) = true := by simp [h1]
    rw [if_pos h1]
    clear h1
    go_enter Tryz.func59, Tryz.ntmps59
    go_wp2
    all_goals (go_ret; exact ⟨rfl, rfl⟩)
  · rw [if_neg h1]
    have hb : decide (x < y) = false := by simp; omega
    by_cases h2 : y < x
    · have hb2 : decide (y < x) = true := by simp [h2]
      rw [if_pos h2]
      clear h1 h2
      go_enter Tryz.func59, Tryz.ntmps59
      go_wp2
      all_goals (go_ret; exact ⟨rfl, rfl⟩)
    · have hb2 : decide (y < x) = false := by simp; omega
      rw [if_neg h2]
      clear h1 h2
      go_enter Tryz.func59, Tryz.ntmps59
      go_wp2
      all_goals (go_ret; exact ⟨rfl, rfl⟩)
theorem or_step {l : List Int} {k : Nat} (h : k < l.length) : orI (l.drop k) = if l[k] = 0 then orI (l.drop (k + 1)) else l[k] := by rw [List.drop_eq_getElem_cons h]; rfl
set_option maxHeartbeats 4000000 in
theorem or_any (v : Value) (l : List Int) (w : World) (hv : Lst intK w v l) : Calls Tryz.prog 58 #[v] w fun e w' => e = .returned (.int .i64 (orI l)) ∧ w' = w := by
  have HV := hide hv
  have hlen := hv.len
  obtain ⟨a, c, rfl⟩ := hv.val
  clear hv
  obtain ⟨n, hn⟩ : ∃ n, n = l.length := ⟨_, rfl⟩
  rw [← hn] at HV hlen ⊢
  have HN := hide hn
  clear hn
  obtain ⟨R, hR⟩ : ∃ R, R = orI l := ⟨_, rfl⟩
  rw [← hR]
  have HR := hide hR
  clear hR
  go_enter Tryz.func58, Tryz.ntmps58
  go_wp2_with fail
  go_loopw [8] (fun i W => ∃ k : Nat, k ≤ n ∧ i = .int .i64 k ∧ Hid (R = orI (l.drop k)) ∧ W = w) (fun i _ => n - (intOf i).toNat)
  case atStart => exact ⟨0, Nat.zero_le _, rfl, unhide HR, rfl⟩
  case round =>
    obtain ⟨k, hk, rfl, hor, rfl⟩ := hrel
    by_cases hlt : k < n
    · have hlk : k < l.length := by rw [← unhide HN]; exact hlt
      obtain ⟨b, o, rfl, hat⟩ := (unhide HV).at hlk
      have hst := hide (or_step hlk)
      rw [← unhide hor] at hst
      obtain ⟨z, hz⟩ : ∃ z, z = l[k] := ⟨_, rfl⟩
      rw [← hz] at hat hst
      have h0 := at_int.1 hat
      rw [show intK.size = 1 from rfl, Nat.mul_one] at h0
      clear hat hz hlk
      by_cases hz0 : z = 0
      · subst hz0
        have hnx : Hid (R = orI (l.drop (k + 1))) := by show _ = _; rw [unhide hst]; simp
        go_wp2_with fail
        exact ⟨⟨k + 1, by omega, by go_num, hnx, trivial⟩, by simp [intOf]; omega⟩
      · have hb := nz hz0
        have hfin : Hid (R = z) := by show _ = _; rw [unhide hst]; simp [hz0]
        clear hz0
        go_wp2_with fail
        go_ret
        exact ⟨ret_int (unhide hfin).symm, rfl⟩
    · obtain rfl : k = n := by omega
      have hfin : Hid (R = 0) := by
        show _ = _
        rw [unhide hor, List.drop_eq_nil_of_le (by rw [← unhide HN]; exact Nat.le_refl _)]; rfl
      go_wp2_with fail
      go_ret
      exact ⟨ret_int (unhide hfin).symm, rfl⟩

/-- Draws and blocks behind a world. -/
def Gr (W V : World) : Prop := ∃ q os, V = Go.Sort.grow (W.drewN q) os
theorem Gr.refl (W : World) : Gr W W := ⟨0, #[], by simp [Go.Sort.grow, World.drewN]⟩
theorem Gr.drew {W V : World} (h : Gr W V) : Gr W V.drew := by
  obtain ⟨q, os, rfl⟩ := h
  exact ⟨q + 1, os, rfl⟩
theorem Gr.alloc {W V : World} (h : Gr W V) (o : Obj) : Gr W (V.alloc o) := by
  obtain ⟨q, os, rfl⟩ := h
  exact ⟨q, os ++ #[o], by rw [Go.Sort.alloc_eq_grow, Go.Sort.grow_grow]⟩
theorem Gr.below {W V : World} (h : Gr W V) : Below W.heap.size W V := by
  obtain ⟨q, os, rfl⟩ := h
  exact ⟨rfl, rfl, rfl, by simp [Go.Sort.grow], fun i hi => Go.Sort.heap_grow_old _ _ hi⟩
theorem cmp_lt6 : ∀ a b : Txt, decide (Lib.compareBytes a b < 0) = lt a b
  | [], [] => rfl
  | [], _ :: _ => rfl
  | _ :: _, [] => rfl
  | x :: a, y :: b => by
    rw [lt_cons, ← cmp_lt6 a b]
    show decide ((if x < y then (-1 : Int) else if y < x then 1 else Lib.compareBytes a b) < 0) = _
    by_cases h1 : x < y
    · rw [if_pos h1]; simp [h1]
    · rw [if_neg h1]
      by_cases h2 : y < x
      · rw [if_pos h2]
        have h3 : ¬ x = y := fun e => by rw [e] at h2; exact absurd h2 (UInt8.lt_irrefl y)
        simp [h1, h3]
      · rw [if_neg h2]
        have h3 : x = y := UInt8.le_antisymm (UInt8.not_lt.1 h2) (UInt8.not_lt.1 h1)
        simp [h3]
theorem cmp_zero : ∀ a b : Txt, Lib.compareBytes a b = 0 ↔ a = b
  | [], [] => by simp [Lib.compareBytes]
  | [], _ :: _ => by simp [Lib.compareBytes]
  | _ :: _, [] => by simp [Lib.compareBytes]
  | x :: a, y :: b => by
    show (if x < y then (-1 : Int) else if y < x then 1 else Lib.compareBytes a b) = 0 ↔ _
    by_cases h1 : x < y
    · rw [if_pos h1]
      constructor
      · intro h; cases h
      · intro h; rw [(List.cons.inj h).1] at h1; exact absurd h1 (UInt8.lt_irrefl y)
    · rw [if_neg h1]
      by_cases h2 : y < x
      · rw [if_pos h2]
        constructor
        · intro h; cases h
        · intro h; rw [(List.cons.inj h).1] at h2; exact absurd h2 (UInt8.lt_irrefl y)
      · rw [if_neg h2, cmp_zero a b]
        have h3 : x = y := UInt8.le_antisymm (UInt8.not_lt.1 h2) (UInt8.not_lt.1 h1)
        rw [h3]
        simp
def cfO (pr : VOff → Int) (x y : VOff) : Int := orI [cmpI (pr x) (pr y), Lib.compareBytes x.1 y.1, Lib.compareBytes x.2.1 y.2.1, Lib.compareBytes x.2.2 y.2.2]
theorem or_cons (z : Int) (l : List Int) : orI (z :: l) = if z = 0 then orI l else z := rfl
theorem lt_cfO (pr : VOff → Int) (x y : VOff) : decide (cfO pr x y < 0) = aheadO pr x y := by
  unfold cfO aheadO lessO
  rw [or_cons]
  unfold cmpI
  by_cases h1 : pr x < pr y
  · rw [if_pos h1, if_neg (by decide), if_neg (by omega)]; simp [h1]
  · rw [if_neg h1]
    by_cases h2 : pr y < pr x
    · rw [if_pos h2, if_neg (by decide), if_neg (by omega)]; simp [h1]
    · rw [if_neg h2, if_pos rfl, if_pos (by omega), or_cons]
      by_cases h3 : x.1 = y.1
      · rw [if_pos ((cmp_zero _ _).2 h3), if_pos h3, or_cons]
        by_cases h4 : x.2.1 = y.2.1
        · rw [if_pos ((cmp_zero _ _).2 h4), if_pos h4, or_cons]
          by_cases h5 : x.2.2 = y.2.2
          · rw [if_pos ((cmp_zero _ _).2 h5), h5, lt_irrefl]; rfl
          · rw [if_neg (fun h => h5 ((cmp_zero _ _).1 h)), cmp_lt6]
        · rw [if_neg (fun h => h4 ((cmp_zero _ _).1 h)), if_neg h4, cmp_lt6]
      · rw [if_neg (fun h => h3 ((cmp_zero _ _).1 h)), if_neg h3, cmp_lt6]

def zeroRow : Value := .agg #[.int .i64 0, .int .i64 0, .int .i64 0, .bool false, .slice none 0 0]
theorem zeroR (w : World) : (zeroValue 61).run Tryz.prog w = .ok zeroRow w := by kernel_rfl
theorem fieldR (a1 a2 p : Int) (q : Bool) (ua : Option Addr) (un uc : Nat) (V : World) : (Instr.field 61 (.agg #[.int .i64 a1, .int .i64 a2, .int .i64 p, .bool q, .slice ua un uc]) 1).run Tryz.prog V = .ok (.int .i64 p) V := by
  simp [Instr.field, asAgg, go_sem]
/-- What the comparison reads. -/
structure CmpS (W0 : World) (b n B X Y : Nat) (f : VOff → Option Value) (s0 s1 s2 t0 t1 t2 : ByteArray) (W : World) : Prop where
  gr : Gr W0 W
  map : MapK offT W b f n
  cb : W.cell? ⟨B, 0, none⟩ = some (.map (some b))
  x0 : W.cell? ⟨X, 0, none⟩ = some (.string s0)
  x1 : W.cell? ⟨X, 1, none⟩ = some (.string s1)
  x2 : W.cell? ⟨X, 2, none⟩ = some (.string s2)
  y0 : W.cell? ⟨Y, 0, none⟩ = some (.string t0)
  y1 : W.cell? ⟨Y, 1, none⟩ = some (.string t1)
  y2 : W.cell? ⟨Y, 2, none⟩ = some (.string t2)
theorem CmpS.below {W0 W W' : World} {b n B X Y : Nat} {f : VOff → Option Value} {s0 s1 s2 t0 t1 t2 : ByteArray} (h : CmpS W0 b n B X Y f s0 s1 s2 t0 t1 t2 W) (hg : Gr W0 W') (hb : Below W.heap.size W W') : CmpS W0 b n B X Y f s0 s1 s2 t0 t1 t2 W' :=
  ⟨hg, h.map.below hb, cell_kept hb h.cb, cell_kept hb h.x0, cell_kept hb h.x1, cell_kept hb h.x2, cell_kept hb h.y0, cell_kept hb h.y1, cell_kept hb h.y2⟩
theorem below_drew6 (W : World) : Below W.heap.size W W.drew := (Below.refl _ _).drew
set_option maxRecDepth 100000 in
set_option maxHeartbeats 32000000 in
theorem cmpO_closure (pr : VOff → Int) (f : VOff → Option Value) (b n B : Nat) (x y : VOff) (hx : okO x) (hy : okO y) (W : World) (hm : MapK offT W b f n) (hB : W.cell? ⟨B, 0, none⟩ = some (.map (some b)))
    (hf : ∀ o, okO o → ∃ a1 a2 q ua un uc, (f o).getD zeroRow = .agg #[.int .i64 a1, .int .i64 a2, .int .i64 (pr o), .bool q, .slice ua un uc]) :
    Calls Tryz.prog 57 #[offA x, offA y, .pointer (some ⟨B, 0, none⟩)] W fun e w' => e = .returned (.int .i64 (cfO pr x y)) ∧ Gr W w' := by
  obtain ⟨s0, hs0⟩ : ∃ X, X = bytesT x.1 := ⟨_, rfl⟩
  obtain ⟨s1, hs1⟩ : ∃ X, X = bytesT x.2.1 := ⟨_, rfl⟩
  obtain ⟨s2, hs2⟩ : ∃ X, X = bytesT x.2.2 := ⟨_, rfl⟩
  obtain ⟨t0, ht0⟩ : ∃ X, X = bytesT y.1 := ⟨_, rfl⟩
  obtain ⟨t1, ht1⟩ : ∃ X, X = bytesT y.2.1 := ⟨_, rfl⟩
  obtain ⟨t2, ht2⟩ : ∃ X, X = bytesT y.2.2 := ⟨_, rfl⟩
  have hxa : offA x = .agg #[.string s0, .string s1, .string s2] := by rw [hs0, hs1, hs2]; rfl
  have hya : offA y = .agg #[.string t0, .string t1, .string t2] := by rw [ht0, ht1, ht2]; rfl
  obtain ⟨z1, hz1⟩ : ∃ z, z = cmpI (pr x) (pr y) := ⟨_, rfl⟩
  obtain ⟨z2, hz2⟩ : ∃ z, z = Lib.compareBytes x.1 y.1 := ⟨_, rfl⟩
  obtain ⟨z3, hz3⟩ : ∃ z, z = Lib.compareBytes x.2.1 y.2.1 := ⟨_, rfl⟩
  obtain ⟨z4, hz4⟩ : ∃ z, z = Lib.compareBytes x.2.2 y.2.2 := ⟨_, rfl⟩
  obtain ⟨px, hpx⟩ : ∃ p, p = pr x := ⟨_, rfl⟩
  obtain ⟨py, hpy⟩ : ∃ p, p = pr y := ⟨_, rfl⟩
  have c1 : Hid (∀ V, Calls Tryz.prog 59 #[.int .i64 px, .int .i64 py] V fun e w' => e = .returned (.int .i64 z1) ∧ w' = V) := by rw [hz1, hpx, hpy]; exact fun V => cmpI_any _ _ V
  have c2 : Hid (∀ V, Calls Tryz.prog 52 #[.string s0, .string t0] V fun e w' => e = .returned (.int .i64 z2) ∧ w' = V) := by rw [hz2, hs0, ht0]; exact fun V => Tryz.strings_Compare (bytesT x.1) (bytesT y.1) V
  have c3 : Hid (∀ V, Calls Tryz.prog 52 #[.string s1, .string t1] V fun e w' => e = .returned (.int .i64 z3) ∧ w' = V) := by rw [hz3, hs1, ht1]; exact fun V => Tryz.strings_Compare (bytesT x.2.1) (bytesT y.2.1) V
  have c4 : Hid (∀ V, Calls Tryz.prog 52 #[.string s2, .string t2] V fun e w' => e = .returned (.int .i64 z4) ∧ w' = V) := by rw [hz4, hs2, ht2]; exact fun V => Tryz.strings_Compare (bytesT x.2.2) (bytesT y.2.2) V
  have hcf : Hid (cfO pr x y = orI [z1, z2, z3, z4]) := by show _ = _; rw [hz1, hz2, hz3, hz4]; rfl
  obtain ⟨a1, a2, q1, ua1, un1, uc1, e1⟩ := hf x hx
  obtain ⟨d1, d2, q2, ua2, un2, uc2, e2⟩ := hf y hy
  rw [← hpx] at e1
  rw [← hpy] at e2
  have l1 : Hid (∀ V, MapK offT V b f n → (Instr.lookup 76 (.map (some b)) (.agg #[.string s0, .string s1, .string s2]) false).run Tryz.prog V = .ok (.agg #[.int .i64 a1, .int .i64 a2, .int .i64 px, .bool q1, .slice ua1 un1 uc1]) V) := fun V hV => by
    have h := hV.run_at (T := offT) Tryz.underlying76 (zeroR V) x hx
    rw [e1, show offT.enc x = _ from hxa] at h; exact h
  have l2 : Hid (∀ V, MapK offT V b f n → (Instr.lookup 76 (.map (some b)) (.agg #[.string t0, .string t1, .string t2]) false).run Tryz.prog V = .ok (.agg #[.int .i64 d1, .int .i64 d2, .int .i64 py, .bool q2, .slice ua2 un2 uc2]) V) := fun V hV => by
    have h := hV.run_at (T := offT) Tryz.underlying76 (zeroR V) y hy
    rw [e2, show offT.enc y = _ from hya] at h; exact h
  have cor : Hid (∀ V B', V.cell? ⟨B', 0, none⟩ = some (.int .i64 z1) → V.cell? ⟨B', 1, none⟩ = some (.int .i64 z2) → V.cell? ⟨B', 2, none⟩ = some (.int .i64 z3) → V.cell? ⟨B', 3, none⟩ = some (.int .i64 z4) → Calls Tryz.prog 58 #[.slice (some ⟨B', 0, none⟩) 4 4] V fun e w' => e = .returned (.int .i64 (orI [z1, z2, z3, z4])) ∧ w' = V) := fun V B' g1 g2 g3 g4 =>
    or_any _ [z1, z2, z3, z4] V ⟨_, _, rfl, fun j hj => ⟨B', 0, rfl, by
      match j, hj with
      | 0, _ => exact at_int.2 (by simpa using g1)
      | 1, _ => exact at_int.2 (by simpa [intK] using g2)
      | 2, _ => exact at_int.2 (by simpa [intK] using g3)
      | 3, _ => exact at_int.2 (by simpa [intK] using g4)⟩, by simp, by simp⟩
  clear hz1 hz2 hz3 hz4 hpx hpy e1 e2 hf hx hy
  have S0 : CmpS W b n B W.heap.size (W.heap.size + 1) f s0 s1 s2 t0 t1 t2 ((W.alloc (.cells #[.string s0, .string s1, .string s2] 24)).alloc (.cells #[.string t0, .string t1, .string t2] 24)) := by
    refine ⟨((Gr.refl W).alloc _).alloc _, (hm.below (boxb _)).below (boxb _), cell_box6 _ (cell_box6 _ hB), cell_box6 _ (by simp [go_sem]), cell_box6 _ (by simp [go_sem]), cell_box6 _ (by simp [go_sem]), by simp [go_sem], by simp [go_sem], by simp [go_sem]⟩
  have sall : ∀ V, CmpS W b n B W.heap.size (W.heap.size + 1) f s0 s1 s2 t0 t1 t2 V → Hid (CmpS W b n B W.heap.size (W.heap.size + 1) f s0 s1 s2 t0 t1 t2 V) ∧ V.cell? ⟨B, 0, none⟩ = some (.map (some b)) ∧ V.cell? ⟨W.heap.size, 0, none⟩ = some (.string s0) ∧ V.cell? ⟨W.heap.size, 1, none⟩ = some (.string s1) ∧ V.cell? ⟨W.heap.size, 2, none⟩ = some (.string s2) ∧ V.cell? ⟨W.heap.size + 1, 0, none⟩ = some (.string t0) ∧ V.cell? ⟨W.heap.size + 1, 1, none⟩ = some (.string t1) ∧ V.cell? ⟨W.heap.size + 1, 2, none⟩ = some (.string t2) ∧ (Instr.lookup 76 (.map (some b)) (.agg #[.string s0, .string s1, .string s2]) false).run Tryz.prog V = .ok (.agg #[.int .i64 a1, .int .i64 a2, .int .i64 px, .bool q1, .slice ua1 un1 uc1]) V ∧ (Instr.lookup 76 (.map (some b)) (.agg #[.string t0, .string t1, .string t2]) false).run Tryz.prog V = .ok (.agg #[.int .i64 d1, .int .i64 d2, .int .i64 py, .bool q2, .slice ua2 un2 uc2]) V := fun V h => ⟨h, h.cb, h.x0, h.x1, h.x2, h.y0, h.y1, h.y2, unhide l1 V h.map, unhide l2 V h.map⟩
  have kdrew : Hid (∀ V, (Hid (CmpS W b n B W.heap.size (W.heap.size + 1) f s0 s1 s2 t0 t1 t2 V) ∧ V.cell? ⟨B, 0, none⟩ = some (.map (some b)) ∧ V.cell? ⟨W.heap.size, 0, none⟩ = some (.string s0) ∧ V.cell? ⟨W.heap.size, 1, none⟩ = some (.string s1) ∧ V.cell? ⟨W.heap.size, 2, none⟩ = some (.string s2) ∧ V.cell? ⟨W.heap.size + 1, 0, none⟩ = some (.string t0) ∧ V.cell? ⟨W.heap.size + 1, 1, none⟩ = some (.string t1) ∧ V.cell? ⟨W.heap.size + 1, 2, none⟩ = some (.string t2) ∧ (Instr.lookup 76 (.map (some b)) (.agg #[.string s0, .string s1, .string s2]) false).run Tryz.prog V = .ok (.agg #[.int .i64 a1, .int .i64 a2, .int .i64 px, .bool q1, .slice ua1 un1 uc1]) V ∧ (Instr.lookup 76 (.map (some b)) (.agg #[.string t0, .string t1, .string t2]) false).run Tryz.prog V = .ok (.agg #[.int .i64 d1, .int .i64 d2, .int .i64 py, .bool q2, .slice ua2 un2 uc2]) V) → Hid (CmpS W b n B W.heap.size (W.heap.size + 1) f s0 s1 s2 t0 t1 t2 V.drew) ∧ V.drew.cell? ⟨B, 0, none⟩ = some (.map (some b)) ∧ V.drew.cell? ⟨W.heap.size, 0, none⟩ = some (.string s0) ∧ V.drew.cell? ⟨W.heap.size, 1, none⟩ = some (.string s1) ∧ V.drew.cell? ⟨W.heap.size, 2, none⟩ = some (.string s2) ∧ V.drew.cell? ⟨W.heap.size + 1, 0, none⟩ = some (.string t0) ∧ V.drew.cell? ⟨W.heap.size + 1, 1, none⟩ = some (.string t1) ∧ V.drew.cell? ⟨W.heap.size + 1, 2, none⟩ = some (.string t2) ∧ (Instr.lookup 76 (.map (some b)) (.agg #[.string s0, .string s1, .string s2]) false).run Tryz.prog V.drew = .ok (.agg #[.int .i64 a1, .int .i64 a2, .int .i64 px, .bool q1, .slice ua1 un1 uc1]) V.drew ∧ (Instr.lookup 76 (.map (some b)) (.agg #[.string t0, .string t1, .string t2]) false).run Tryz.prog V.drew = .ok (.agg #[.int .i64 d1, .int .i64 d2, .int .i64 py, .bool q2, .slice ua2 un2 uc2]) V.drew) := fun V h => sall _ ((unhide h.1).below (unhide h.1).gr.drew (below_drew6 V))
  have kalloc : Hid (∀ V o, (Hid (CmpS W b n B W.heap.size (W.heap.size + 1) f s0 s1 s2 t0 t1 t2 V) ∧ V.cell? ⟨B, 0, none⟩ = some (.map (some b)) ∧ V.cell? ⟨W.heap.size, 0, none⟩ = some (.string s0) ∧ V.cell? ⟨W.heap.size, 1, none⟩ = some (.string s1) ∧ V.cell? ⟨W.heap.size, 2, none⟩ = some (.string s2) ∧ V.cell? ⟨W.heap.size + 1, 0, none⟩ = some (.string t0) ∧ V.cell? ⟨W.heap.size + 1, 1, none⟩ = some (.string t1) ∧ V.cell? ⟨W.heap.size + 1, 2, none⟩ = some (.string t2) ∧ (Instr.lookup 76 (.map (some b)) (.agg #[.string s0, .string s1, .string s2]) false).run Tryz.prog V = .ok (.agg #[.int .i64 a1, .int .i64 a2, .int .i64 px, .bool q1, .slice ua1 un1 uc1]) V ∧ (Instr.lookup 76 (.map (some b)) (.agg #[.string t0, .string t1, .string t2]) false).run Tryz.prog V = .ok (.agg #[.int .i64 d1, .int .i64 d2, .int .i64 py, .bool q2, .slice ua2 un2 uc2]) V) → Hid (CmpS W b n B W.heap.size (W.heap.size + 1) f s0 s1 s2 t0 t1 t2 (V.alloc o)) ∧ (V.alloc o).cell? ⟨B, 0, none⟩ = some (.map (some b)) ∧ (V.alloc o).cell? ⟨W.heap.size, 0, none⟩ = some (.string s0) ∧ (V.alloc o).cell? ⟨W.heap.size, 1, none⟩ = some (.string s1) ∧ (V.alloc o).cell? ⟨W.heap.size, 2, none⟩ = some (.string s2) ∧ (V.alloc o).cell? ⟨W.heap.size + 1, 0, none⟩ = some (.string t0) ∧ (V.alloc o).cell? ⟨W.heap.size + 1, 1, none⟩ = some (.string t1) ∧ (V.alloc o).cell? ⟨W.heap.size + 1, 2, none⟩ = some (.string t2) ∧ (Instr.lookup 76 (.map (some b)) (.agg #[.string s0, .string s1, .string s2]) false).run Tryz.prog (V.alloc o) = .ok (.agg #[.int .i64 a1, .int .i64 a2, .int .i64 px, .bool q1, .slice ua1 un1 uc1]) (V.alloc o) ∧ (Instr.lookup 76 (.map (some b)) (.agg #[.string t0, .string t1, .string t2]) false).run Tryz.prog (V.alloc o) = .ok (.agg #[.int .i64 d1, .int .i64 d2, .int .i64 py, .bool q2, .slice ua2 un2 uc2]) (V.alloc o)) := fun V o h => sall _ ((unhide h.1).below ((unhide h.1).gr.alloc o) (boxb o))
  have hS := sall _ S0
  clear sall S0 hm hB l1 l2
  rw [unhide hcf]
  rw [hxa, hya]
  clear hxa hya hs0 hs1 hs2 ht0 ht1 ht2 hcf
  have C1 := unhide c1
  have C2 := unhide c2
  have C3 := unhide c3
  have C4 := unhide c4
  clear c1 c2 c3 c4
  have fx := fieldR a1 a2 px q1 ua1 un1 uc1
  have fy := fieldR d1 d2 py q2 ua2 un2 uc2
  go_enter Tryz.func57, Tryz.ntmps57
  go_wp2_with fail
  go_region_held3 (fun V => Hid (CmpS W b n B W.heap.size (W.heap.size + 1) f s0 s1 s2 t0 t1 t2 V) ∧ V.cell? ⟨B, 0, none⟩ = some (.map (some b)) ∧ V.cell? ⟨W.heap.size, 0, none⟩ = some (.string s0) ∧ V.cell? ⟨W.heap.size, 1, none⟩ = some (.string s1) ∧ V.cell? ⟨W.heap.size, 2, none⟩ = some (.string s2) ∧ V.cell? ⟨W.heap.size + 1, 0, none⟩ = some (.string t0) ∧ V.cell? ⟨W.heap.size + 1, 1, none⟩ = some (.string t1) ∧ V.cell? ⟨W.heap.size + 1, 2, none⟩ = some (.string t2) ∧ (Instr.lookup 76 (.map (some b)) (.agg #[.string s0, .string s1, .string s2]) false).run Tryz.prog V = .ok (.agg #[.int .i64 a1, .int .i64 a2, .int .i64 px, .bool q1, .slice ua1 un1 uc1]) V ∧ (Instr.lookup 76 (.map (some b)) (.agg #[.string t0, .string t1, .string t2]) false).run Tryz.prog V = .ok (.agg #[.int .i64 d1, .int .i64 d2, .int .i64 py, .bool q2, .slice ua2 un2 uc2]) V)
    (first | (with_reducible exact hS) | (with_reducible assumption) | (with_reducible refine unhide kdrew _ ?_; with_reducible assumption) | (with_reducible refine unhide kalloc _ _ ?_; with_reducible assumption) | (with_reducible refine unhide kdrew _ (unhide kalloc _ _ ?_); with_reducible assumption) | (with_reducible refine unhide kalloc _ _ (unhide kdrew _ ?_); with_reducible assumption))
    (first
      | (go_at_call 59; refine (C1 _).mono ?_; rintro e w9 ⟨rfl, rfl⟩)
      | (go_at_call 52; refine (C2 _).mono ?_; rintro e w9 ⟨rfl, rfl⟩)
      | (go_at_call 52; refine (C3 _).mono ?_; rintro e w9 ⟨rfl, rfl⟩)
      | (go_at_call 52; refine (C4 _).mono ?_; rintro e w9 ⟨rfl, rfl⟩)
      | (go_at_call 58; refine (unhide cor _ _ (by simp [go_sem]) (by simp [go_sem]) (by simp [go_sem]) (by simp [go_sem])).mono ?_; rintro e w9 ⟨rfl, rfl⟩))
  all_goals
    rename_i hH
    go_wp2_with fail
    go_ret
    exact ⟨rfl, (unhide hH.1).gr⟩
end Go.Proofs.YtepcnfnmphgccaaGreatDoor
