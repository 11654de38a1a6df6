/- Layer 3: contract of the document's listed. -/
import Derived.Test.YtnkcbmlobikjkaaGreatDoorV3NUG
import Derived.Test.YtnkcbmlobikjkaaGreatDoorV3APG
import Derived.Deep.RegionLaw
namespace Go.Proofs.YtnkcbmlobikjkaaGreatDoor
open Go.RowKit Suf Val Go.Maps

/-- A set's variable, free to be written. -/
def Box6 (W : World) (B : Nat) (a b c d e f : Value) : Prop := Six W B a b c d e f ∧ (∀ o, W.frozen? ⟨B, o, none⟩ = false) ∧ B < W.heap.size
theorem Box6.below {w w' : World} {B : Nat} {a b c d e f : Value} (h : Box6 w B a b c d e f) (hb : Below w.heap.size w w') : Box6 w' B a b c d e f := ⟨h.1.below hb, fun o => by rw [hb.frozen (p := ⟨B, o, none⟩) h.2.2]; exact h.2.1 o, Nat.lt_of_lt_of_le h.2.2 hb.size⟩
theorem frozen_other {w w' : World} {r : Option Nat} (hg : w.grownBy w' r) {p : Addr} (hlt : p.block < w.heap.size) (hne : ∀ k, r = some k → p.block ≠ k) : w'.frozen? p = w.frozen? p := by
  have := hg.block p.block hlt (fun e => hne p.block e.symm rfl)
  unfold World.frozen?
  rw [this]
theorem Box6.other {w w' : World} {r : Option Nat} {B : Nat} {a b c d e f : Value} (h : Box6 w B a b c d e f) (hg : w.grownBy w' r) (hne : ∀ k, r = some k → B ≠ k) : Box6 w' B a b c d e f :=
  ⟨h.1.other hg hne, fun o => by rw [frozen_other hg (p := ⟨B, o, none⟩) h.2.2 hne]; exact h.2.1 o, Nat.lt_of_lt_of_le h.2.2 hg.size⟩
theorem Slot.other {w w' : World} {r : Option Nat} {B : Nat} (h : Slot w B) (hg : w.grownBy w' r) (hne : ∀ k, r = some k → B ≠ k) : Slot w' B :=
  ⟨h.1.other hg hne, fun o => by rw [frozen_other hg (p := ⟨B, o, none⟩) h.2.2 hne]; exact h.2.1 o, Nat.lt_of_lt_of_le h.2.2 hg.size⟩
theorem box6_new (w : World) (a b c d e f : Value) (t : TypeId) : Box6 (w.alloc (.cells #[a, b, c, d, e, f] t)) w.heap.size a b c d e f :=
  ⟨six_new _ _ _ _ _ _ _ _, fun o => by simp [go_sem], by simp⟩
theorem Box6.set3 {w : World} {B : Nat} {a b c d e f : Value} (h : Box6 w B a b c d e f) (x : Value) : Box6 (w.setCell ⟨B, 3, none⟩ x) B a b c x e f := by
  obtain ⟨⟨h0, h1, h2, h3, h4, h5⟩, hf, hl⟩ := h
  refine ⟨⟨?_, ?_, ?_, World.cell?_setCell_same _ _ _ h3, ?_, ?_⟩, fun o => by rw [World.frozen?_setCell]; exact hf o, by simpa using hl⟩
  all_goals
    rw [World.cell?_setCell_other _ _ _ _ (by simp)]; assumption
theorem Box6.set0 {w : World} {B : Nat} {a b c d e f : Value} (h : Box6 w B a b c d e f) (x : Value) : Box6 (w.setCell ⟨B, 0, none⟩ x) B x b c d e f := by
  obtain ⟨⟨h0, h1, h2, h3, h4, h5⟩, hf, hl⟩ := h
  refine ⟨⟨World.cell?_setCell_same _ _ _ h0, ?_, ?_, ?_, ?_, ?_⟩, fun o => by rw [World.frozen?_setCell]; exact hf o, by simpa using hl⟩
  all_goals
    rw [World.cell?_setCell_other _ _ _ _ (by simp)]; assumption

theorem c7_next {V W W' : World} {p0 p1 p2 p3 p4 p5 p6 : Addr} {v0 v1 v2 v3 v4 v5 v6 : Value} (h : Hid (Below V.heap.size V W) ∧ W.cell? p0 = some v0 ∧ W.cell? p1 = some v1 ∧ W.cell? p2 = some v2 ∧ W.cell? p3 = some v3 ∧ W.cell? p4 = some v4 ∧ W.cell? p5 = some v5 ∧ W.cell? p6 = some v6) (hb : Below W.heap.size W W') : Hid (Below V.heap.size V W') ∧ W'.cell? p0 = some v0 ∧ W'.cell? p1 = some v1 ∧ W'.cell? p2 = some v2 ∧ W'.cell? p3 = some v3 ∧ W'.cell? p4 = some v4 ∧ W'.cell? p5 = some v5 ∧ W'.cell? p6 = some v6 :=
  ⟨chain (unhide h.1) hb, cell_kept hb (h.2.1), cell_kept hb (h.2.2.1), cell_kept hb (h.2.2.2.1), cell_kept hb (h.2.2.2.2.1), cell_kept hb (h.2.2.2.2.2.1), cell_kept hb (h.2.2.2.2.2.2.1), cell_kept hb (h.2.2.2.2.2.2.2)⟩
theorem c7_drew {V W : World} {p0 p1 p2 p3 p4 p5 p6 : Addr} {v0 v1 v2 v3 v4 v5 v6 : Value} (h : Hid (Below V.heap.size V W) ∧ W.cell? p0 = some v0 ∧ W.cell? p1 = some v1 ∧ W.cell? p2 = some v2 ∧ W.cell? p3 = some v3 ∧ W.cell? p4 = some v4 ∧ W.cell? p5 = some v5 ∧ W.cell? p6 = some v6) : Hid (Below V.heap.size V W.drew) ∧ W.drew.cell? p0 = some v0 ∧ W.drew.cell? p1 = some v1 ∧ W.drew.cell? p2 = some v2 ∧ W.drew.cell? p3 = some v3 ∧ W.drew.cell? p4 = some v4 ∧ W.drew.cell? p5 = some v5 ∧ W.drew.cell? p6 = some v6 :=
  ⟨(unhide h.1).drew, h.2.1, h.2.2.1, h.2.2.2.1, h.2.2.2.2.1, h.2.2.2.2.2.1, h.2.2.2.2.2.2.1, h.2.2.2.2.2.2.2⟩

set_option maxRecDepth 100000 in
set_option maxHeartbeats 8000000 in
theorem rlisted_any (v : Value) (l : List Txt) (bm bn bq : Bool) (u : Value) (m : List Txt) (blo bhi : Int) (w : World) (hv : Strs w v l) (hu : Strs w u m) (h9 : l.length ≤ 1000) :
    Calls Tryz.prog 56 #[v, .agg #[.bool bm, .bool bn, .bool bq, u, .int .i64 blo, .int .i64 bhi]] w fun e w' => ∃ v', e = .returned (.agg #[.bool false, .bool false, .bool false, v', .int .i64 0, .int .i64 0]) ∧ Own w' w.heap.size v' (l.filter (hasB ⟨bm, bn, bq, m, blo, bhi⟩)) ∧ Below w.heap.size w w' := by
  have HV := hide hv
  have HU := hide hu
  have HS := hide hv.short
  have HO := hide hv.open
  obtain ⟨a, c, rfl⟩ := hv.val
  obtain ⟨a2, c2, rfl⟩ := hu.val
  clear hv hu
  obtain ⟨n, hn⟩ : ∃ n, n = l.length := ⟨_, rfl⟩
  have HN := hide hn
  rw [← hn] at h9 HV ⊢
  clear hn
  obtain ⟨n2, hn2⟩ : ∃ n, n = m.length := ⟨_, rfl⟩
  rw [← hn2] at HU ⊢
  clear hn2
  obtain ⟨p, hp⟩ : ∃ p, p = hasB ⟨bm, bn, bq, m, blo, bhi⟩ := ⟨_, rfl⟩
  rw [← hp]
  have GP := hide hp
  clear hp
  obtain ⟨W0, hW0⟩ : ∃ W0, W0 = (((w.alloc (.cells #[.bool bm, .bool bn, .bool bq, .slice a2 n2 c2, .int .i64 blo, .int .i64 bhi] 42)).alloc (.cells #[.bool false, .bool false, .bool false, .slice none 0 0, .int .i64 0, .int .i64 0] 42)).alloc (.cells #[.bool false, .bool false, .bool false, .slice none 0 0, .int .i64 0, .int .i64 0] 42)) := ⟨_, rfl⟩
  have B0 : Hid (Below w.heap.size w W0) := by rw [hW0]; exact (((box_below _).alloc (by simp) _).alloc (by simp; omega) _)
  have SB0 : Hid (Six W0 w.heap.size (.bool bm) (.bool bn) (.bool bq) (.slice a2 n2 c2) (.int .i64 blo) (.int .i64 bhi)) := by rw [hW0]; exact ((six_new _ _ _ _ _ _ _ _).below (box_below _)).below (box_below _)
  have SL0 : Hid (Slot W0 (w.heap.size + 1)) := by
    have := slot_new (w.alloc (.cells #[.bool bm, .bool bn, .bool bq, .slice a2 n2 c2, .int .i64 blo, .int .i64 bhi] 42)) 42
    rw [show (w.alloc (.cells #[.bool bm, .bool bn, .bool bq, .slice a2 n2 c2, .int .i64 blo, .int .i64 bhi] 42)).heap.size = w.heap.size + 1 by simp] at this
    rw [hW0]; exact this.below (box_below _)
  have BX0 : Hid (Box6 W0 (w.heap.size + 2) (.bool false) (.bool false) (.bool false) (.slice none 0 0) (.int .i64 0) (.int .i64 0)) := by
    have := box6_new ((w.alloc (.cells #[.bool bm, .bool bn, .bool bq, .slice a2 n2 c2, .int .i64 blo, .int .i64 bhi] 42)).alloc (.cells #[.bool false, .bool false, .bool false, .slice none 0 0, .int .i64 0, .int .i64 0] 42)) (.bool false) (.bool false) (.bool false) (.slice none 0 0) (.int .i64 0) (.int .i64 0) 42
    rw [show ((w.alloc (.cells #[.bool bm, .bool bn, .bool bq, .slice a2 n2 c2, .int .i64 blo, .int .i64 bhi] 42)).alloc (.cells #[.bool false, .bool false, .bool false, .slice none 0 0, .int .i64 0, .int .i64 0] 42)).heap.size = w.heap.size + 2 by simp] at this
    rw [hW0]; exact this
  have GW := hide hW0
  clear hW0
  go_enter Tryz.func56, Tryz.ntmps56
  go_wp2_with fail
  rw [← unhide GW]
  go_loopw [6] (fun i W => ∃ (k : Nat) (xa : Option Addr) (xn xc : Nat), k ≤ n ∧ i = .int .i64 k ∧ Hid (Box6 W (w.heap.size + 2) (.bool false) (.bool false) (.bool false) (.slice xa xn xc) (.int .i64 0) (.int .i64 0)) ∧ Hid (Own W (w.heap.size + 3) (.slice xa xn xc) ((l.take k).filter p)) ∧ Hid (Six W w.heap.size (.bool bm) (.bool bn) (.bool bq) (.slice a2 n2 c2) (.int .i64 blo) (.int .i64 bhi)) ∧ Hid (Slot W (w.heap.size + 1)) ∧ Hid (Below w.heap.size w W)) (fun i _ => n - (intOf i).toNat)
  case atStart => exact ⟨0, none, 0, 0, Nat.zero_le _, rfl, BX0, own_nil _ _, SB0, SL0, B0⟩
  case round =>
    obtain ⟨k, xa, xn, xc, hk, rfl, hbx, hown, hsb, hsl, hbel⟩ := hrel
    clear BX0 SB0 SL0 B0 GW
    by_cases hlt : k < n
    · have hlk : k < l.length := by rw [← unhide HN]; exact hlt
      obtain ⟨b, o, c', _, hval, hcell⟩ : ∃ b o c', 0 < l.length ∧ Value.slice a n c = .slice (some ⟨b, o, none⟩) l.length c' ∧ ∀ j (hj : j < l.length), w.cell? ⟨b, o + j, none⟩ = some (.string (bytesT l[j])) := by
        rcases unhide HO with ⟨_, _, h, _⟩ | h
        · rw [h] at hlk; exact absurd hlk (Nat.not_lt_zero _)
        · rw [unhide HN]; exact h
      obtain rfl : a = some ⟨b, o, none⟩ := by injection hval
      have hc := cell_kept (unhide hbel) (hcell k hlk)
      clear hval hcell
      have hres := hide (filter_next l p k hlk)
      obtain ⟨t, ht⟩ : ∃ t, t = l[k] := ⟨_, rfl⟩
      rw [← ht] at hc hres
      have hst : Hid (short t) := by rw [ht]; exact unhide HS _ (List.getElem_mem hlk)
      clear ht hlk
      obtain ⟨X, hX⟩ : ∃ X, X = bytesT t := ⟨_, rfl⟩
      rw [← hX] at hc
      have GX := hide hX
      clear hX
      obtain ⟨q, hq⟩ : ∃ q, q = p t := ⟨_, rfl⟩
      rw [← hq] at hres
      have GQ := hide hq
      clear hq
      have cH : Hid (∀ W, Hid (Below wr.heap.size wr W) ∧ W.cell? ⟨w.heap.size, 0, none⟩ = some (.bool bm) ∧ W.cell? ⟨w.heap.size, 1, none⟩ = some (.bool bn) ∧ W.cell? ⟨w.heap.size, 2, none⟩ = some (.bool bq) ∧ W.cell? ⟨w.heap.size, 3, none⟩ = some (.slice a2 n2 c2) ∧ W.cell? ⟨w.heap.size, 4, none⟩ = some (.int .i64 blo) ∧ W.cell? ⟨w.heap.size, 5, none⟩ = some (.int .i64 bhi) ∧ W.cell? ⟨b, o + k, none⟩ = some (.string X) → Calls Tryz.prog 59 #[.agg #[.bool bm, .bool bn, .bool bq, .slice a2 n2 c2, .int .i64 blo, .int .i64 bhi], .string X] W fun e w' => e = .returned (.bool q) ∧ Below W.heap.size W w') := fun W hs => by
        rw [unhide GQ, unhide GP, unhide GX]
        exact rhas_any bm bn bq _ m blo bhi t W ((unhide HU).below (chain (unhide hbel) (unhide hs.1))) (unhide hst)
      obtain ⟨s0, s1, s2, s3, s4, s5⟩ := unhide hsb
      have hS : Hid (Below wr.heap.size wr wr) ∧ wr.cell? ⟨w.heap.size, 0, none⟩ = some (.bool bm) ∧ wr.cell? ⟨w.heap.size, 1, none⟩ = some (.bool bn) ∧ wr.cell? ⟨w.heap.size, 2, none⟩ = some (.bool bq) ∧ wr.cell? ⟨w.heap.size, 3, none⟩ = some (.slice a2 n2 c2) ∧ wr.cell? ⟨w.heap.size, 4, none⟩ = some (.int .i64 blo) ∧ wr.cell? ⟨w.heap.size, 5, none⟩ = some (.int .i64 bhi) ∧ wr.cell? ⟨b, o + k, none⟩ = some (.string X) := ⟨Below.refl _ _, s0, s1, s2, s3, s4, s5, hc⟩
      have i0 : (0 : Int) ≤ (k : Int) := by omega
      have i1 : (k : Int) < (n : Int) := by omega
      clear s0 s1 s2 s3 s4 s5 hc
      go_wp2_with fail
      go_region_held3 (fun W => Hid (Below wr.heap.size wr W) ∧ W.cell? ⟨w.heap.size, 0, none⟩ = some (.bool bm) ∧ W.cell? ⟨w.heap.size, 1, none⟩ = some (.bool bn) ∧ W.cell? ⟨w.heap.size, 2, none⟩ = some (.bool bq) ∧ W.cell? ⟨w.heap.size, 3, none⟩ = some (.slice a2 n2 c2) ∧ W.cell? ⟨w.heap.size, 4, none⟩ = some (.int .i64 blo) ∧ W.cell? ⟨w.heap.size, 5, none⟩ = some (.int .i64 bhi) ∧ W.cell? ⟨b, o + k, none⟩ = some (.string X))
        (first | (with_reducible exact hS) | (with_reducible assumption) | (with_reducible refine c7_drew ?_; with_reducible assumption) | (with_reducible refine c7_next ?_ hw; with_reducible assumption))
        (first | (go_at_call 59; with_reducible refine (unhide cH _ ?_).mono ?_; with_reducible assumption; rintro e w2 ⟨rfl, hw⟩))
      rename_i hH
      have hb1 := hide (unhide hH.1)
      have hc2 := hH.2.2.2.2.2.2.2
      clear hS cH hw hH
      have B2 := hide (chain (unhide hbel) (unhide hb1))
      have X2 := hide ((unhide hbx).below (unhide hb1))
      have O2 := hide ((unhide hown).below (unhide hb1))
      have S2 := hide ((unhide hsb).below (unhide hb1))
      have L2 := hide ((unhide hsl).below (unhide hb1))
      clear hb1 hbel hbx hown hsb hsl
      cases q
      · have hn2 : Hid ((l.take (k + 1)).filter p = (l.take k).filter p) := by show _ = _; rw [unhide hres]; simp
        clear hc2
        go_wp2_with fail
        go_roundw
        case rel => exact ⟨k + 1, xa, xn, xc, by omega, by go_num, X2, (by rw [unhide hn2]; exact O2), S2, L2, B2⟩
        case measure => simp [intOf]; omega
      · have hn2 : Hid ((l.take (k + 1)).filter p = (l.take k).filter p ++ [t]) := by show _ = _; rw [unhide hres]; simp
        have hone := hide (fun W : World => strs_one (w := W) 9 (unhide hst))
        rw [← unhide GX] at hone
        have hfl : Hid (((l.take k).filter p).length + [t].length ≤ 8796093022208) := by
          have h1 := List.length_filter_le p (l.take k)
          have h2 := List.length_take_le k l
          show _ + 1 ≤ _
          omega
        have hz2 := hide ((unhide X2).2.2)
        have hne2 : Hid (∀ k, (Value.slice xa xn xc).ownBlock = some k → w.heap.size + 2 ≠ k) := fun k hk e => by have := (own_block (unhide O2) k hk).1; omega
        obtain ⟨⟨_, _, _, x3, _, _⟩, xf, _⟩ := unhide X2
        have xf3 := xf 3
        clear xf hres
        go_wp2_with fail
        go_region_law ((refine step_append_strs (by rfl) _ _ (by rfl) (w.heap.size + 3) (.slice xa xn xc) ((l.take k).filter p) (by rfl) (by exact ((unhide O2).below (Below.refl _ _).drew).below (box_below _)) (.slice (some ⟨_, 0, none⟩) 1 1) [t] (by rfl) (by exact unhide hone _) (unhide hfl) (by have := unhide hz2; simp; omega) ?_; intro v1 w1 hown1 hg1; have x3' := cell_other hg1 (show ((w2.drew).alloc (.cells #[.string X] 9)).cell? ⟨w.heap.size + 2, 3, none⟩ = some (.slice xa xn xc) from cell_kept (box_below _) x3) (unhide hne2); have xf' := (frozen_other hg1 (p := ⟨w.heap.size + 2, 3, none⟩) (by have := unhide hz2; simp; omega) (unhide hne2)).trans (show ((w2.drew).alloc (.cells #[.string X] 9)).frozen? ⟨w.heap.size + 2, 3, none⟩ = false from by rw [(box_below (w := w2.drew) _).frozen (p := ⟨w.heap.size + 2, 3, none⟩) (unhide hz2)]; exact xf3); have G1 := hide hg1; clear hg1; obtain ⟨ya, yc, hv1⟩ := hown1.strs.val; obtain ⟨yn, hyn⟩ : ∃ y, y = ((l.take k).filter p ++ [t]).length := ⟨_, rfl⟩; rw [← hyn] at hv1; clear hyn; subst hv1; have O3 := hide hown1; clear hown1))
        all_goals
          have bV := hide (chain (Below.refl w2.heap.size w2).drew (box_below (.cells #[.string X] 9)))
          have X3 := hide ((((unhide X2).below (unhide bV)).other (unhide G1) (unhide hne2)).set3 (.slice ya yn yc))
          have O4 := hide ((unhide O3).grown (set_grown w1 (w.heap.size + 2) 3 (.slice ya yn yc)) (Nat.lt_succ_self _))
          have S3 := hide ((((unhide S2).below (unhide bV)).other (unhide G1) (fun k hk e => by have := (own_block (unhide O2) k hk).1; omega)).other (set_grown w1 (w.heap.size + 2) 3 (.slice ya yn yc)) (fun k hk e => by injection hk with hk; omega))
          have L3 := hide ((((unhide L2).below (unhide bV)).other (unhide G1) (fun k hk e => by have := (own_block (unhide O2) k hk).1; omega)).other (set_grown w1 (w.heap.size + 2) 3 (.slice ya yn yc)) (fun k hk e => by injection hk with hk; omega))
          have B3 := hide (grown_below (own_grow (chain (unhide B2) (unhide bV)) (((unhide O2).below (unhide bV)).mono (by omega)) (unhide G1)) (set_grown w1 (w.heap.size + 2) 3 (.slice ya yn yc)) (by omega))
          clear x3 xf3 x3' xf' hc2 G1 O3 X2 O2 S2 L2 B2 bV
          go_wp2_with fail
          go_roundw
          case rel => exact ⟨k + 1, ya, yn, yc, by omega, by go_num, X3, (by rw [unhide hn2]; exact O4), S3, L3, B3⟩
          case measure => simp [intOf]; omega
    · obtain rfl : k = n := by omega
      have hf : Hid (Own wr (w.heap.size + 3) (.slice xa xn xc) (l.filter p)) := by
        have := unhide hown
        rw [List.take_of_length_le (by rw [← unhide HN]; exact Nat.le_refl _)] at this
        exact this
      obtain ⟨⟨x0, x1, x2, x3, x4, x5⟩, xf, _⟩ := unhide hbx
      obtain ⟨⟨k0, k1, k2, k3, k4, k5⟩, hfz, _⟩ := unhide hsl
      clear hown
      go_wp2_with fail
      exact bodyPost_ret (v := .agg #[.bool false, .bool false, .bool false, .slice xa xn xc, .int .i64 0, .int .i64 0]) (by simp [results, Tryz.results56, go_sem, k0, k1, k2, k3, k4, k5]) rfl
        ⟨_, rfl, ((unhide hf).grown (put6_grown _ (w.heap.size + 1) _ _ _ _ _ _) (by omega)).mono (by omega), put6_below _ _ _ _ _ _ (unhide hbel) (by omega)⟩
end Go.Proofs.YtnkcbmlobikjkaaGreatDoor
