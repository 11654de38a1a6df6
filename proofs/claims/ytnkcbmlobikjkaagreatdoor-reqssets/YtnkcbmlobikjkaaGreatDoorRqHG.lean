/- Layer 4: keyed sets sorted by their keys: slices.SortFunc at this row. -/
import Derived.Test.YtnkcbmlobikjkaaGreatDoorRqGG
import Derived.Test.YtnkcbmlobikjkaaGreatDoorShelf
import Derived.Sort.OwnSorted
namespace Go.Proofs.YtnkcbmlobikjkaaGreatDoor
open Go.RowKit Suf Val Go.Maps

/-- A keyed set whose list is written out. -/
abbrev SK := (Option Addr × Nat × Nat) × Txt × Bool × Bool × Bool × List Txt × Int × Int
def toV (p : SK) : VKS := (.slice p.1.1 p.1.2.1 p.1.2.2, (p.2.1, ⟨p.2.2.1, p.2.2.2.1, p.2.2.2.2.1, p.2.2.2.2.2.1, p.2.2.2.2.2.2.1, p.2.2.2.2.2.2.2⟩))
def encS (p : SK) : List Value := encK (toV p)
theorem encS_len (p : SK) : (encS p).length = 7 := rfl
theorem encS_one (p : SK) : ∀ v ∈ encS p, v.oneCell' = true := encK_one (x := toV p) rfl
theorem flat_bridge (d : Array SK) : (Go.Sort.flatK encS 7 d).toList = flatK (d.toList.map toV) := by
  apply List.ext_getElem?
  intro t
  by_cases ht : t < d.size * 7
  · have h1 : t / 7 < (d.toList.map toV).length := by simp; omega
    have h2 := flatK_at (d.toList.map toV) (t / 7) h1 (t % 7) (Nat.mod_lt _ (by decide))
    rw [show t / 7 * 7 + t % 7 = t by omega] at h2
    rw [h2]
    have h3 : t / 7 < d.size := by omega
    have h4 : t % 7 < 7 := Nat.mod_lt _ (by decide)
    have h5 : (encS (d[t / 7]'h3)).length = 7 := rfl
    rw [Array.getElem?_toList]
    unfold Go.Sort.flatK
    rw [Array.getElem?_map, Array.getElem?_range, if_pos ht]
    simp only [Option.map_some]
    rw [getElem!_pos d (t / 7) h3, getElem!_pos (encS (d[t / 7]'h3)) (t % 7) (by rw [h5]; exact h4)]
    rw [List.getElem_map, Array.getElem_toList]
    exact (List.getElem?_eq_getElem (by show t % 7 < 7; exact h4)).symm
  · rw [List.getElem?_eq_none (by simp; omega), List.getElem?_eq_none (by rw [flatK_len]; simp; omega)]
theorem holds_row {w : World} {base g cap : Nat} {T : TypeId} {d : Array SK} (h : w.ownsRow base T 7 (.slice (some ⟨g, 0, none⟩) d.size cap) d.size (flatK (d.toList.map toV))) : Go.Sort.HoldsK encS 7 w g 0 d := by
  intro j hj
  have hj' : j < d.size * 7 := by simpa using hj
  refine ⟨?_, by rw [Nat.zero_add]; exact h.frozenAt j⟩
  rw [Nat.zero_add, h.cellAt j hj', ← flat_bridge, Array.getElem?_toList]
  rw [getElem!_pos _ j hj]
  exact Array.getElem?_eq_getElem hj
theorem grown_sortK {w : World} {g n : Nat} {os : Array Obj} (d : Array SK) : w.grownBy (Go.Proofs.sortWorldK encS 7 w g 0 n d os) (some g) := by
  unfold Go.Proofs.sortWorldK Go.Sort.putRowK
  refine ⟨rfl, rfl, rfl, by simp, fun k hk hne => ?_⟩
  rw [Go.Sort.heap_grow_old _ _ (by simpa using hk)]
  have : g ≠ k := fun e => hne (by rw [e])
  simp [Go.Sort.putRow, Go.Sort.mapBlock, Go.Sort.ahead, Array.getElem?_modify, this]
theorem row_sortK {w : World} {base g cap n : Nat} {T : TypeId} {os : Array Obj} {d d' : Array SK} (hs : d'.size = d.size) (h : w.ownsRow base T 7 (.slice (some ⟨g, 0, none⟩) d.size cap) d.size (flatK (d.toList.map toV))) :
    (Go.Proofs.sortWorldK encS 7 w g 0 n d' os).ownsRow base T 7 (.slice (some ⟨g, 0, none⟩) d.size cap) d.size (flatK (d'.toList.map toV)) := by
  rcases h.2 with ⟨e, _⟩ | ⟨g', cap', cur, e, hb, hg, hn, hc, hz, _⟩
  · cases e
  · injection e with e1 _ e3
    injection e1 with e1
    injection e1 with e1 _ _
    subst e1 e3
    have hlt : g < w.heap.size := (Array.getElem?_eq_some_iff.1 hg).1
    refine ⟨by rw [flatK_len]; simp [hs], .inr ⟨g, cap, Go.Sort.putCells id 0 (Go.Sort.flatK encS 7 d') cur, rfl, hb, ?_, hn, hc, by simp [Go.Sort.putCells, hz], ?_⟩⟩
    · unfold Go.Proofs.sortWorldK Go.Sort.putRowK
      rw [Go.Sort.heap_grow_old _ _ (by simpa using hlt)]
      simp [Go.Sort.putRow, Go.Sort.mapBlock, Go.Sort.ahead, Array.getElem?_modify, hg, Go.Sort.onCells]
    · rw [← flat_bridge]
      apply List.ext_getElem?
      intro j
      by_cases hj : j < d.size * 7
      · have hj2 : j < (Go.Sort.flatK encS 7 d').size := by simp; omega
        have hj3 : j < cur.size := by rw [hz]; exact Nat.lt_of_lt_of_le hj (Nat.mul_le_mul_right 7 hn)
        rw [List.getElem?_take_of_lt hj, Array.getElem?_toList, Array.getElem?_toList]
        have hj4 : j < d'.size * 7 := by rw [hs]; exact hj
        simp [Go.Sort.putCells, hj3, hj4]
      · rw [List.getElem?_take_eq_none (by omega), List.getElem?_eq_none (by simp; omega)]

def cfK (x y : SK) : Int := Lib.compareBytes x.2.1 y.2.1
theorem cmp_lt : ∀ a b : Txt, decide (Lib.compareBytes a b < 0) = lt a b
  | [], [] => rfl
  | [], _ :: _ => rfl
  | _ :: _, [] => rfl
  | x :: a, y :: b => by
    rw [lt_cons, ← cmp_lt a b]
    show decide ((if x < y then (-1 : Int) else if y < x then 1 else Lib.compareBytes a b) < 0) = _
    by_cases h1 : x < y
    · rw [if_pos h1]; simp [h1]
    · rw [if_neg h1]
      by_cases h2 : y < x
      · rw [if_pos h2]
        have h3 : ¬ x = y := fun e => by rw [e] at h2; exact absurd h2 (UInt8.lt_irrefl y)
        simp [h1, h3]
      · rw [if_neg h2]
        have h3 : x = y := UInt8.le_antisymm (UInt8.not_lt.1 h2) (UInt8.not_lt.1 h1)
        simp [h3]
theorem lt_cfK (x y : SK) : ltOf cfK x y = lt x.2.1 y.2.1 := cmp_lt _ _
theorem swoK : Go.Sort.SWO (ltOf cfK) where
  irrefl x := by rw [lt_cfK]; exact lt_irrefl _
  trans x y z h1 h2 := by rw [lt_cfK] at *; exact lt_trans h1 h2
  ntrans x y z h1 h2 := by
    rw [lt_cfK] at *
    cases h : lt x.2.1 z.2.1 with
    | false => rfl
    | true =>
      rcases lt_total y.2.1 z.2.1 with hl | hl | hl
      · rw [h2] at hl; cases hl
      · rw [hl] at h1; rw [h1] at h; cases h
      · have := lt_trans h hl; rw [h1] at this; cases this
end Go.Proofs.YtnkcbmlobikjkaaGreatDoor

/- Layer 4: contract of rising: the sets of a map by their keys, byte by byte. -/
namespace Go.Proofs.YtnkcbmlobikjkaaGreatDoor
open Go.RowKit Suf Val Go.Maps

set_option maxHeartbeats 2000000 in
theorem cmp_closure (x y : SK) (W : World) : Calls Tryz.prog 49 #[.agg (encS x).toArray, .agg (encS y).toArray] W fun e w' => e = .returned (.int .i64 (cfK x y)) ∧ ∃ q os', w' = Go.Sort.grow (W.drewN q) os' := by
  have hcon := fun W' => Tryz.strings_Compare (bytesT x.2.1) (bytesT y.2.1) W'
  have hr : Lib.compareBytes (bytesT x.2.1).data.toList (bytesT y.2.1).data.toList = cfK x y := rfl
  rw [hr] at hcon
  generalize cfK x y = r at hcon ⊢
  clear hr
  obtain ⟨⟨xa, xn, xc⟩, xk, xm, xo, xq, xv, xl, xh⟩ := x
  obtain ⟨⟨ya, yn, yc⟩, yk, ym, yo, yq, yv, yl, yh⟩ := y
  show Calls Tryz.prog 49 #[.agg #[.string (bytesT xk), .bool xm, .bool xo, .bool xq, .slice xa xn xc, .int .i64 xl, .int .i64 xh], .agg #[.string (bytesT yk), .bool ym, .bool yo, .bool yq, .slice ya yn yc, .int .i64 yl, .int .i64 yh]] W _
  simp only at hcon
  go_enter Tryz.func49, Tryz.ntmps49
  go_wp2_with (go_at_call 50; refine (hcon _).mono ?_; rintro e w' ⟨rfl, rfl⟩)
  go_ret
  exact ⟨rfl, 0, _, by rw [Go.Sort.alloc_eq_grow, Go.Sort.alloc_eq_grow, Go.Sort.grow_grow]; rfl⟩
theorem cmp_lays (blk off size : Nat) (w : World) : CmpLays Tryz.prog 49 #[] encS 7 cfK blk off size w := fun _ _ _ _ x y => cmp_closure x y _
theorem enters_cmp : ∀ args w, (callFunc 49 args).run Tryz.prog w = .ok (.enter 49 args) w := enters_of Tryz.func49 (by kernel_rfl) rfl
theorem aggK (w : World) : (isAgg 44).run Tryz.prog w = .ok true w := by kernel_rfl
theorem sizeK (w : World) : (Go.sizeOf 44).run Tryz.prog w = .ok 7 w := by kernel_rfl
theorem ofV : ∀ xs : List VKS, (∀ y ∈ xs, ∃ a n c, y.1 = .slice a n c) → ∃ d : List SK, d.map toV = xs
  | [], _ => ⟨[], rfl⟩
  | y :: l, h => by
    obtain ⟨d, hd⟩ := ofV l fun z hz => h z (List.mem_cons_of_mem _ hz)
    obtain ⟨a, n, c, e⟩ := h y (by simp)
    obtain ⟨u, k, ⟨m, o, q, v, lo, hi⟩⟩ := y
    simp only at e
    subst e
    exact ⟨((a, n, c), k, m, o, q, v, lo, hi) :: d, by rw [List.map_cons, hd]; rfl⟩
theorem perm_list {d d' : Array SK} (h : Go.Sort.PermIn 0 d.size d d') : (d'.toList.map toV).Perm (d.toList.map toV) := by
  obtain ⟨hs, _, hp⟩ := h
  have e1 : (d'.extract 0 d.size).toList = d'.toList := by rw [← hs]; simp
  have e2 : (d.extract 0 d.size).toList = d.toList := by simp
  rw [e1, e2] at hp
  exact hp.map _
theorem sorted_list {d' : Array SK} {n : Nat} (hn : d'.size = n) (h : Go.Sort.SortedIn (ltOf cfK) 0 n d') : (d'.toList.map toV).Pairwise fun a b => lt b.2.1 a.2.1 = false := by
  rw [List.pairwise_map]
  refine List.pairwise_iff_getElem.2 fun i j hi hj hij => ?_
  have h1 := h i j (Nat.zero_le _) hij (by simpa [← hn] using hj)
  have hi' : i < d'.size := by simpa using hi
  have hj' : j < d'.size := by simpa using hj
  rw [getElem!_pos d' i hi', getElem!_pos d' j hj', lt_cfK] at h1
  rw [Array.getElem_toList, Array.getElem_toList]
  exact h1

/-- slices.SortFunc at this row. -/
theorem sort_any (xa : Option Addr) (xn xc base : Nat) (xs : List VKS) (w : World) (hrow : w.ownsRow base 44 7 (.slice xa xn xc) xn (flatK xs)) (hl : xs.length = xn) (hs : ∀ y ∈ xs, ∃ a n c, y.1 = .slice a n c) (h16 : xn ≤ 16) :
    Calls Tryz.prog 48 #[.slice xa xn xc, .func (.func 49) #[] #[]] w fun e w' => e = .returned (.tuple #[]) ∧ ∃ xs', xs'.Perm xs ∧ (xs'.Pairwise fun a b => lt b.2.1 a.2.1 = false) ∧ w'.ownsRow base 44 7 (.slice xa xn xc) xn (flatK xs') ∧ w.grownBy w' (Value.slice xa xn xc).ownBlock := by
  obtain ⟨d, hd⟩ := ofV xs hs
  have hdl : d.toArray.size = xn := by rw [← hl, ← hd]; simp
  by_cases h0 : xn = 0
  · subst h0
    obtain rfl : xs = [] := List.eq_nil_of_length_eq_zero hl
    refine (AnyF.slices_SortFunc_none { Tryz.sortK with } xa xc _ w).mono ?_
    rintro e w' ⟨rfl, rfl⟩
    exact ⟨rfl, [], List.Perm.refl _, List.Pairwise.nil, hrow, grown_refl _ _⟩
  · have hrow' := hrow
    rcases hrow.2 with ⟨_, hn⟩ | ⟨g, cap, cur, e, _, hg, _⟩
    · exact absurd hn h0
    · injection e with e1 e2 e3
      subst e1 e3
      have hlt : g < w.heap.size := (Array.getElem?_eq_some_iff.1 hg).1
      have hrow2 : w.ownsRow base 44 7 (.slice (some ⟨g, 0, none⟩) d.toArray.size xc) d.toArray.size (flatK (d.toArray.toList.map toV)) := by
        rw [hdl]
        rw [show d.toArray.toList.map toV = xs from hd]
        exact hrow'
      have hcon := AnyQ.slices_SortFunc Tryz.sortK 7 aggK sizeK encS encS_len encS_one cfK swoK 49 #[] g 0 xc d.toArray w enters_cmp (cmp_lays _ _ _ _) (holds_row hrow2) hlt (by rw [hdl]; omega)
      rw [hdl] at hcon
      refine (show Calls Tryz.prog 48 _ _ _ from hcon).mono ?_
      rintro e w' ⟨rfl, d', m, os, hp, hso, rfl⟩
      have hps : d'.size = d.toArray.size := by rw [hdl]; rw [← hdl] at hp; exact hp.1.trans hdl
      refine ⟨rfl, d'.toList.map toV, ?_, sorted_list (by rw [hps, hdl]) hso, ?_, grown_sortK d'⟩
      · have h2 := perm_list (d := d.toArray) (d' := d') (by rw [hdl]; exact hp)
        rw [show d.toArray.toList.map toV = xs from hd] at h2
        exact h2
      · have h2 := row_sortK (n := m) (os := os) hps hrow2
        rw [hdl] at h2
        exact h2
end Go.Proofs.YtnkcbmlobikjkaaGreatDoor

/- Layer 4: contract of rising. -/
namespace Go.Proofs.YtnkcbmlobikjkaaGreatDoor
open Go.RowKit Suf Val Go.Maps

theorem gath_start {D : DataW Value} {st : List VKS} (hu : UpK (st.map (·.2))) (hD : ∀ x, Maps.has D (.string x) = ((lookV x st).map setVal).isSome) : Gath (Maps.has D) st [] := by
  refine ⟨fun x hx => ?_, fun y hy => (by cases hy), fun y hy => Or.inl ?_, List.nodup_nil⟩
  · rw [hD x] at hx
    cases hl : lookV x st with
    | none => rw [hl] at hx; cases hx
    | some y => exact ⟨y, lookV_mem hl⟩
  · rw [hD, lookV_of hu hy]; rfl
theorem gath_end {left : Lit → Bool} {st xs : List VKS} (hu : UpK (st.map (·.2))) (h : Gath left st xs) (hl : ∀ kl, left kl = false) : xs.Perm st := by
  obtain ⟨_, h2, h3, h4⟩ := h
  refine (List.perm_ext_iff_of_nodup h4 (nodupV hu)).2 fun y => ⟨fun hy => (h2 y hy).1, fun hy => ?_⟩
  rcases h3 y hy with h | h
  · rw [hl] at h; cases h
  · exact h
theorem gath_len {left : Lit → Bool} {st xs : List VKS} (h : Gath left st xs) : xs.length ≤ st.length := by
  obtain ⟨_, h2, _, h4⟩ := h
  have dec : DecidableEq VKS := fun a b => Classical.propDecidable _
  exact nodup_len h4 fun y hy => (h2 y hy).1

set_option maxRecDepth 100000 in
set_option maxHeartbeats 8000000 in
theorem risingK_any (b base kk : Nat) (st : List VKS) (w : World) (hM : OwnM w base b st kk) (hu : UpK (st.map (·.2))) (h16 : st.length ≤ 16) (hbase : base ≤ w.heap.size) :
    Calls Tryz.prog 27 #[.map (some b)] w fun e w' => ∃ v, e = .returned v ∧ OwnK 44 w' base v st ∧ Below w.heap.size w w' := by
  have hblt : b < w.heap.size := hM.1.lt
  have HU := hide hu
  have HBS := hide hbase
  have HSETS := hide hM.2.1
  have HPW := hide hM.2.2
  obtain ⟨n, D, ho, hnk, hD⟩ := hM.1
  have HO := hide ho
  have HG0 : Hid (Gath (Maps.has D) st []) := gath_start hu fun x => (hD x).1
  have HD := hide (fun x => (hD x).2)
  clear hM ho hnk hD hu hbase
  obtain ⟨i, hi, hz0, hz1, hz2⟩ := info_partsS Tryz.infoKeyed
  have HI := hide hi
  have HZ0 := hide hz0
  have HZ1 := hide hz1
  have HZ2 := hide hz2
  clear hi hz0 hz1 hz2
  go_enter Tryz.func27, Tryz.ntmps27
  go_wp2_with (at_range; refine wpList_range_own _ rfl _ 56 rfl 9 42 law Tryz.underlying56 selfElem b n D rfl (unhide HO) ?_; intro w0 hrg0 hg0 hs0)
  have HR0 := hide hrg0
  have HB0 := hide (none_below hg0)
  clear hrg0 hg0 hs0
  go_loopw [3] (fun ks W => ∃ (left : Lit → Bool) (cnt : Nat) (xa : Option Addr) (xn xc : Nat) (xs : List VKS), ks = .slice xa xn xc ∧ Hid (W.ranges Tryz.prog 9 selfElem b w.heap.size n D left cnt) ∧ Hid (Gath left st xs) ∧ Hid (W.ownsRow (w.heap.size + 1) 44 7 (.slice xa xn xc) xn (flatK xs)) ∧ Hid (xs.length = xn) ∧ Hid (w.heap.size + 1 ≤ W.heap.size) ∧ Hid (Below w.heap.size w W))
    (fun _ W => W.rangeLeft b w.heap.size)
  case atStart => exact ⟨_, _, none, 0, 0, [], rfl, HR0, HG0, World.ownsRow_nil _ _ _ _, rfl, (unhide HR0).lt, HB0⟩
  case round =>
    obtain ⟨left, cnt, xa, xn, xc, xs, rfl, hrg, hgath, hrow, hxl, hz, hbel⟩ := hrel
    have hx16 : xn ≤ 16 := by rw [← unhide hxl]; exact Nat.le_trans (gath_len (unhide hgath)) h16
    have hrb : Hid (∀ k, (Value.slice xa xn xc).ownBlock = some k → w.heap.size + 1 ≤ k ∧ k < wr.heap.size) := (unhide hrow).lt
    go_wp2_with (at_next; refine wpList_next_ranges _ rfl _ rfl 9 law selfElem encStr (fun c : Value => c) str_inv self_inv b w.heap.size n D left cnt rfl (unhide hrg) ?_ ?_)
    · intro _ hl0
      have hperm := hide (gath_end (unhide HU) (unhide hgath) hl0)
      have hsl : Hid (∀ y ∈ xs, ∃ a n c, y.1 = .slice a n c) := fun y hy => by
        obtain ⟨a, c, e⟩ := ((unhide HSETS) y ((unhide hperm).mem_iff.1 hy)).1.strs.val
        exact ⟨a, _, c, e⟩
      clear hl0 hgath
      go_wp2_with fail
      refine (sort_any xa xn xc _ xs _ (unhide hrow) (unhide hxl) (unhide hsl) hx16).mono ?_
      rintro e w5 ⟨rfl, xs', hp', hs', hrow5, hg5⟩
      have hst : Hid (xs' = st) := sorted_is (unhide HU) (hp'.trans (unhide hperm)) hs'
      have B5 := hide ((unhide hbel).grown hg5 (unhide hbel).size (fun k hk => Nat.le_trans (Nat.le_succ _) (unhide hrb k hk).1))
      have hfin : Hid (OwnK 44 w5 base (.slice xa xn xc) st) := by
        have hlen : xn = st.length := by rw [← unhide hxl, (unhide hperm).length_eq]
        rw [unhide hst] at hrow5
        refine ⟨?_, fun y hy => ⟨((unhide HSETS) y hy).1.below (unhide B5), ((unhide HSETS) y hy).2⟩, fun y hy k hk e => ?_, unhide HPW⟩
        · have := OwnK.mono (T := 44) (w := w5) (base := w.heap.size + 1) (base' := base) (v := .slice xa xn xc) (xs := [])
          clear this
          refine ⟨by rw [flatK_len], ?_⟩
          rcases hrow5.2 with ⟨h, h'⟩ | ⟨g, cap, cur, e, hb, h'⟩
          · exact Or.inl ⟨h, by omega⟩
          · rw [← hlen]
            exact Or.inr ⟨g, cap, cur, e, Nat.le_trans (unhide HBS) (Nat.le_trans (Nat.le_succ _) hb), h'⟩
        · have h1 := (unhide hrb k hk).1
          have h2 := (own_block ((unhide HSETS) y hy).1 k e).2
          omega
      clear hp' hs' hrow5 hg5
      go_wp2_with fail
      go_ret
      exact ⟨_, rfl, unhide hfin, unhide B5⟩
    · intro x cv kl yd yp w1 cnt1 hkey hlk hv hat hrg1 hlt hg1 hs1 hen
      obtain ⟨x', ex, rfl, _⟩ := Maps.keyOf_str Tryz.underlying9 hkey
      obtain rfl : x = x' := encStr_inj ex
      obtain ⟨y, hy, hyk⟩ := (unhide hgath).1 x hlk
      have hcv : cv = setVal y := by
        have h1 := unhide HD x (setVal y) (by rw [← hyk, lookV_of (unhide HU) hy]; rfl) (.held cv)
        have h2 := hat (.held cv)
        rw [h1] at h2
        have h3 : yd = .held cv := (Prod.mk.inj (Option.some.inj hv)).1.symm
        rw [h3] at h2
        exact (DataW.held.inj h2).symm
      have hgn := hide (gath_step (unhide hgath) (uniqV (unhide HU)) hy (by rw [hyk]; exact hlk))
      rw [hyk] at hgn
      have hset := unhide HSETS y hy
      have HRG1 := hide hrg1
      have HLT := hide hlt
      have HLE := hide (unhide hrg).left_eq
      have B1 := hide (grown_below (unhide hbel) hg1 (Nat.le_refl _))
      have hrow1 := hide ((unhide hrow).kept hg1 (by
        cases hv' : (Value.slice xa xn xc).ownBlock with
        | none => exact Or.inl rfl
        | some k => exact Or.inr (fun e => by injection e with e; have := (unhide hrb k hv').1; omega)))
      have hz1 : Hid (w.heap.size + 1 ≤ w1.heap.size) := by show _ ≤ _; rw [hs1]; exact unhide hz
      have hrb1 : Hid (∀ k, (Value.slice xa xn xc).ownBlock = some k → w.heap.size + 1 ≤ k) := fun k hk => (unhide hrb k hk).1
      clear hkey hlk hv hat hrg1 hlt hg1 hs1 ex hrg hgath hrow hbel hrb hz
      obtain ⟨uy, key, ⟨miss, no, num, vals, lo, hi⟩⟩ := y
      simp only at hyk
      subst hyk
      obtain ⟨ua, uc, hue⟩ := hset.1.strs.val
      obtain ⟨un, hun⟩ : ∃ x, x = vals.length := ⟨_, rfl⟩
      simp only at hue
      rw [← hun] at hue
      clear hun hset
      subst hue hcv
      rw [enc_bytes] at hen ⊢
      unfold setVal at hen ⊢
      simp only at hen ⊢
      have hnews : Hid (∀ j u, (encK ((.slice ua un uc, (key, ⟨miss, no, num, vals, lo, hi⟩)) : VKS))[j]? = some u → ((w1.alloc (.cells #[.bool miss, .bool no, .bool num, .slice ua un uc, .int .i64 lo, .int .i64 hi] 42)).alloc (.cells #[.string (bytesT key), .bool miss, .bool no, .bool num, .slice ua un uc, .int .i64 lo, .int .i64 hi] 44)).cell? ((⟨w1.heap.size + 1, 0, none⟩ : Addr).add j) = some u) := by
        have := World.news_of_block (heap_alloc_new (w1.alloc (.cells #[.bool miss, .bool no, .bool num, .slice ua un uc, .int .i64 lo, .int .i64 hi] 42)) (.cells #[.string (bytesT key), .bool miss, .bool no, .bool num, .slice ua un uc, .int .i64 lo, .int .i64 hi] 44))
        rw [show (w1.alloc (.cells #[.bool miss, .bool no, .bool num, .slice ua un uc, .int .i64 lo, .int .i64 hi] 42)).heap.size = w1.heap.size + 1 by simp] at this
        exact this
      have hrow3 := hide (((unhide hrow1).alloc (.cells #[.bool miss, .bool no, .bool num, .slice ua un uc, .int .i64 lo, .int .i64 hi] 42)).alloc (.cells #[.string (bytesT key), .bool miss, .bool no, .bool num, .slice ua un uc, .int .i64 lo, .int .i64 hi] 44))
      have B3 := hide (chain (chain (unhide B1) (box_below (.cells #[.bool miss, .bool no, .bool num, .slice ua un uc, .int .i64 lo, .int .i64 hi] 42))) (box_below (.cells #[.string (bytesT key), .bool miss, .bool no, .bool num, .slice ua un uc, .int .i64 lo, .int .i64 hi] 44)))
      have HRG3 := hide (((unhide HRG1).alloc (.cells #[.bool miss, .bool no, .bool num, .slice ua un uc, .int .i64 lo, .int .i64 hi] 42)).alloc (.cells #[.string (bytesT key), .bool miss, .bool no, .bool num, .slice ua un uc, .int .i64 lo, .int .i64 hi] 44))
      go_wp2_with (at_builtin; refine wpList_append_lies _ rfl _ _ _ rfl (w.heap.size + 1) 44 i _ 7 64 Tryz.underlying27 (unhide HI) (unhide HZ0) (unhide HZ1) (unhide HZ2) rfl (by decide) (.slice xa xn xc) xn (flatK xs) rfl (unhide hrow3) ⟨w1.heap.size + 1, 0, none⟩ 1 1 (encK ((.slice ua un uc, (key, ⟨miss, no, num, vals, lo, hi⟩)) : VKS)) rfl rfl (unhide hnews) (encK_one rfl) (by decide) (by unfold maxLen; omega) (by omega) (by have := unhide hz1; simp; omega) (w1.heap.size + 1 + 1) (by simp) ?_; intro g cap w4 hown4 hg4 hat4 hlt4)
      have hr4 := (unhide HRG3).kept hg4 (fun e => by have := unhide hrb1 b e.symm; omega) (fun e => by have := unhide hrb1 _ e.symm; omega)
      have B4 := (unhide B3).grown hg4 (unhide B3).size (fun k hk => Nat.le_trans (Nat.le_succ _) (unhide hrb1 k hk))
      refine ⟨⟨_, cnt1, some ⟨g, 0, none⟩, xn + 1, cap, xs ++ [((.slice ua un uc, (key, ⟨miss, no, num, vals, lo, hi⟩)) : VKS)], rfl, hr4, hgn, (by rw [flatK_snoc]; exact hown4), ?_, ?_, B4⟩, ?_⟩
      · show _ = _; rw [List.length_append, unhide hxl]; rfl
      · have h1 := unhide hz1
        have h2 := hg4.size
        show _ ≤ _
        simp at h2
        omega
      · rw [hr4.left_eq, unhide HLE]; exact unhide HLT
end Go.Proofs.YtnkcbmlobikjkaaGreatDoor
