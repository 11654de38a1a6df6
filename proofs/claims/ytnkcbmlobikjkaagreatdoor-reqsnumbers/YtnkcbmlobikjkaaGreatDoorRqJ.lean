/- Layer 4: contract of rising. -/
import Derived.Test.YtnkcbmlobikjkaaGreatDoorRqI
namespace Go.Proofs.YtnkcbmlobikjkaaGreatDoor
open Go.RowKit Suf Val Go.Maps

theorem gath_start {D : DataW Value} {st : List VKS} (hu : UpK (st.map (·.2))) (hD : ∀ x, Maps.has D (.string x) = ((lookV x st).map setVal).isSome) : Gath (Maps.has D) st [] := by
  refine ⟨fun x hx => ?_, fun y hy => (by cases hy), fun y hy => Or.inl ?_, List.nodup_nil⟩
  · rw [hD x] at hx
    cases hl : lookV x st with
    | none => rw [hl] at hx; cases hx
    | some y => exact ⟨y, lookV_mem hl⟩
  · rw [hD, lookV_of hu hy]; rfl
theorem gath_end {left : Lit → Bool} {st xs : List VKS} (hu : UpK (st.map (·.2))) (h : Gath left st xs) (hl : ∀ kl, left kl = false) : xs.Perm st := by
  obtain ⟨_, h2, h3, h4⟩ := h
  refine (List.perm_ext_iff_of_nodup h4 (nodupV hu)).2 fun y => ⟨fun hy => (h2 y hy).1, fun hy => ?_⟩
  rcases h3 y hy with h | h
  · rw [hl] at h; cases h
  · exact h
theorem gath_len {left : Lit → Bool} {st xs : List VKS} (h : Gath left st xs) : xs.length ≤ st.length := by
  obtain ⟨_, h2, _, h4⟩ := h
  have dec : DecidableEq VKS := fun a b => Classical.propDecidable _
  exact nodup_len h4 fun y hy => (h2 y hy).1

set_option maxRecDepth 100000 in
set_option maxHeartbeats 8000000 in
theorem risingK_any (b base kk : Nat) (st : List VKS) (w : World) (hM : OwnM w base b st kk) (hu : UpK (st.map (·.2))) (h16 : st.length ≤ 16) (hbase : base ≤ w.heap.size) :
    Calls Tryz.prog 27 #[.map (some b)] w fun e w' => ∃ v, e = .returned v ∧ OwnK 44 w' base v st ∧ Below w.heap.size w w' := by
  have hblt : b < w.heap.size := hM.1.lt
  have HU := hide hu
  have HBS := hide hbase
  have HSETS := hide hM.2.1
  have HPW := hide hM.2.2
  obtain ⟨n, D, ho, hnk, hD⟩ := hM.1
  have HO := hide ho
  have HG0 : Hid (Gath (Maps.has D) st []) := gath_start hu fun x => (hD x).1
  have HD := hide (fun x => (hD x).2)
  clear hM ho hnk hD hu hbase
  obtain ⟨i, hi, hz0, hz1, hz2⟩ := info_partsS Tryz.infoKeyed
  have HI := hide hi
  have HZ0 := hide hz0
  have HZ1 := hide hz1
  have HZ2 := hide hz2
  clear hi hz0 hz1 hz2
  go_enter Tryz.func27, Tryz.ntmps27
  go_wp2_with (at_range; refine wpList_range_own _ rfl _ 56 rfl 9 42 law Tryz.underlying56 selfElem b n D rfl (unhide HO) ?_; intro w0 hrg0 hg0 hs0)
  have HR0 := hide hrg0
  have HB0 := hide (none_below hg0)
  clear hrg0 hg0 hs0
  go_loopw [3] (fun ks W => ∃ (left : Lit → Bool) (cnt : Nat) (xa : Option Addr) (xn xc : Nat) (xs : List VKS), ks = .slice xa xn xc ∧ Hid (W.ranges Tryz.prog 9 selfElem b w.heap.size n D left cnt) ∧ Hid (Gath left st xs) ∧ Hid (W.ownsRow (w.heap.size + 1) 44 7 (.slice xa xn xc) xn (flatK xs)) ∧ Hid (xs.length = xn) ∧ Hid (w.heap.size + 1 ≤ W.heap.size) ∧ Hid (Below w.heap.size w W))
    (fun _ W => W.rangeLeft b w.heap.size)
  case atStart => exact ⟨_, _, none, 0, 0, [], rfl, HR0, HG0, World.ownsRow_nil _ _ _ _, rfl, (unhide HR0).lt, HB0⟩
  case round =>
    obtain ⟨left, cnt, xa, xn, xc, xs, rfl, hrg, hgath, hrow, hxl, hz, hbel⟩ := hrel
    have hx16 : xn ≤ 16 := by rw [← unhide hxl]; exact Nat.le_trans (gath_len (unhide hgath)) h16
    have hrb : Hid (∀ k, (Value.slice xa xn xc).ownBlock = some k → w.heap.size + 1 ≤ k ∧ k < wr.heap.size) := (unhide hrow).lt
    go_wp2_with (at_next; refine wpList_next_ranges _ rfl _ rfl 9 law selfElem encStr (fun c : Value => c) str_inv self_inv b w.heap.size n D left cnt rfl (unhide hrg) ?_ ?_)
    · intro _ hl0
      have hperm := hide (gath_end (unhide HU) (unhide hgath) hl0)
      have hsl : Hid (∀ y ∈ xs, ∃ a n c, y.1 = .slice a n c) := fun y hy => by
        obtain ⟨a, c, e⟩ := ((unhide HSETS) y ((unhide hperm).mem_iff.1 hy)).1.strs.val
        exact ⟨a, _, c, e⟩
      clear hl0 hgath
      go_wp2_with fail
      refine (sort_any xa xn xc _ xs _ (unhide hrow) (unhide hxl) (unhide hsl) hx16).mono ?_
      rintro e w5 ⟨rfl, xs', hp', hs', hrow5, hg5⟩
      have hst : Hid (xs' = st) := sorted_is (unhide HU) (hp'.trans (unhide hperm)) hs'
      have B5 := hide ((unhide hbel).grown hg5 (unhide hbel).size (fun k hk => Nat.le_trans (Nat.le_succ _) (unhide hrb k hk).1))
      have hfin : Hid (OwnK 44 w5 base (.slice xa xn xc) st) := by
        have hlen : xn = st.length := by rw [← unhide hxl, (unhide hperm).length_eq]
        rw [unhide hst] at hrow5
        refine ⟨?_, fun y hy => ⟨((unhide HSETS) y hy).1.below (unhide B5), ((unhide HSETS) y hy).2⟩, fun y hy k hk e => ?_, unhide HPW⟩
        · have := OwnK.mono (T := 44) (w := w5) (base := w.heap.size + 1) (base' := base) (v := .slice xa xn xc) (xs := [])
          clear this
          refine ⟨by rw [flatK_len], ?_⟩
          rcases hrow5.2 with ⟨h, h'⟩ | ⟨g, cap, cur, e, hb, h'⟩
          · exact Or.inl ⟨h, by omega⟩
          · rw [← hlen]
            exact Or.inr ⟨g, cap, cur, e, Nat.le_trans (unhide HBS) (Nat.le_trans (Nat.le_succ _) hb), h'⟩
        · have h1 := (unhide hrb k hk).1
          have h2 := (own_block ((unhide HSETS) y hy).1 k e).2
          omega
      clear hp' hs' hrow5 hg5
      go_wp2_with fail
      go_ret
      exact ⟨_, rfl, unhide hfin, unhide B5⟩
    · intro x cv kl yd yp w1 cnt1 hkey hlk hv hat hrg1 hlt hg1 hs1 hen
      obtain ⟨x', ex, rfl, _⟩ := Maps.keyOf_str Tryz.underlying9 hkey
      obtain rfl : x = x' := encStr_inj ex
      obtain ⟨y, hy, hyk⟩ := (unhide hgath).1 x hlk
      have hcv : cv = setVal y := by
        have h1 := unhide HD x (setVal y) (by rw [← hyk, lookV_of (unhide HU) hy]; rfl) (.held cv)
        have h2 := hat (.held cv)
        rw [h1] at h2
        have h3 : yd = .held cv := (Prod.mk.inj (Option.some.inj hv)).1.symm
        rw [h3] at h2
        exact (DataW.held.inj h2).symm
      have hgn := hide (gath_step (unhide hgath) (uniqV (unhide HU)) hy (by rw [hyk]; exact hlk))
      rw [hyk] at hgn
      have hset := unhide HSETS y hy
      have HRG1 := hide hrg1
      have HLT := hide hlt
      have HLE := hide (unhide hrg).left_eq
      have B1 := hide (grown_below (unhide hbel) hg1 (Nat.le_refl _))
      have hrow1 := hide ((unhide hrow).kept hg1 (by
        cases hv' : (Value.slice xa xn xc).ownBlock with
        | none => exact Or.inl rfl
        | some k => exact Or.inr (fun e => by injection e with e; have := (unhide hrb k hv').1; omega)))
      have hz1 : Hid (w.heap.size + 1 ≤ w1.heap.size) := by show _ ≤ _; rw [hs1]; exact unhide hz
      have hrb1 : Hid (∀ k, (Value.slice xa xn xc).ownBlock = some k → w.heap.size + 1 ≤ k) := fun k hk => (unhide hrb k hk).1
      clear hkey hlk hv hat hrg1 hlt hg1 hs1 ex hrg hgath hrow hbel hrb hz
      obtain ⟨uy, key, ⟨miss, no, num, vals, lo, hi⟩⟩ := y
      simp only at hyk
      subst hyk
      obtain ⟨ua, uc, hue⟩ := hset.1.strs.val
      obtain ⟨un, hun⟩ : ∃ x, x = vals.length := ⟨_, rfl⟩
      simp only at hue
      rw [← hun] at hue
      clear hun hset
      subst hue hcv
      rw [enc_bytes] at hen ⊢
      unfold setVal at hen ⊢
      simp only at hen ⊢
      have hnews : Hid (∀ j u, (encK ((.slice ua un uc, (key, ⟨miss, no, num, vals, lo, hi⟩)) : VKS))[j]? = some u → ((w1.alloc (.cells #[.bool miss, .bool no, .bool num, .slice ua un uc, .int .i64 lo, .int .i64 hi] 42)).alloc (.cells #[.string (bytesT key), .bool miss, .bool no, .bool num, .slice ua un uc, .int .i64 lo, .int .i64 hi] 44)).cell? ((⟨w1.heap.size + 1, 0, none⟩ : Addr).add j) = some u) := by
        have := World.news_of_block (heap_alloc_new (w1.alloc (.cells #[.bool miss, .bool no, .bool num, .slice ua un uc, .int .i64 lo, .int .i64 hi] 42)) (.cells #[.string (bytesT key), .bool miss, .bool no, .bool num, .slice ua un uc, .int .i64 lo, .int .i64 hi] 44))
        rw [show (w1.alloc (.cells #[.bool miss, .bool no, .bool num, .slice ua un uc, .int .i64 lo, .int .i64 hi] 42)).heap.size = w1.heap.size + 1 by simp] at this
        exact this
      have hrow3 := hide (((unhide hrow1).alloc (.cells #[.bool miss, .bool no, .bool num, .slice ua un uc, .int .i64 lo, .int .i64 hi] 42)).alloc (.cells #[.string (bytesT key), .bool miss, .bool no, .bool num, .slice ua un uc, .int .i64 lo, .int .i64 hi] 44))
      have B3 := hide (chain (chain (unhide B1) (box_below (.cells #[.bool miss, .bool no, .bool num, .slice ua un uc, .int .i64 lo, .int .i64 hi] 42))) (box_below (.cells #[.string (bytesT key), .bool miss, .bool no, .bool num, .slice ua un uc, .int .i64 lo, .int .i64 hi] 44)))
      have HRG3 := hide (((unhide HRG1).alloc (.cells #[.bool miss, .bool no, .bool num, .slice ua un uc, .int .i64 lo, .int .i64 hi] 42)).alloc (.cells #[.string (bytesT key), .bool miss, .bool no, .bool num, .slice ua un uc, .int .i64 lo, .int .i64 hi] 44))
      go_wp2_with (at_builtin; refine wpList_append_lies _ rfl _ _ _ rfl (w.heap.size + 1) 44 i _ 7 64 Tryz.underlying27 (unhide HI) (unhide HZ0) (unhide HZ1) (unhide HZ2) rfl (by decide) (.slice xa xn xc) xn (flatK xs) rfl (unhide hrow3) ⟨w1.heap.size + 1, 0, none⟩ 1 1 (encK ((.slice ua un uc, (key, ⟨miss, no, num, vals, lo, hi⟩)) : VKS)) rfl rfl (unhide hnews) (encK_one rfl) (by decide) (by unfold maxLen; omega) (by omega) (by have := unhide hz1; simp; omega) (w1.heap.size + 1 + 1) (by simp) ?_; intro g cap w4 hown4 hg4 hat4 hlt4)
      have hr4 := (unhide HRG3).kept hg4 (fun e => by have := unhide hrb1 b e.symm; omega) (fun e => by have := unhide hrb1 _ e.symm; omega)
      have B4 := (unhide B3).grown hg4 (unhide B3).size (fun k hk => Nat.le_trans (Nat.le_succ _) (unhide hrb1 k hk))
      refine ⟨⟨_, cnt1, some ⟨g, 0, none⟩, xn + 1, cap, xs ++ [((.slice ua un uc, (key, ⟨miss, no, num, vals, lo, hi⟩)) : VKS)], rfl, hr4, hgn, (by rw [flatK_snoc]; exact hown4), ?_, ?_, B4⟩, ?_⟩
      · show _ = _; rw [List.length_append, unhide hxl]; rfl
      · have h1 := unhide hz1
        have h2 := hg4.size
        show _ ≤ _
        simp at h2
        omega
      · rw [hr4.left_eq, unhide HLE]; exact unhide HLT
end Go.Proofs.YtnkcbmlobikjkaaGreatDoor
