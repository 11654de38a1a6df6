/- Layer 3: contracts of gathered, rising, take. -/
import Derived.Test.YtnkcbmlobikjkaaGreatDoorV3G
namespace Go.Proofs.YtnkcbmlobikjkaaGreatDoor
open Go.RowKit Suf Val Go.Maps

/-- Lists of texts, one behind the other in memory: each a slice and what it holds. -/
def Lists (w : World) (B : Nat) (ls : List (Value × List Txt)) : Prop := ∀ i (h : i < ls.length), w.cell? ⟨B, i, none⟩ = some ls[i].1 ∧ Strs w ls[i].1 ls[i].2
theorem Lists.below {w w' : World} {B : Nat} {ls : List (Value × List Txt)} (h : Lists w B ls) (hb : Below w.heap.size w w') : Lists w' B ls := fun i hi => ⟨cell_kept hb (h i hi).1, (h i hi).2.below hb⟩
def joined (ls : List (Value × List Txt)) : List Txt := ls.flatMap (·.2)
theorem joined_next (ls : List (Value × List Txt)) (i : Nat) (h : i < ls.length) : joined (ls.take (i + 1)) = joined (ls.take i) ++ ls[i].2 := by
  unfold joined; rw [List.take_add_one, List.getElem?_eq_getElem h, List.flatMap_append]; simp
theorem joined_len (ls : List (Value × List Txt)) (i : Nat) : (joined (ls.take i)).length ≤ (joined ls).length := by
  have : joined ls = joined (ls.take i) ++ joined (ls.drop i) := by unfold joined; rw [← List.flatMap_append, List.take_append_drop]
  rw [this, List.length_append]; omega
theorem take_next (l : List Txt) (k : Nat) (h : k < l.length) : l.take (k + 1) = l.take k ++ [l[k]] := by
  rw [List.take_add_one, List.getElem?_eq_getElem h]; rfl
theorem grown_below {w W W1 : World} {b : Nat} (h : Below w.heap.size w W) (hg : W.grownBy W1 (some b)) (hb : w.heap.size ≤ b) : Below w.heap.size w W1 := h.grown hg h.size (fun k hk => by cases hk; exact hb)
theorem Keys.put {W W1 : World} {b n : Nat} {D : DataW Unit} {l : List Txt} {t : Txt} (ho : W.ownsMap Tryz.prog 9 (unitElem (H := Unit)) b n D) (hD : ∀ x, Maps.has D (.string x) = true ↔ x ∈ l) (hl : l.length < 70368744177664) (hs : ∀ t ∈ l, Go.Proofs.YtnkcbmlobikjkaaGreatDoor.short t) (ht : Go.Proofs.YtnkcbmlobikjkaaGreatDoor.short t)
    (h1 : W1.ownsMap Tryz.prog 9 (unitElem (H := Unit)) b (Maps.size D + 1) (D.put (.string t) (.agg []))) : Keys W1 b (l ++ [t]) :=
  ⟨_, _, h1, put_has ho.isMap hD t _, by rw [List.length_append]; simp; omega, fun u hu => by
    rcases List.mem_append.1 hu with h | h
    · exact hs u h
    · simp at h; subst h; exact ht⟩

set_option maxRecDepth 100000 in
set_option maxHeartbeats 4000000 in
theorem gathered_any (B : Nat) (ls : List (Value × List Txt)) (w : World) (hls : Lists w B ls) (hj : (joined ls).length ≤ 70368744177664) (hn : ls.length ≤ 1000) :
    Calls Tryz.prog 70 #[.slice (some ⟨B, 0, none⟩) ls.length ls.length] w fun e w' => ∃ b, e = .returned (.map (some b)) ∧ Keys w' b (joined ls) ∧ w.heap.size ≤ b ∧ Below w.heap.size w w' := by
  have HLS := hide hls
  have HJ := hide1 hj
  clear hls hj
  obtain ⟨m, hm⟩ : ∃ m, m = ls.length := ⟨_, rfl⟩
  rw [← hm] at hn ⊢
  have HM := hide hm
  clear hm
  have hmm := @run_makeMap Tryz.prog
  go_enter Tryz.func70, Tryz.ntmps70
  go_wp2_with fail
  go_loopw [11] (fun i W => ∃ k : Nat, k ≤ m ∧ i = .int .i64 k ∧ Hid (Below w.heap.size w W) ∧ Hid (Keys W w.heap.size (joined (ls.take k)))) (fun i _ => m - (intOf i).toNat)
  case atStart => exact ⟨0, Nat.zero_le _, rfl, box_below _, keys_new w⟩
  case round =>
    obtain ⟨k, hk, rfl, hbel, hkeys⟩ := hrel
    by_cases hlt : k < m
    · have hlk : k < ls.length := by rw [← unhide HM]; exact hlt
      obtain ⟨hc0, hst⟩ := unhide HLS k hlk
      have hc := cell_kept (unhide hbel) hc0
      clear hc0
      obtain ⟨v, hv⟩ : ∃ v, v = ls[k].1 := ⟨_, rfl⟩
      obtain ⟨l, hl⟩ : ∃ l, l = ls[k].2 := ⟨_, rfl⟩
      rw [← hv] at hc hst
      rw [← hl] at hst
      have hjn : Hid (joined (ls.take (k + 1)) = joined (ls.take k) ++ l) := by
        show _ = _; rw [hl]; exact joined_next ls k hlk
      have hjl : Hid (Unit → (joined (ls.take (k + 1))).length ≤ 70368744177664) := hide1 (Nat.le_trans (joined_len ls (k + 1)) (unhide1 HJ))
      obtain ⟨pre, hpre⟩ : ∃ pre, pre = joined (ls.take k) := ⟨_, rfl⟩
      rw [← hpre] at hjn hkeys
      clear hpre hv hl hlk
      have hlen := hst.len
      have HS := hide hst.short
      rcases hst.open with ⟨a, c, rfl, rfl⟩ | ⟨b, o, c, hpos, rfl, hcell⟩
      · clear hst
        go_wp2_with fail
        go_loop [17] (fun i => i = .int .i64 0) (fun _ => 0)
        case atStart => rfl
        case round =>
          subst hrel
          go_wp2_with fail
          go_roundw
          case rel => exact ⟨k + 1, by omega, by go_num, hbel, by show Keys _ _ _; rw [unhide hjn, List.append_nil]; exact unhide hkeys⟩
          case measure => simp [intOf]; omega
      · have HC := hide hcell
        clear hst hcell
        obtain ⟨n, hnn⟩ : ∃ n, n = l.length := ⟨_, rfl⟩
        rw [← hnn] at hlen hpos hc
        have HN := hide hnn
        clear hnn
        go_wp2_with fail
        go_loopw [17] (fun i W => ∃ j : Nat, j ≤ n ∧ i = .int .i64 j ∧ Hid (Below w.heap.size w W) ∧ Hid (Keys W w.heap.size (pre ++ l.take j))) (fun i _ => n - (intOf i).toNat)
        case atStart => exact ⟨0, Nat.zero_le _, rfl, hbel, by show Keys _ _ _; rw [List.take_zero, List.append_nil]; exact unhide hkeys⟩
        case round =>
          clear hbel hkeys hc
          obtain ⟨j, hj, rfl, hbel, hkeys⟩ := hrel
          by_cases hlt2 : j < n
          · have hlj : j < l.length := by rw [← unhide HN]; exact hlt2
            have hc := cell_kept (unhide hbel) (unhide HC j hlj)
            have hst : Hid (short l[j]) := unhide HS _ (List.getElem_mem hlj)
            have htk := hide (take_next l j hlj)
            have hpl : Hid (Unit → (pre ++ l.take j).length < 70368744177664) := hide1 (by
              have h1 := unhide1 hjl
              rw [unhide hjn, List.length_append] at h1
              rw [List.length_append, List.length_take]
              omega)
            obtain ⟨t, ht⟩ : ∃ t, t = l[j] := ⟨_, rfl⟩
            rw [← ht] at hc hst htk
            clear ht hlj
            obtain ⟨X, hX⟩ : ∃ X, X = bytesT t := ⟨_, rfl⟩
            have hkey := hide (key_of (unhide hst))
            rw [← hX] at hkey hc
            clear hX
            obtain ⟨n0, D, ho0, hD, hll, hss⟩ := unhide hkeys
            have ho := hide (own_size ho0)
            have hD1 := hide hD
            have hss1 := hide hss
            have hsz : Hid (Maps.size D < maxLen) := by
              show _ < _
              have := unhide1 hpl
              rw [keys_size ho0 hD]
              exact Nat.lt_of_le_of_lt (rising_le _) (Nat.lt_trans this (by decide))
            clear ho0 hD hll hss hkeys
            go_wp2_with (at_mapUpdate; refine wpList_mapUpdate_own _ rfl _ _ _ 97 rfl 9 122 law Tryz.underlying97 (unitElem (H := Unit)) w.heap.size (Maps.size D) D rfl (unhide ho) (unhide hsz) _ _ _ rfl rfl (unhide hkey) _ [] unitElem_mk ?_; intro w1 hown1 hgrow1)
            have hk1 : Hid (Keys w1 w.heap.size (pre ++ l.take (j + 1))) := by
              show Keys _ _ _
              rw [unhide htk, ← List.append_assoc]
              exact Keys.put (unhide ho) (unhide hD1) (unhide1 hpl) (unhide hss1) (unhide hst) hown1
            have hb1 := hide (grown_below (unhide hbel) hgrow1 (Nat.le_refl _))
            clear hown1 hgrow1 hc
            go_roundw
            case rel => exact ⟨j + 1, by omega, by go_num, hb1, hk1⟩
            case measure => simp [intOf]; omega
          · obtain rfl : j = n := by omega
            have hk1 : Hid (Keys wr w.heap.size (joined (ls.take (k + 1)))) := by
              show Keys _ _ _
              have := unhide hkeys
              rw [List.take_of_length_le (by rw [← unhide HN]; exact Nat.le_refl _)] at this
              rw [unhide hjn]; exact this
            clear hkeys
            go_wp2_with fail
            go_roundw
            case rel => exact ⟨k + 1, by omega, by go_num, hbel, hk1⟩
            case measure => simp [intOf]; omega
    · obtain rfl : k = m := by omega
      go_wp2_with fail
      go_ret
      refine ⟨w.heap.size, rfl, ?_, Nat.le_refl _, unhide hbel⟩
      have := unhide hkeys
      rw [List.take_of_length_le (by rw [← unhide HM]; exact Nat.le_refl _)] at this
      exact this

end Go.Proofs.YtnkcbmlobikjkaaGreatDoor
