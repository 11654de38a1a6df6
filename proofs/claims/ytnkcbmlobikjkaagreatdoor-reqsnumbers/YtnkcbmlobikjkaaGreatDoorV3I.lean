/- Layer 3: contracts of rising, take, list, allBut. -/
import Derived.Test.YtnkcbmlobikjkaaGreatDoorV3H
namespace Go.Proofs.YtnkcbmlobikjkaaGreatDoor
open Go.RowKit Suf Val Go.Maps

theorem lt_le {a b : Txt} (h : lt a b = true) : decide (a ≤ b) = true := by
  unfold lt at h
  rw [Go.Proofs.bytesLess_eq, decide_eq_true_eq] at h
  exact decide_eq_true (List.le_of_lt h)
theorem sorted_rising {ss l : List Txt} (h : (rising l).Perm ss) : ss.mergeSort (fun x y => decide (x ≤ y)) = rising l := by
  have e : ss.mergeSort leB = (rising l).mergeSort leB := mergeSort_of_perm h.symm
  have e2 : (rising l).mergeSort leB = rising l := List.mergeSort_of_pairwise ((up_rising l).imp fun h => lt_le h)
  exact e.trans e2
/-- A list of texts in memory of the call's own. -/
def Own (w : World) (base : Nat) (v : Value) (l : List Txt) : Prop := w.ownsRow base 9 1 v l.length (l.map encStr) ∧ (∀ t ∈ l, short t) ∧ l.length ≤ 17592186044416
theorem enc_bytes (t : Txt) : encStr t = .string (bytesT t) := rfl
theorem Own.strs {w : World} {base : Nat} {v : Value} {l : List Txt} (h : Own w base v l) : Strs w v l := by
  obtain ⟨⟨_, h1⟩, hs, hl⟩ := h
  rcases h1 with ⟨rfl, hn⟩ | ⟨g, cap, cur, rfl, hb, hg, hc, _, hz, ht⟩
  · obtain rfl : l = [] := by cases l with | nil => rfl | cons a l => simp at hn
    exact ⟨none, 0, rfl, fun j hj => absurd hj (Nat.not_lt_zero _), by simp, by simp⟩
  · refine ⟨some ⟨g, 0, none⟩, cap, rfl, fun j hj => ⟨g, 0, rfl, ?_⟩, hl, hs⟩
    rw [Nat.mul_one] at ht hz
    have hcur : j < cur.size := by omega
    have e : (cur.toList.take l.length)[j]? = some (encStr l[j]) := by rw [ht, List.getElem?_map, List.getElem?_eq_getElem hj]; rfl
    rw [List.getElem?_take_of_lt hj] at e
    rw [Nat.zero_add]
    unfold World.cell?
    simp only [hg]
    rw [← enc_bytes, ← e]
    simp
theorem Own.mono {w : World} {base base' : Nat} {v : Value} {l : List Txt} (h : Own w base v l) (hb : base' ≤ base) : Own w base' v l := by
  obtain ⟨⟨h0, h1⟩, hs, hl⟩ := h
  refine ⟨⟨h0, ?_⟩, hs, hl⟩
  rcases h1 with h1 | ⟨g, cap, cur, e, hg, h2⟩
  · exact Or.inl h1
  · exact Or.inr ⟨g, cap, cur, e, Nat.le_trans hb hg, h2⟩
theorem Own.below {w w' : World} {base : Nat} {v : Value} {l : List Txt} (h : Own w base v l) (hb : Below w.heap.size w w') : Own w' base v l := ⟨h.1.kept (below_grownBy hb) (by
    cases hv : v.ownBlock with
    | none => exact Or.inl rfl
    | some b => exact Or.inr (by simp)), h.2⟩

set_option maxHeartbeats 1000000 in
theorem rising_any (b : Nat) (l : List Txt) (w : World) (hk : Keys w b l) (hn : (rising l).length ≤ 1000) :
    Calls Tryz.prog 94 #[.map (some b)] w fun e w' => ∃ v, e = .returned v ∧ Own w' w.heap.size v (rising l) ∧ Below w.heap.size w w' := by
  obtain ⟨n, D, ho, hD, hl, hs⟩ := hk
  have hp := keys_perm ho hD
  have hz := keys_size ho hD
  have cK := Tryz.maps_Keys_116 (some b) w
  have cS := Tryz.slices_Sorted_keys_115_116 b n D (unitElem (H := Unit)) w ho (by rw [hz]; exact Nat.le_trans hn (by decide)) (by rw [hz]; omega)
  have hfK : Fence.wide.fn 116 := trivial
  have hfS : Fence.wide.fn 115 := trivial
  have HS := hide hs
  have HP := hide hp
  have HN := hide hn
  clear ho hD hl hs hz hp hn
  refine (callsIn_wide (n := 6)).1 ?_
  refine callsIn_of_wp Tryz.func94 rfl trivial ?_ rfl
  simp only [Tryz.ntmps94, List.size_toArray, List.length_cons, List.length_nil, Nat.reduceAdd, Nat.reduceSub, Array.replicate_succ, Array.replicate_zero, List.push_toArray, List.append_toArray, List.nil_append, List.cons_append]
  gi_wp2_with (first
    | (gi_at_call 116; refine cK.mono ?_; rintro e w' ⟨rfl, rfl⟩)
    | (gi_at_call 115; refine cS.mono ?_; rintro e w' ⟨v, ss, rfl, hS, hrow, hnil, hb⟩))
  go_ret
  have e := sorted_rising ((unhide HP).trans hS.symm)
  have e2 : ss.length = (rising l).length := (hS.trans (unhide HP).symm).length_eq
  rw [e, e2] at hrow
  refine ⟨v, rfl, Own.mono (base := (w.alloc (.cells #[.map (some b)] 97)).heap.size) ⟨hrow, fun t ht => unhide HS t ((mem_rising l t).1 ht), by have := unhide HN; omega⟩ (by simp), chain (box_below _) hb⟩

/-- What is no map stays while a map turns. -/
theorem Keys.isMap {w : World} {b : Nat} {l : List Txt} (h : Keys w b l) : ∃ es c, w.heap[b]? = some (.map es c) := by
  obtain ⟨n, D, ⟨es, c, hb, _⟩, _⟩ := h; exact ⟨es, c, hb⟩
theorem cell_turn {w w' : World} {b : Nat} {l : List Txt} (hk : Keys w b l) (hg : w.grownBy w' (some b)) {p : Addr} {v : Value} (hc : w.cell? p = some v) : w'.cell? p = some v := by
  obtain ⟨es, c, hb⟩ := hk.isMap
  have hne : p.block ≠ b := fun e => by subst e; unfold World.cell? at hc; simp [hb] at hc
  have := hg.block p.block (World.block_lt_of_cell? w p hc) (fun e => hne (by injection e))
  unfold World.cell? at hc ⊢
  rw [this]; exact hc
theorem Laid.turn {w w' : World} {b : Nat} {l : List Txt} (h : Laid w) (hk : Keys w b l) (hg : w.grownBy w' (some b)) : Laid w' := by
  have ha := h.at
  obtain ⟨⟨v, h1, g1⟩, ⟨u, h2, g2⟩, h3⟩ := h
  refine ⟨⟨v, cell_turn hk hg h1, g1⟩, ⟨u, cell_turn hk hg h2, g2⟩, ?_⟩
  obtain ⟨es, c, hb⟩ := hk.isMap
  unfold Lib.TabIs World.var? at h3 ⊢
  simp only [gPow, Option.bind_some] at h3 ⊢
  have hne : 3 ≠ b := fun e => by subst e; rw [hb] at h3; simp at h3
  rw [hg.block _ ha (fun e => hne (by injection e))]; exact h3
theorem Strs.turn {w w' : World} {b : Nat} {l m : List Txt} {v : Value} (h : Strs w v m) (hk : Keys w b l) (hg : w.grownBy w' (some b)) : Strs w' v m := by
  obtain ⟨a, c, e, hc, hl, hs⟩ := h
  exact ⟨a, c, e, fun j hj => by obtain ⟨b, o, e2, h2⟩ := hc j hj; exact ⟨b, o, e2, cell_turn hk hg h2⟩, hl, hs⟩
theorem short_dec (z : Int) (h0 : -4294967296 ≤ z) (h1 : z ≤ 4294967296) : short (decZ z) := by
  have := decFuel_len 20 z.natAbs 10 (Nat.lt_of_le_of_lt (show z.natAbs ≤ 4294967296 by omega) (by decide)) (by omega)
  unfold short decZ dec
  split
  · rw [List.length_cons]; omega
  · omega

set_option maxHeartbeats 1000000 in
theorem take_any (b : Nat) (l : List Txt) (z : Int) (w : World) (hk : Keys w b l) (hL : Laid w) (h0 : -4294967296 ≤ z) (h1 : z ≤ 4294967296) :
    Calls Tryz.prog 97 #[.map (some b), .int .i64 z] w fun e w' => e = .returned (.bool (l.contains (decZ z))) ∧ Keys w' b (l.filter fun y => !(y == decZ z)) ∧ w.grownBy w' (some b) := by
  have HK := hide hk
  have HL := hide hL
  have H0 := hide1 (show -9223372036854775808 ≤ z by omega)
  have H1 := hide1 (show z ≤ 9223372036854775807 by omega)
  have HS := hide (short_dec z h0 h1)
  clear hk hL h0 h1
  obtain ⟨q, hq⟩ : ∃ q, q = l.contains (decZ z) := ⟨_, rfl⟩
  rw [← hq]
  have hQ := hide hq
  clear hq
  obtain ⟨X, hX⟩ : ∃ X, X = bytesT (decZ z) := ⟨_, rfl⟩
  have GX := hide hX
  have hkey := hide (key_of (unhide HS))
  rw [← hX] at hkey
  clear hX
  go_enter Tryz.func97, Tryz.ntmps97
  go_wp2_with fail
  refine (text_any z _ (unhide1 H0) (unhide1 H1) (unhide HL)).mono ?_
  rintro e w1 ⟨he, hw1⟩
  rw [show (ByteArray.mk (decZ z).toArray) = X from (unhide GX).symm] at he
  subst he
  have HB1 := hide hw1
  clear hw1
  go_wp2_with fail
  rw [unhide GX]
  refine (mapHas_any b l (decZ z) _ ((unhide HK).below (unhide HB1)) (unhide HS)).mono ?_
  rintro e w2 ⟨he, hw2⟩
  rw [← unhide hQ] at he
  subst he
  rw [← unhide GX]
  have HB2 := hide (chain (unhide HB1) hw2)
  clear hw2 HB1
  obtain ⟨n, D, ho, hD, hl, hs⟩ := (unhide HK).below (unhide HB2)
  have HO := hide ho
  have HD := hide hD
  have HLL := hide1 hl
  have HSS := hide hs
  clear ho hD hl hs
  go_wp2_with (at_delete; refine wpList_delete_own _ rfl _ _ 97 9 rfl 122 law Tryz.underlying97 (unitElem (H := Unit)) b n D rfl (unhide HO) _ _ rfl (unhide hkey) ?_; intro w3 hown3 hturn3)
  have HK3 : Hid (Keys w3 b (l.filter fun y => !(y == decZ z))) := ⟨_, _, hown3, del_has (unhide HD) (decZ z), Nat.le_trans (List.length_filter_le _ _) (unhide1 HLL), fun t ht => unhide HSS t (List.mem_filter.1 ht).1⟩
  have HG := hide (((below_grownBy (unhide HB2)).but (some b)).trans hturn3.grown)
  clear hown3 hturn3
  go_wp2_with fail
  go_ret
  exact ⟨rfl, unhide HK3, unhide HG⟩
end Go.Proofs.YtnkcbmlobikjkaaGreatDoor
