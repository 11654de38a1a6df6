/- Layer 3: contracts of keep, spelled, and of the judges that keep is handed. -/
import Derived.Test.YtnkcbmlobikjkaaGreatDoorV3J
namespace Go.Proofs.YtnkcbmlobikjkaaGreatDoor
open Go.RowKit Suf Val Go.Maps

theorem unit_inv (v : Value) (y : DataW Unit × List MemPlace) (h : unitElem v = some y) : ∃ c : Unit, v = (fun _ : Unit => Value.agg #[]) c := ⟨(), (unitElem_inv h).1⟩
theorem str_inv (key : Value) (kl : Lit) (h : keyOf Tryz.prog 9 key = some kl) : ∃ x, key = encStr x := by
  obtain ⟨x, hx, _⟩ := Maps.keyOf_str Tryz.underlying9 h; exact ⟨x, hx⟩
/-- What the map holds while it is gone through: what is wanted, or still to come. -/
def Mid (D : DataW Unit) (left : Lit → Bool) (l : List Txt) (p : Txt → Bool) : Prop := ∀ x, Maps.has D (.string x) = true ↔ x ∈ l ∧ (left (.string x) = true ∨ p x = true)
theorem mid_stays {D : DataW Unit} {left : Lit → Bool} {l : List Txt} {p : Txt → Bool} (h : Mid D left l p) {x : Txt} (hp : p x = true) : Mid D (fun z => left z && !z.sameKey (.string x)) l p := fun y => by
  rw [h y]
  by_cases e : y = x
  · subst e; simp [hp]
  · simp [Lit.sameKey, e]
theorem mid_struck {D : DataW Unit} {left : Lit → Bool} {l : List Txt} {p : Txt → Bool} (h : Mid D left l p) {x : Txt} (hp : p x = false) : Mid (D.del (.string x)) (fun z => left z && !z.sameKey (.string x)) l p := fun y => by
  by_cases e : y = x
  · subst e; rw [has_del_same]; simp [Lit.sameKey, hp]
  · rw [has_del_other (fun c => e (by injection c)), h y]; simp [Lit.sameKey, e]

set_option maxRecDepth 100000 in
set_option maxHeartbeats 4000000 in
theorem keep_any (g : Nat) (lb : Array Value) (p : Txt → Bool) (eg : ∀ args w, (callFunc g args).run Tryz.prog w = .ok (.enter g args) w) (b : Nat) (l : List Txt) (w : World) (hk : Keys w b l) (hp : Pred g lb p (fun W => w.grownBy W (some b))) :
    Calls Tryz.prog 95 #[.map (some b), .func (.func g) #[] lb] w fun e w' => e = .returned (.tuple #[]) ∧ Keys w' b (l.filter p) ∧ w.grownBy w' (some b) := by
  have hlt0 := hide hk.lt
  obtain ⟨n, D0, ho, hD, hl, hs⟩ := hk
  have HL := hide1 hl
  have HS := hide hs
  have HP := hide hp
  have HD := hide hD
  have HO := hide ho
  clear hl hs hp hD ho
  go_enter Tryz.func95, Tryz.ntmps95
  go_wp2_with (at_range; refine wpList_range_own _ rfl _ 97 rfl 9 122 law Tryz.underlying97 (unitElem (H := Unit)) b n D0 rfl (unhide HO) ?_; intro w0 hrg0 hg0 hs0)
  go_frame
  have HR0 := hide hrg0
  have HG0 := hide hg0
  clear hrg0 hg0 hs0
  go_loopw [4] (fun _ wr => ∃ (left : Lit → Bool) (cnt : Nat) (D : DataW Unit), Hid (wr.ranges Tryz.prog 9 (unitElem (H := Unit)) b w.heap.size n D left cnt) ∧ Hid (Mid D left l p) ∧ Hid (w.grownBy wr (some b)))
    (fun _ wr => wr.rangeLeft b w.heap.size)
  case atStart => exact ⟨_, _, _, HR0, fun x => ⟨fun h => ⟨(unhide HD x).1 h, Or.inl h⟩, fun h => (unhide HD x).2 h.1⟩, (unhide HG0).but _⟩
  case round =>
    obtain ⟨left, cnt, D, hrg, hmid, hgw⟩ := hrel
    go_wp2_with (at_next; refine wpList_next_ranges _ rfl _ rfl 9 law (unitElem (H := Unit)) encStr (fun _ : Unit => Value.agg #[]) str_inv unit_inv b w.heap.size n D left cnt rfl (unhide hrg) ?_ ?_)
    · intro _ hl0
      have hfin : Hid (Keys wr b (l.filter p)) := ⟨n, D, (unhide hrg).owns, fun x => by rw [unhide hmid x, hl0, List.mem_filter]; simp, Nat.le_trans (List.length_filter_le _ _) (unhide1 HL), fun t ht => unhide HS t (List.mem_filter.1 ht).1⟩
      clear hl0
      go_wp2_with fail
      go_end0
      exact ⟨rfl, unhide hfin, unhide hgw⟩
    · intro x kl yd yp w1 cnt1 hkey hlk hv hat hrg1 hlt hg1 hs1 hen
      obtain ⟨x', ex, rfl, _⟩ := Maps.keyOf_str Tryz.underlying9 hkey
      obtain rfl : x = x' := encStr_inj ex
      have hmem : x ∈ l := ((unhide hmid x).1 (has_true_of_atKey hat)).1
      have hsx := hide (unhide HS x hmem)
      have hgw1 := hide ((unhide hgw).andThen hg1 (fun j hj => by cases hj; exact Or.inl (Nat.le_refl _)))
      have HK := hide hkey
      have HG1 := hide hrg1
      have HLT := hide hlt
      clear hkey hlk hv hat hrg1 hlt hg1 hs1 ex hmem
      obtain ⟨q, hq⟩ : ∃ q, q = p x := ⟨_, rfl⟩
      have hQ := hide hq
      have cp : Calls Tryz.prog g (#[encStr x] ++ lb) w1 fun e w' => e = .returned (.bool q) ∧ Below w1.heap.size w1 w' := by
        rw [hq]; exact unhide HP w1 x (unhide hsx) (unhide hgw1)
      clear hq
      obtain ⟨V, hV⟩ : ∃ V, V = encStr x := ⟨_, rfl⟩
      rw [← hV] at hen cp ⊢
      have GV := hide hV
      have HK2 : Hid (keyOf Tryz.prog 9 V = some (.string x)) := by rw [hV]; exact unhide HK
      clear hV
      cases q
      · go_wp2_with (first
          | (go_at_fn g; refine cp.mono ?_; rintro e w2 ⟨rfl, hw2⟩; have HB2 := hide (below_grownBy hw2); clear hw2)
          | (at_delete; refine wpList_delete_ranges _ rfl _ _ 97 9 rfl 122 law Tryz.underlying97 (unitElem (H := Unit)) b w.heap.size n D _ cnt1 rfl ((unhide HG1).kept (unhide HB2) (by simp) (by simp)) _ _ rfl (unhide HK2) ?_; intro w3 cnt3 hrg3 hle hturn; go_frame))
        rw [strike_twice] at hrg3
        go_roundw
        case rel => exact ⟨_, cnt3, _, hrg3, mid_struck (unhide hmid) (unhide hQ).symm, ((unhide hgw1).andThen (unhide HB2) (fun j hj => by cases hj)).andThen hturn.grown (fun j hj => by cases hj; exact Or.inr rfl)⟩
        case measure => rw [hrg3.left_eq, (unhide hrg).left_eq]; have := unhide HLT; omega
      · go_wp2_with (first
          | (go_at_fn g; refine cp.mono ?_; rintro e w2 ⟨rfl, hw2⟩; have HB2 := hide (below_grownBy hw2); clear hw2))
        have hrg2 := (unhide HG1).kept (unhide HB2) (by simp) (by simp)
        go_roundw
        case rel => exact ⟨_, cnt1, _, hrg2, mid_stays (unhide hmid) (unhide hQ).symm, (unhide hgw1).andThen (unhide HB2) (fun j hj => by cases hj)⟩
        case measure => rw [hrg2.left_eq, (unhide hrg).left_eq]; exact unhide HLT


theorem judge_between (B1 B2 : Nat) (lo hi : Int) (I : World → Prop) (hI : ∀ W, I W → Laid W ∧ W.cell? ⟨B1, 0, none⟩ = some (.int .i64 lo) ∧ W.cell? ⟨B2, 0, none⟩ = some (.int .i64 hi)) :
    Pred 96 #[.pointer (some ⟨B1, 0, none⟩), .pointer (some ⟨B2, 0, none⟩)] (betw lo hi) I := by
  intro W t ht hW
  obtain ⟨hL, hc1, hc2⟩ := hI W hW
  have HL := hide hL
  have HT := hide ht
  obtain ⟨r, hr⟩ : ∃ r, r = betw lo hi t := ⟨_, rfl⟩
  rw [← hr]
  have HR := hide hr
  clear hL ht hr hI hW
  show Calls Tryz.prog 96 #[.string (bytesT t), .pointer (some ⟨B1, 0, none⟩), .pointer (some ⟨B2, 0, none⟩)] W _
  go_enter Tryz.func96, Tryz.ntmps96
  go_wp2_with fail
  refine (between_any (bytesT t) _ _ _ (short_size (unhide HT)) (unhide HL)).mono ?_
  rintro e w1 ⟨he, hw1⟩
  rw [bytesT_list, ← unhide HR] at he
  subst he
  have HB := hide hw1
  clear hw1
  go_wp2_with fail
  go_ret
  exact ⟨rfl, unhide HB⟩
theorem enters_between : ∀ args w, (callFunc 96 args).run Tryz.prog w = .ok (.enter 96 args) w := enters_of Tryz.func96 (by kernel_rfl) rfl
theorem judge_has (B : Nat) (miss no num : Bool) (v : Value) (l : List Txt) (lo hi : Int) (hu : rises l = true) (I : World → Prop) (hI : ∀ W, I W → Laid W ∧ Six W B (.bool miss) (.bool no) (.bool num) v (.int .i64 lo) (.int .i64 hi) ∧ Strs W v l) :
    Pred 99 #[.pointer (some ⟨B, 0, none⟩)] (hasP no num l lo hi) I := by
  intro W t ht hW
  obtain ⟨hL, hS, hV⟩ := hI W hW
  have HL := hide hL
  have HT := hide ht
  have HU := hide hu
  have HV := hide hV
  obtain ⟨a, c, rfl⟩ := hV.val
  obtain ⟨k0, k1, k2, k3, k4, k5⟩ := hS
  obtain ⟨r, hr⟩ : ∃ r, r = hasP no num l lo hi t := ⟨_, rfl⟩
  rw [← hr]
  have HR := hide hr
  clear hL ht hr hI hW hu hV
  obtain ⟨n, hn⟩ : ∃ n, n = l.length := ⟨_, rfl⟩
  have HN := hide hn
  rw [← hn] at k3
  clear hn
  show Calls Tryz.prog 99 #[.string (bytesT t), .pointer (some ⟨B, 0, none⟩)] W _
  obtain ⟨X, hX⟩ : ∃ X, X = bytesT t := ⟨_, rfl⟩
  rw [← hX]
  have GX := hide hX
  clear hX
  go_enter Tryz.func99, Tryz.ntmps99
  go_wp2_with fail
  rw [unhide GX]
  refine (hasIn_any _ _ _ _ l _ _ t _ (unhide HL) (by rw [unhide HN]; exact unhide HV) (unhide HU) (unhide HT)).mono ?_
  rintro e w1 ⟨he, hw1⟩
  rw [← unhide HR] at he
  subst he
  have HB := hide hw1
  clear hw1
  go_wp2_with fail
  go_ret
  exact ⟨rfl, unhide HB⟩
theorem enters_has : ∀ args w, (callFunc 99 args).run Tryz.prog w = .ok (.enter 99 args) w := enters_of Tryz.func99 (by kernel_rfl) rfl

/-- The numbers from one on, so many of them, but some: their texts. -/
def spell (lo : Int) (k : Nat) (l : List Txt) : List Txt := ((ints lo k).map decZ).filter fun t => !l.contains t
theorem spell_next (lo : Int) (k : Nat) (l : List Txt) : spell lo (k + 1) l = spell lo k l ++ (if l.contains (decZ (lo + k)) = true then [] else [decZ (lo + k)]) := by
  unfold spell ints
  rw [List.range_succ, List.map_append, List.map_append, List.filter_append]
  congr 1
  rw [List.map_singleton, List.map_singleton, List.filter_cons, List.filter_nil]
  cases l.contains (decZ (lo + k)) <;> rfl
theorem spell_len (lo : Int) (k : Nat) (l : List Txt) : (spell lo k l).length ≤ k := by
  unfold spell
  refine Nat.le_trans (List.length_filter_le _ _) ?_
  unfold ints; simp

set_option maxRecDepth 100000 in
set_option maxHeartbeats 4000000 in
theorem spelled_any (lo hi : Int) (b : Nat) (l : List Txt) (w : World) (hk : Keys w b l) (hL : Laid w) (h0 : -4294967296 ≤ lo) (h1 : hi ≤ 4294967295) (h2 : lo ≤ 4294967296) (h3 : hi - lo ≤ 1000) :
    Calls Tryz.prog 98 #[.int .i64 lo, .int .i64 hi, .map (some b)] w fun e w' => ∃ b', e = .returned (.map (some b')) ∧ Keys w' b' (spell lo (hi - lo + 1).toNat l) ∧ w.heap.size ≤ b' ∧ Below w.heap.size w w' := by
  have HK := hide hk
  have HL := hide hL
  have H0 := hide1 h0
  have H1 := hide1 h1
  have H2 := hide1 h2
  have H3 := hide1 h3
  clear hk hL h0 h1 h2 h3
  have hmm := @run_makeMap Tryz.prog
  obtain ⟨m, hm⟩ : ∃ m, m = (hi - lo + 1).toNat := ⟨_, rfl⟩
  rw [← hm]
  have HM := hide1 hm
  have hm1 : m ≤ 1001 := by have := unhide1 H3; omega
  clear hm
  go_enter Tryz.func98, Tryz.ntmps98
  go_wp2_with fail
  go_loopw [8] (fun i W => ∃ (k : Nat) (z : Int), k ≤ m ∧ z = lo + k ∧ i = .int .i64 z ∧ Hid (Below w.heap.size w W) ∧ Hid (Keys W w.heap.size (spell lo k l))) (fun i _ => (lo + m - intOf i).toNat)
  case atStart => exact ⟨0, lo, Nat.zero_le _, by omega, rfl, box_below _, keys_new w⟩
  case round =>
    obtain ⟨k, z, hk, hz, rfl, hbel, hkeys⟩ := hrel
    have HZ := hide1 hz
    clear hz
    by_cases hlt : k < m
    · have hle : z ≤ hi := by have := unhide1 HZ; have := unhide1 HM; omega
      have zb : Hid (Unit → (-4294967296 ≤ z ∧ z ≤ 4294967296)) := hide1 (by have := unhide1 HZ; have := unhide1 H0; have := unhide1 H1; omega)
      have hwz := wrap_small (z + 1) (by have := unhide1 zb; omega) (by have := unhide1 zb; omega)
      obtain ⟨q, hq⟩ : ∃ q, q = l.contains (decZ z) := ⟨_, rfl⟩
      have hQ := hide hq
      clear hq
      have hsh := hide (short_dec z (unhide1 zb).1 (unhide1 zb).2)
      obtain ⟨X, hX⟩ : ∃ X, X = bytesT (decZ z) := ⟨_, rfl⟩
      have GX := hide hX
      have hkey := hide (key_of (unhide hsh))
      rw [← hX] at hkey
      clear hX
      go_wp2_with fail
      refine (text_any z _ (by have := unhide1 zb; omega) (by have := unhide1 zb; omega) ((unhide HL).below (unhide hbel))).mono ?_
      rintro e w1 ⟨he, hw1⟩
      rw [show (ByteArray.mk (decZ z).toArray) = X from (unhide GX).symm] at he
      subst he
      have HB1 := hide (chain (unhide hbel) hw1)
      have HK1 := hide ((unhide hkeys).below hw1)
      clear hw1 hbel hkeys
      go_wp2_with fail
      rw [unhide GX]
      refine (mapHas_any b l (decZ z) _ ((unhide HK).below (unhide HB1)) (unhide hsh)).mono ?_
      rintro e w2 ⟨he, hw2⟩
      rw [← unhide hQ] at he
      subst he
      rw [← unhide GX]
      have HB2 := hide (chain (unhide HB1) hw2)
      have HK2 := hide ((unhide HK1).below hw2)
      clear hw2 HB1 HK1
      cases q
      · obtain ⟨n0, D, ho0, hD, hll, hss⟩ := unhide HK2
        have ho := hide (own_size ho0)
        have hD1 := hide hD
        have hss1 := hide hss
        have hpl : Hid (Unit → (spell lo k l).length < 70368744177664) := hide1 (Nat.lt_of_le_of_lt (spell_len lo k l) (by omega))
        have hsz : Hid (Maps.size D < maxLen) := by
          show _ < _
          rw [keys_size ho0 hD]
          exact Nat.lt_of_le_of_lt (rising_le _) (Nat.lt_trans (unhide1 hpl) (by decide))
        clear ho0 hD hll hss HK2
        go_wp2_with (at_mapUpdate; refine wpList_mapUpdate_own _ rfl _ _ _ 97 rfl 9 122 law Tryz.underlying97 (unitElem (H := Unit)) w.heap.size (Maps.size D) D rfl (unhide ho) (unhide hsz) _ _ _ rfl rfl (unhide hkey) _ [] unitElem_mk ?_; intro w3 hown3 hgrow3)
        have hk3 : Hid (Keys w3 w.heap.size (spell lo (k + 1) l)) := by
          show Keys _ _ _
          rw [spell_next, if_neg (by rw [← unhide1 HZ, ← unhide hQ]; decide), ← unhide1 HZ]
          exact Keys.put (unhide ho) (unhide hD1) (unhide1 hpl) (unhide hss1) (unhide hsh) hown3
        have hb3 := hide (grown_below (unhide HB2) hgrow3 (Nat.le_refl _))
        clear hown3 hgrow3
        go_roundw
        case rel => exact ⟨k + 1, z + 1, by omega, by have := unhide1 HZ; omega, by first | rfl | rw [hwz] | go_num, hb3, hk3⟩
        case measure => simp only [intOf]; first | (rw [hwz]; have := unhide1 HZ; omega) | (have := unhide1 HZ; omega)
      · have hk3 : Hid (Keys w2 w.heap.size (spell lo (k + 1) l)) := by
          show Keys _ _ _
          rw [spell_next, if_pos (by rw [← unhide1 HZ, ← unhide hQ]), List.append_nil]
          exact unhide HK2
        clear HK2
        go_wp2_with fail
        go_roundw
        case rel => exact ⟨k + 1, z + 1, by omega, by have := unhide1 HZ; omega, by first | rfl | rw [hwz] | go_num, HB2, hk3⟩
        case measure => simp only [intOf]; first | (rw [hwz]; have := unhide1 HZ; omega) | (have := unhide1 HZ; omega)
    · have hle : ¬ z ≤ hi := by have := unhide1 HZ; have := unhide1 HM; omega
      obtain rfl : k = m := by omega
      go_wp2_with fail
      go_ret
      exact ⟨w.heap.size, rfl, unhide hkeys, Nat.le_refl _, unhide hbel⟩

end Go.Proofs.YtnkcbmlobikjkaaGreatDoor
