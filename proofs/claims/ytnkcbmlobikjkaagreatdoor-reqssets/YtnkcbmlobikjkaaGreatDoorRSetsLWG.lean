/- ReqsSets: the walk. -/
import Derived.Test.YtnkcbmlobikjkaaGreatDoorRqZG
import Derived.Test.YtnkcbmlobikjkaaGreatDoorRqXG
namespace Go.Proofs.YtnkcbmlobikjkaaGreatDoor.reqsSets
open Go.RowKit Suf Val Go.Maps

theorem same_refl (s : VSet) : sameB s s = true := by unfold sameB; simp
theorem pair_at {st1 st2 : List VKS} (h : st1.map (·.2) = st2.map (·.2)) {c : Nat} (h1 : c < st1.length) (h2 : c < st2.length) : st1[c].2 = st2[c].2 := by
  have := List.getElem_of_eq h (i := c) (by simpa using h1)
  simpa using this
/-- Keyed sets of the call's own, the first c of them written over. -/
def LeftK (T : TypeId) (w : World) (base : Nat) (v : Value) (xs : List VKS) (c : Nat) : Prop :=
  w.ownsRow base T 7 v xs.length (flatK xs) ∧ (∀ j (h : j < xs.length), c ≤ j → Own w base xs[j].1 xs[j].2.2.vals) ∧ Parted v xs
theorem left_of {T : TypeId} {w : World} {base : Nat} {v : Value} {xs : List VKS} (h : OwnK T w base v xs) : LeftK T w base v xs 0 := ⟨h.1, fun _ hj _ => (h.2.1 _ (List.getElem_mem hj)).1, h.2.2⟩
theorem LeftK.below {T : TypeId} {w w' : World} {base : Nat} {v : Value} {xs : List VKS} {c : Nat} (h : LeftK T w base v xs c) (hb : Below w.heap.size w w') : LeftK T w' base v xs c :=
  ⟨h.1.kept (below_grownBy hb) (by
    cases hv : v.ownBlock with
    | none => exact Or.inl rfl
    | some b => exact Or.inr (by simp)), fun j hj hc => (h.2.1 j hj hc).below hb, h.2.2⟩
theorem LeftK.at {T : TypeId} {w : World} {base n m : Nat} {a : Option Addr} {xs : List VKS} {c : Nat} (h : LeftK T w base (.slice a n m) xs c) {j : Nat} (hj : j < xs.length) : ∃ g, a = some ⟨g, 0, none⟩ ∧ Seven w g (j * 7) xs[j] := by
  rcases h.1.2 with ⟨e, h0⟩ | ⟨g, cap, cur, e, _⟩
  · omega
  · injection e with e1 e2 e3
    subst e1
    have hrow := h.1
    have e4 : n = xs.length := e2
    have e5 : m = cap := e3
    subst e4
    subst e5
    refine ⟨g, rfl, ?_⟩
    have at' : ∀ i, i < 7 → w.cell? ⟨g, j * 7 + i, none⟩ = (flatK xs)[j * 7 + i]? := fun i hi => hrow.cellAt (j * 7 + i) (by omega)
    have e := fun i hi => (at' i hi).trans (flatK_at xs j hj i hi)
    exact ⟨e 0 (by decide), e 1 (by decide), e 2 (by decide), e 3 (by decide), e 4 (by decide), e 5 (by decide), e 6 (by decide)⟩
theorem LeftK.next {T : TypeId} {w w' : World} {base : Nat} {v : Value} {xs : List VKS} {c : Nat} (h : LeftK T w base v xs c) (hc : c < xs.length) (hg : w.grownBy w' xs[c].1.ownBlock) : LeftK T w' base v xs (c + 1) := by
  refine ⟨h.1.kept hg ?_, fun j hj hcj => Own.other (h.2.1 j hj (by omega)) hg (fun k i hk hi e => ?_), h.2.2⟩
  · cases hv : v.ownBlock with
    | none => exact Or.inl rfl
    | some b => exact Or.inr (fun e => h.2.2.1 _ (List.getElem_mem hc) b hv e.symm)
  · subst e
    exact List.pairwise_iff_getElem.1 h.2.2.2 c j hc hj (by omega) i hk hi
theorem LeftK.row {T : TypeId} {w : World} {base g n m : Nat} {xs : List VKS} {c : Nat} (h : LeftK T w base (.slice (some ⟨g, 0, none⟩) n m) xs c) (hc : c < xs.length) : ∀ k, xs[c].1.ownBlock = some k → g ≠ k := fun k hk e => by
  subst e
  exact h.2.2.1 _ (List.getElem_mem hc) g rfl hk
theorem own_ge {w : World} {base : Nat} {v : Value} {l : List Txt} (h : Own w base v l) : ∀ k, v.ownBlock = some k → base ≤ k := fun k hk => (own_block h k hk).1

set_option maxRecDepth 100000 in
set_option maxHeartbeats 8000000 in
theorem walk (v0 : Value) (l : List VReq) (w : World) (h0 : Reqs w v0 l) (hL : Laid w) :
    Calls Tryz.prog 4 #[v0] w fun e w' => e = .returned (.bool true) ∧ Below w.heap.size w w' := by
  have HL := hide hL
  have H0 := hide h0
  obtain ⟨a0, c0, rfl⟩ := h0.val
  obtain ⟨n0, hn0⟩ : ∃ n, n = l.length := ⟨_, rfl⟩
  rw [← hn0] at H0 ⊢
  clear hL h0 hn0
  obtain ⟨y, hy⟩ : ∃ y, y = moreR 8 l := ⟨_, rfl⟩
  have HY := hide hy
  have hyy : (y == y) = true := by simp
  clear hy
  go_enter Tryz.func4, Tryz.ntmps4
  go_wp2_with fail
  refine (rcheck4_any _ l _ (unhide H0)).mono ?_
  rintro e w1 ⟨he, hw1⟩
  rw [← unhide HY] at he
  subst he
  have B1 := hide hw1
  clear hw1
  go_wp2_with fail
  refine (rsets_any _ l _ ((unhide HL).below (unhide B1)) ((unhide H0).below (unhide B1))).mono ?_
  rintro e w2 (⟨hne, rfl, hw2⟩ | ⟨hz, v', st, rfl, hst, hown, hw2⟩)
  · have B2 := hide (chain (unhide B1) hw2)
    clear hw2 B1
    have HE := hide hne
    obtain ⟨z, hz⟩ : ∃ z, z = (setsR l).2 := ⟨_, rfl⟩
    rw [← hz]
    have HZ := hide hz
    have hq : (z != z) = false := by simp
    clear hne hz
    go_wp2_with fail
    go_loopw [6] (fun i W => ∃ k : Nat, k ≤ 2 ∧ i = .int .i64 k ∧ Hid (Below w.heap.size w W)) (fun i _ => 2 - (intOf i).toNat)
    case atStart => exact ⟨0, Nat.zero_le _, rfl, B2⟩
    case round =>
      obtain ⟨k, hk, rfl, hbel⟩ := hrel
      by_cases hlt : k < 2
      · go_wp2_with fail
        refine (psets_any _ l _ ((unhide HL).below (unhide hbel)) ((unhide H0).below (unhide hbel))).mono ?_
        rintro e w3 (⟨_, rfl, hw3⟩ | ⟨h0, _⟩)
        rotate_left
        · exact absurd h0 (unhide HE)
        rw [← unhide HZ]
        have B3 := hide (chain (unhide hbel) hw3)
        clear hw3
        go_wp2_with fail
        go_loopw [9] (fun i W => i = .int .i64 0 ∧ W = w3) (fun _ _ => 0)
        case atStart => exact ⟨rfl, rfl⟩
        case round =>
          obtain ⟨rfl, hwr⟩ := hrel
          subst hwr
          go_wp2_with fail
          go_roundw
          case rel => exact ⟨k + 1, by omega, by go_num, B3⟩
          case measure => simp [intOf]; omega
      · obtain rfl : k = 2 := by omega
        go_wp2_with fail
        refine (live4_any _ ((unhide HL).below (unhide hbel))).mono ?_
        rintro e w3 ⟨rfl, hw3⟩
        have B3 := hide (chain (unhide hbel) hw3)
        clear hw3
        go_wp2_with fail
        refine (rcheckL_any _ l _ ((unhide HL).below (unhide B3)) ((unhide H0).below (unhide B3))).mono ?_
        rintro e w4 ⟨he, hw4⟩
        rw [← unhide HY] at he
        subst he
        have B4 := hide (chain (unhide B3) hw4)
        clear hw4
        go_wp2_with fail
        go_ret
        exact ⟨rfl, unhide B4⟩
  · have B2 := hide (chain (unhide B1) hw2)
    have P2 := hide hown
    have HE := hide hz
    have T0 := hide hst
    obtain ⟨xa, xc, hxe⟩ := hown.val
    obtain ⟨xn, hxn⟩ : ∃ x, x = st.length := ⟨_, rfl⟩
    rw [← hxn] at hxe
    have M2 := hide hxn
    subst hxe
    have h16 : xn ≤ 16 := by
      have := congrArg List.length hst
      have h3 := sets_len (l := l)
      simp at this
      omega
    clear hw2 B1 hown hz hst hxn
    go_wp2_with fail
    go_loopw [6] (fun i W => ∃ k : Nat, k ≤ 2 ∧ i = .int .i64 k ∧ Hid (Below w2.heap.size w2 W)) (fun i _ => 2 - (intOf i).toNat)
    case atStart => exact ⟨0, Nat.zero_le _, rfl, Below.refl _ _⟩
    case round =>
      obtain ⟨k, hk, rfl, hbel⟩ := hrel
      have B3 := hide (chain (unhide B2) (unhide hbel))
      by_cases hlt : k < 2
      · obtain ⟨V, hV⟩ : ∃ V, V = wr := ⟨_, rfl⟩
        subst hV
        go_wp2_with fail
        refine (psets_any _ l _ ((unhide HL).below (unhide B3)) ((unhide H0).below (unhide B3))).mono ?_
        rintro e w3 (⟨h0, _⟩ | ⟨_, v'', st1, rfl, hst1, hown1, hw3⟩)
        · exact absurd (unhide HE) h0
        have T2 : Hid (st1.map (·.2) = st.map (·.2)) := hst1.trans (unhide T0).symm
        have L3 := hide (left_of hown1)
        have bV := hide hw3
        obtain ⟨ya, yc, hye⟩ := hown1.val
        have hnn : st1.length = xn := by
          have := congrArg List.length (unhide T2)
          rw [unhide M2]
          simpa using this
        rw [hnn] at hye
        have M1 := hide hnn
        subst hye
        clear hw3 hown1 hst1 hnn
        go_wp2_with fail
        go_loopw [9] (fun i W => ∃ c : Nat, c ≤ xn ∧ i = .int .i64 c ∧ Hid (LeftK 44 W V.heap.size (.slice ya xn yc) st1 c) ∧ Hid (Below V.heap.size V W)) (fun i _ => xn - (intOf i).toNat)
        case atStart => exact ⟨0, Nat.zero_le _, rfl, L3, bV⟩
        case round =>
          obtain ⟨c, hc, rfl, hleft, hbV⟩ := hrel
          clear L3 bV
          by_cases hlt2 : c < xn
          · have hx1 : c < st1.length := by rw [unhide M1]; exact hlt2
            have hx2 : c < st.length := by rw [← unhide M2]; exact hlt2
            obtain ⟨g, rfl, sv1⟩ := (unhide hleft).at hx1
            have PW := hide ((unhide P2).below (chain (unhide hbel) (unhide hbV)))
            obtain ⟨g', rfl, sv2⟩ := (unhide PW).at hx2
            have el1 := ((unhide hleft).2.1 c hx1 (Nat.le_refl _))
            have el2 := ((unhide PW).2.1 _ (List.getElem_mem hx2)).1.strs
            have hpr := pair_at (unhide T2) hx1 hx2
            have hnext := hide (fun (W W' : World) (h : LeftK 44 W V.heap.size (.slice (some ⟨g, 0, none⟩) xn yc) st1 c) hg => LeftK.next (w' := W') h hx1 hg)
            have hrow := hide ((unhide hleft).row hx1)
            obtain ⟨y1, hy1⟩ : ∃ y, y = st1[c] := ⟨_, rfl⟩
            obtain ⟨y2, hy2⟩ : ∃ y, y = st[c] := ⟨_, rfl⟩
            rw [← hy1] at sv1 el1 hpr hnext hrow
            rw [← hy2] at sv2 el2 hpr
            clear hy1 hy2 hx1 hx2
            obtain ⟨u1, key, s⟩ := y1
            obtain ⟨u2, y2⟩ := y2
            simp only at hpr
            subst hpr
            have O1 := hide el1
            have E1 := hide el1.strs
            have E2 := hide el2
            obtain ⟨ua, uc, hue⟩ := el1.strs.val
            obtain ⟨ta, tc, hte⟩ := el2.val
            simp only at hue hte sv1 sv2
            obtain ⟨un, hun⟩ : ∃ x, x = s.vals.length := ⟨_, rfl⟩
            obtain ⟨tn, htn⟩ : ∃ x, x = s.vals.length := ⟨_, rfl⟩
            have hub : un ≤ 17592186044416 := by rw [hun]; exact el1.2.2
            rw [← hun] at hue
            rw [← htn] at hte
            subst hue
            subst hte
            have MU := hide hun
            clear hun htn el1 el2 PW
            have SV := hide sv1
            obtain ⟨s0, s1, s2, s3, s4, s5, s6⟩ := sv1
            obtain ⟨t0, t1, t2, t3, t4, t5, t6⟩ := sv2
            simp only at s0 s1 s2 s3 s4 s5 s6 t0 t1 t2 t3 t4 t5 t6
            obtain ⟨Y, hY⟩ : ∃ Y, Y = bytesT key := ⟨_, rfl⟩
            rw [← hY] at s0 t0
            clear hY
            have hq : (Y.toList == Y.toList) = true := by simp
            have hS := And.intro (show Hid (Below wr.heap.size wr wr) from Below.refl _ _) (And.intro s0 (And.intro t0 (And.intro s1 (And.intro s2 (And.intro s3 (And.intro s4 (And.intro s5 (And.intro s6 (And.intro t1 (And.intro t2 (And.intro t3 (And.intro t4 (And.intro t5 t6)))))))))))))
            have cH : Hid (∀ W, Hid (Below wr.heap.size wr W) ∧ W.cell? ⟨g, c * 7, none⟩ = some (.string Y) ∧ W.cell? ⟨g', c * 7, none⟩ = some (.string Y) ∧ W.cell? ⟨g, c * 7 + 1, none⟩ = some (.bool s.miss) ∧ W.cell? ⟨g, c * 7 + 2, none⟩ = some (.bool s.no) ∧ W.cell? ⟨g, c * 7 + 3, none⟩ = some (.bool s.num) ∧ W.cell? ⟨g, c * 7 + 4, none⟩ = some (.slice ua un uc) ∧ W.cell? ⟨g, c * 7 + 5, none⟩ = some (.int .i64 s.lo) ∧ W.cell? ⟨g, c * 7 + 6, none⟩ = some (.int .i64 s.hi) ∧ W.cell? ⟨g', c * 7 + 1, none⟩ = some (.bool s.miss) ∧ W.cell? ⟨g', c * 7 + 2, none⟩ = some (.bool s.no) ∧ W.cell? ⟨g', c * 7 + 3, none⟩ = some (.bool s.num) ∧ W.cell? ⟨g', c * 7 + 4, none⟩ = some (.slice ta tn tc) ∧ W.cell? ⟨g', c * 7 + 5, none⟩ = some (.int .i64 s.lo) ∧ W.cell? ⟨g', c * 7 + 6, none⟩ = some (.int .i64 s.hi) → Calls Tryz.prog 16 #[.agg #[.bool s.miss, .bool s.no, .bool s.num, .slice ua un uc, .int .i64 s.lo, .int .i64 s.hi], .agg #[.bool s.miss, .bool s.no, .bool s.num, .slice ta tn tc, .int .i64 s.lo, .int .i64 s.hi]] W fun e w' => e = .returned (.bool true) ∧ Below W.heap.size W w') := fun W hs => by
              have := rsame_any s.miss s.no s.num _ s.vals s.lo s.hi s.miss s.no s.num _ s.vals s.lo s.hi W ((unhide E1).below (unhide hs.1)) ((unhide E2).below (unhide hs.1))
              rw [same_refl] at this
              exact this
            have i0 : (0 : Int) ≤ (c : Int) := by omega
            have i1 : (c : Int) < (xn : Int) := by omega
            clear s0 s1 s2 s3 s4 s5 s6 t0 t1 t2 t3 t4 t5 t6
            go_wp2_with fail
            go_region_held3 (fun W => Hid (Below wr.heap.size wr W) ∧ W.cell? ⟨g, c * 7, none⟩ = some (.string Y) ∧ W.cell? ⟨g', c * 7, none⟩ = some (.string Y) ∧ W.cell? ⟨g, c * 7 + 1, none⟩ = some (.bool s.miss) ∧ W.cell? ⟨g, c * 7 + 2, none⟩ = some (.bool s.no) ∧ W.cell? ⟨g, c * 7 + 3, none⟩ = some (.bool s.num) ∧ W.cell? ⟨g, c * 7 + 4, none⟩ = some (.slice ua un uc) ∧ W.cell? ⟨g, c * 7 + 5, none⟩ = some (.int .i64 s.lo) ∧ W.cell? ⟨g, c * 7 + 6, none⟩ = some (.int .i64 s.hi) ∧ W.cell? ⟨g', c * 7 + 1, none⟩ = some (.bool s.miss) ∧ W.cell? ⟨g', c * 7 + 2, none⟩ = some (.bool s.no) ∧ W.cell? ⟨g', c * 7 + 3, none⟩ = some (.bool s.num) ∧ W.cell? ⟨g', c * 7 + 4, none⟩ = some (.slice ta tn tc) ∧ W.cell? ⟨g', c * 7 + 5, none⟩ = some (.int .i64 s.lo) ∧ W.cell? ⟨g', c * 7 + 6, none⟩ = some (.int .i64 s.hi))
              (first | (with_reducible exact hS) | (with_reducible assumption) | (with_reducible refine c14_drew ?_; with_reducible assumption) | (with_reducible refine c14_next ?_ hw; with_reducible assumption))
              (first | (go_at_call 16; with_reducible refine (unhide cH _ ?_).mono ?_; with_reducible assumption; rintro e w4 ⟨rfl, hw⟩))
            rename_i hH
            have b4 := hide (unhide hH.1)
            have c4 := hide hH.2.2.2.2.2.2.1
            have L4 := hide ((unhide hleft).below (unhide b4))
            have O4 := hide ((unhide O1).below (unhide b4))
            have B4 := hide (chain (unhide hbV) (unhide b4))
            clear hH hS hw cH hleft O1 E1 E2 hbV SV b4 i0 i1
            go_wp2_with fail
            go_loopw [10] (fun i W => ∃ (j : Nat) (l' : List Txt), j ≤ un ∧ i = .int .i64 j ∧ Hid (l'.length = un) ∧ Hid (Own W V.heap.size (.slice ua un uc) l') ∧ Hid (w4.grownBy W (Value.slice ua un uc).ownBlock)) (fun i _ => un - (intOf i).toNat)
            case atStart => exact ⟨0, s.vals, Nat.zero_le _, rfl, (unhide MU).symm, O4, grown_refl _ _⟩
            case round =>
              obtain ⟨j, l', hj, rfl, hl', hown, hgr⟩ := hrel
              have r4 := cell_other (unhide hgr) (unhide c4) (fun k hk => unhide hrow k hk)
              have i0 : (0 : Int) ≤ (c : Int) := by omega
              have i1 : (c : Int) < (xn : Int) := by omega
              by_cases hlt3 : j < un
              · obtain ⟨g2, hx2⟩ : ∃ g, ua = some ⟨g, 0, none⟩ := by
                  rcases (unhide hown).val with ⟨_, h⟩ | ⟨g, c, h, _⟩
                  · rw [h] at hl'; have := unhide hl'; simp at this; omega
                  · injection h with h; exact ⟨g, h⟩
                subst hx2
                have hc2 : wr.cell? ⟨g2, j, none⟩ = some (.string (bytesT (l'[j]'(by rw [unhide hl']; exact hlt3)))) := by
                  have := unhide hown
                  rw [← unhide hl'] at this
                  exact this.cellAt (by rw [unhide hl']; exact hlt3)
                have hf2 : wr.frozen? ⟨g2, j, none⟩ = false := by
                  have := unhide hown
                  rw [← unhide hl'] at this
                  exact this.frozenAt j
                have O5 := hide ((unhide hown).stored j (t := [64]) (show short [64] by unfold short; simp))
                have G5 := hide ((unhide hgr).trans (set_grown wr g2 j (.string (bytesT [64]))))
                have ll5 : Hid ((l'.set j [64]).length = un) := by show _ = _; rw [List.length_set]; exact unhide hl'
                generalize (l'[j]'(by rw [unhide hl']; exact hlt3)) = old at hc2
                clear hown hgr
                go_wp2_with fail
                go_roundw
                case rel => exact ⟨j + 1, l'.set j [64], by omega, by go_num, ll5, O5, G5⟩
                case measure => simp [intOf]; omega
              · obtain rfl : j = un := by omega
                have L5 := hide (unhide hnext _ _ (unhide L4) (unhide hgr))
                have B5 := hide ((unhide B4).grown (unhide hgr) (unhide B4).size (own_ge (unhide O4)))
                go_wp2_with fail
                go_roundw
                case rel => exact ⟨c + 1, by omega, by go_num, L5, B5⟩
                case measure => simp [intOf]; omega
          · obtain rfl : c = xn := by omega
            have B6 := hide (chain (unhide hbel) (unhide hbV))
            go_wp2_with fail
            go_roundw
            case rel => exact ⟨k + 1, by omega, by go_num, B6⟩
            case measure => simp [intOf]; omega
      · obtain rfl : k = 2 := by omega
        go_wp2_with fail
        refine (live4_any _ ((unhide HL).below (unhide B3))).mono ?_
        rintro e w3 ⟨rfl, hw3⟩
        have B4 := hide (chain (unhide B3) hw3)
        clear hw3
        go_wp2_with fail
        refine (rcheckL_any _ l _ ((unhide HL).below (unhide B4)) ((unhide H0).below (unhide B4))).mono ?_
        rintro e w4 ⟨he, hw4⟩
        rw [← unhide HY] at he
        subst he
        have B5 := hide (chain (unhide B4) hw4)
        clear hw4
        go_wp2_with fail
        go_ret
        exact ⟨rfl, unhide B5⟩
end Go.Proofs.YtnkcbmlobikjkaaGreatDoor.reqsSets
