/- Layer 3: contract of numbers. -/
import Derived.Test.YtfpfdnapamdhjaaGreatDoorV3GGZ
namespace Go.Proofs.YtfpfdnapamdhjaaGreatDoor
open Go.RowKit Suf Val Go.Maps

theorem numst_new (w : World) (lo hi : Int) (t u : TypeId) : NumSt (((w.alloc (.cells #[.int .i64 lo] t)).alloc (.cells #[.int .i64 hi] t)).alloc (.cells #[.bool false,.bool false,.bool false,.slice none 0 0,.int .i64 0,.int .i64 0] u)) w.heap.size lo hi := by
  have hs := slot_new ((w.alloc (.cells #[.int .i64 lo] t)).alloc (.cells #[.int .i64 hi] t)) u
  rw [show ((w.alloc (.cells #[.int .i64 lo] t)).alloc (.cells #[.int .i64 hi] t)).heap.size = w.heap.size + 2 by simp] at hs
  exact ⟨by simp [go_sem],by simp [go_sem],by simp [go_sem],by simp [go_sem],hs⟩
/-- What numbers answers,but for Miss. -/
def numPost (miss : Bool) (r : Option VSet) (w : World) (b : Nat) (e : Ending) (w' : World) : Prop :=
  w.grownBy w' (some b) /\ ((r = none /\ e = .returned (.tuple #[.agg #[.bool false,.bool false,.bool false,.slice none 0 0,.int .i64 0,.int .i64 0],.int .i64 3]))
    ∨ ∃ s v,r = some s /\ e = .returned (.tuple #[.agg #[.bool miss,.bool s.no,.bool s.num,v,.int .i64 s.lo,.int .i64 s.hi],.int .i64 0]) /\ Own w' w.heap.size v s.vals)

def loM (W : World) (B : Nat) (hi : Int) : Nat := match W.cell? ⟨B,0,none⟩ with | some (.int _ z) => (hi + 1 - z).toNat | _ => 0
def hiM (W : World) (B : Nat) (lo : Int) : Nat := match W.cell? ⟨B + 1,0,none⟩ with | some (.int _ z) => (z + 1 - lo).toNat | _ => 0
theorem loM_eq {W : World} {B : Nat} {z hi h2 : Int} (h : NumSt W B z hi) : loM W B h2 = (h2 + 1 - z).toNat := by unfold loM; rw [h.1]
theorem hiM_eq {W : World} {B : Nat} {z hi l2 : Int} (h : NumSt W B z hi) : hiM W B l2 = (hi + 1 - l2).toNat := by unfold hiM; rw [h.2.1]
theorem grown_below2 {w W W' : World} {b : Nat} (h : w.grownBy W (some b)) (hb : Below W.heap.size W W') : w.grownBy W' (some b) := h.andThen (below_grownBy hb) (fun j hj => by cases hj)
theorem grown_put6 {w W : World} {b B : Nat} (h : w.grownBy W (some b)) (x0 x1 x2 x3 x4 x5 : Value) (hB : w.heap.size <= B) : w.grownBy (put6 W B x0 x1 x2 x3 x4 x5) (some b) := h.andThen (put6_grown _ _ _ _ _ _ _ _) (fun j hj => by cases hj; exact Or.inl hB)

theorem two_call {W W' : World} {B : Nat} {u v : Value} (hb : Below W.heap.size W W') (h : W.cell? ⟨B,0,none⟩ = some u /\ W.cell? ⟨B + 1,0,none⟩ = some v) : W'.cell? ⟨B,0,none⟩ = some u /\ W'.cell? ⟨B + 1,0,none⟩ = some v := ⟨cell_kept hb h.1,cell_kept hb h.2⟩
theorem two_put {W : World} {B C : Nat} {u v x0 x1 x2 x3 x4 x5 : Value} (h1 : B ≠ C) (h2 : B + 1 ≠ C) (h : W.cell? ⟨B,0,none⟩ = some u /\ W.cell? ⟨B + 1,0,none⟩ = some v) : (put6 W C x0 x1 x2 x3 x4 x5).cell? ⟨B,0,none⟩ = some u /\ (put6 W C x0 x1 x2 x3 x4 x5).cell? ⟨B + 1,0,none⟩ = some v := by
  unfold put6
  refine ⟨?_,?_⟩
  · rw [set_cell_other _ _ _ _ (by exact h1),set_cell_other _ _ _ _ (by exact h1),set_cell_other _ _ _ _ (by exact h1),set_cell_other _ _ _ _ (by exact h1),set_cell_other _ _ _ _ (by exact h1),set_cell_other _ _ _ _ (by exact h1)]; exact h.1
  · rw [set_cell_other _ _ _ _ (by exact h2),set_cell_other _ _ _ _ (by exact h2),set_cell_other _ _ _ _ (by exact h2),set_cell_other _ _ _ _ (by exact h2),set_cell_other _ _ _ _ (by exact h2),set_cell_other _ _ _ _ (by exact h2)]; exact h.2

theorem two_drew {W : World} {p q : Addr} {u v : Value} (h : W.cell? p = some u) (h1 : W.cell? q = some v) : W.drew.cell? p = some u /\ W.drew.cell? q = some v := ⟨h,h1⟩
theorem two_set6 {W : World} {B C : Nat} {u v x0 x1 x2 x3 x4 x5 : Value} (h1 : B ≠ C) (h2 : B + 1 ≠ C) (h : W.cell? ⟨B,0,none⟩ = some u /\ W.cell? ⟨B + 1,0,none⟩ = some v) :
    ((((((W.setCell ⟨C,0,none⟩ x0).setCell ⟨C,1,none⟩ x1).setCell ⟨C,2,none⟩ x2).setCell ⟨C,3,none⟩ x3).setCell ⟨C,4,none⟩ x4).setCell ⟨C,5,none⟩ x5).cell? ⟨B,0,none⟩ = some u /\ ((((((W.setCell ⟨C,0,none⟩ x0).setCell ⟨C,1,none⟩ x1).setCell ⟨C,2,none⟩ x2).setCell ⟨C,3,none⟩ x3).setCell ⟨C,4,none⟩ x4).setCell ⟨C,5,none⟩ x5).cell? ⟨B + 1,0,none⟩ = some v := two_put (W := W) (C := C) h1 h2 h
theorem rising_shape (b : Nat) (l : List Txt) (w : World) (hk : Keys w b l) (hn : (rising l).length <= 1000) :
    Calls Tryz.prog 185 #[.map (some b)] w fun e w' => ∃ a n c,e = .returned (.slice a n c) /\ Own w' w.heap.size (.slice a n c) (rising l) /\ Below w.heap.size w w' := by
  refine (rising_any b l w hk hn).mono ?_
  rintro e w1 ⟨v,rfl,hown,hw1⟩
  obtain ⟨a,c,rfl⟩ := hown.strs.val
  exact ⟨a,_,c,rfl,hown,hw1⟩
theorem drew_below {W W' : World} (h : Below W.drew.heap.size W.drew W') : Below W.heap.size W W' := (Below.refl W.heap.size W).drew.trans h
theorem slot_facts {W W' : World} {B : Nat} (hb : Below W.heap.size W W') (h : Slot W (B + 2)) :
    W'.cell? ⟨B + 1 + 1,0,none⟩ = some (.bool false) /\ W'.cell? ⟨B + 1 + 1,1,none⟩ = some (.bool false) /\ W'.cell? ⟨B + 1 + 1,2,none⟩ = some (.bool false) /\ W'.cell? ⟨B + 1 + 1,3,none⟩ = some (.slice none 0 0) /\ W'.cell? ⟨B + 1 + 1,4,none⟩ = some (.int .i64 0) /\ W'.cell? ⟨B + 1 + 1,5,none⟩ = some (.int .i64 0)
    /\ W'.frozen? ⟨B + 1 + 1,0,none⟩ = false /\ W'.frozen? ⟨B + 1 + 1,1,none⟩ = false /\ W'.frozen? ⟨B + 1 + 1,2,none⟩ = false /\ W'.frozen? ⟨B + 1 + 1,3,none⟩ = false /\ W'.frozen? ⟨B + 1 + 1,4,none⟩ = false /\ W'.frozen? ⟨B + 1 + 1,5,none⟩ = false := by
  obtain ⟨⟨k0,k1,k2,k3,k4,k5⟩,hf,_⟩ := h.below hb
  exact ⟨k0,k1,k2,k3,k4,k5,hf 0,hf 1,hf 2,hf 3,hf 4,hf 5⟩
set_option maxRecDepth 100000 in
set_option maxHeartbeats 8000000 in
theorem numbers_any (miss : Bool) (lo hi : Int) (b : Nat) (l : List Txt) (w : World) (hk : Keys w b l) (hL : Laid w) (hl : l.length <= 900) (h0 : -2147483648 <= lo) (h1 : lo <= 2147483649) (h2 : -2147483649 <= hi) (h3 : hi <= 2147483648) :
    Calls Tryz.prog 176 #[.bool miss,.int .i64 lo,.int .i64 hi,.map (some b)] w fun e w' => numPost miss (numbersO lo hi l) w b e w' := by
  obtain ⟨R,hR⟩ : ∃ R,R = numPost miss (numbersO lo hi l) w b := ⟨_,rfl⟩
  show Calls _ _ _ _ (fun e w' => numPost miss (numbersO lo hi l) w b e w')
  rw [<- hR]
  have HR := hide hR
  have HK := hide hk
  have HL := hide hL
  have HLE := hide hl
  have hbd : Hid (Unit -> (-2147483648 <= lo /\ lo <= 2147483649 /\ -2147483649 <= hi /\ hi <= 2147483648)) := hide1 ⟨h0,h1,h2,h3⟩
  have hlaid : Hid (∀ W,w.grownBy W (some b) -> Laid W) := fun W hg => hL.turn hk hg
  have hbB := hide hk.lt
  have HLL : Hid (∀ m : List Txt,m.length <= l.length -> m.length <= 70368744177664) := fun m hm => Nat.le_trans hm (Nat.le_trans hl (by decide))
  clear hR hk hL hl h0 h1 h2 h3
  obtain ⟨W0,hW0⟩ : ∃ W0,W0 = (((w.alloc (.cells #[.int .i64 lo] 2)).alloc (.cells #[.int .i64 hi] 2)).alloc (.cells #[.bool false,.bool false,.bool false,.slice none 0 0,.int .i64 0,.int .i64 0] 199)) := ⟨_,rfl⟩
  have hst : Hid (NumSt W0 w.heap.size lo hi) := by rw [hW0]; exact numst_new w lo hi 2 199
  have hb0 : Hid (Below w.heap.size w W0) := by rw [hW0]; exact (((box_below _).alloc (by simp) _).alloc (by simp; omega) _)
  have GW := hide hW0
  clear hW0
  have hkW : Hid (Keys W0 b l) := (unhide HK).below (unhide hb0)
  have hg0 := hide ((below_grownBy (unhide hb0)).but (some b))
  have hpred := hide (judge_between w.heap.size (w.heap.size + 1) lo hi (fun W => W0.grownBy W (some b)) (fun W hg => ⟨unhide hlaid W ((unhide hg0).trans hg),cell_turn (unhide hkW) hg (unhide hst).1,cell_turn (unhide hkW) hg (unhide hst).2.1⟩))
  go_enter Tryz.func176,Tryz.ntmps176
  go_wp2_with fail
  rw [<- unhide GW]
  refine (keep_any 187 _ (betw lo hi) enters_between b l W0 (unhide hkW) (unhide hpred)).mono ?_
  rintro e w1 ⟨rfl,hk1,hg1⟩
  have ST1 := hide ((unhide hst).turn (unhide hkW) hg1)
  have G1 := hide ((unhide hg0).trans hg1)
  have K1 := hide hk1
  clear hst hb0 GW hkW hg0 hpred hk1 hg1
  go_wp2_with fail
  go_loopw [13] (fun _ W => ∃ z : Int,Hid (Unit -> atLo lo hi l z) /\ Hid (NumSt W w.heap.size z hi) /\ Hid (Keys W b (l.filter (betw z hi))) /\ Hid (w.grownBy W (some b))) (fun _ W => loM W w.heap.size hi)
  case atStart => exact ⟨lo,fun _ => atLo_start lo hi l,ST1,K1,G1⟩
  case round =>
    clear ST1 G1 K1
    obtain ⟨z,hz,hst,hkeys,hg⟩ := hrel
    by_cases hle : z <= hi
    · have zb : Hid (Unit -> (-2147483648 <= z /\ z <= 2147483648)) := hide1 (by have := unhide1 hbd; have := (unhide1 hz).2.1; omega)
      have hwz := wrap_small (z + 1) (by have := unhide1 zb; omega) (by have := unhide1 zb; omega)
      obtain ⟨q,hq⟩ : ∃ q,q = l.contains (decZ z) := ⟨_,rfl⟩
      have hQ := hide hq
      have hct := hide (has_betw l z hi z (unhide1 zb).1 (unhide1 zb).2 (Int.le_refl _) hle)
      clear hq
      obtain ⟨c0,c1,f0,f1,_⟩ := unhide hst
      go_wp2_with fail
      refine (take_any b (l.filter (betw z hi)) z _ (unhide hkeys) (unhide hlaid _ (unhide hg)) (by have := unhide1 zb; omega) (by have := unhide1 zb; omega)).mono ?_
      rintro e w2 ⟨he,hk2,hg2⟩
      rw [unhide hct,<- unhide hQ] at he
      subst he
      have ST2 := hide ((unhide hst).turn (unhide hkeys) hg2)
      have G2 := hide ((unhide hg).trans hg2)
      clear c0 c1 f0 f1
      cases q
      · have E0 := hide (atLo_end (unhide1 hz) (Or.inr (unhide hQ).symm))
        have K2 := hide (hk2.congr (strike_none _ _ (by rw [unhide hct]; exact (unhide hQ).symm)) (unhide HLL _ (List.length_filter_le _ _)))
        clear hk2 hg2 hst hkeys hg hct hQ hwz
        go_wp2_with fail
        clear zb
        have ZB : Hid (Unit -> (-2147483648 <= z /\ z <= 2147483649)) := hide1 (by have := unhide1 hbd; have h2 := (unhide1 hz).2.1; have h3 := (unhide1 hz).2.2.1; have h4 := (unhide1 hz).2.2.2; omega)
        clear hz
        go_loopw [23] (fun _ W => ∃ y : Int,Hid (Unit -> atHi lo hi l y) /\ Hid (NumSt W w.heap.size z y) /\ Hid (Keys W b (l.filter (betw z y))) /\ Hid (w.grownBy W (some b))) (fun _ W => hiM W w.heap.size z)
        case atStart => exact ⟨hi,fun _ => atHi_start lo hi l,ST2,K2,G2⟩
        case round =>
          clear ST2 G2 K2
          obtain ⟨y,hy,hst,hkeys,hg⟩ := hrel
          by_cases hle2 : z <= y
          · have zb : Hid (Unit -> (-2147483648 <= y /\ y <= 2147483648)) := hide1 (by have := unhide1 hbd; have := unhide1 ZB; have := (unhide1 hy).2.1; omega)
            have hwz := wrap_small (y - 1) (by have := unhide1 zb; omega) (by have := unhide1 zb; omega)
            obtain ⟨q,hq⟩ : ∃ q,q = l.contains (decZ y) := ⟨_,rfl⟩
            have hQ := hide hq
            have hct := hide (has_betw l z y y (unhide1 zb).1 (unhide1 zb).2 hle2 (Int.le_refl _))
            clear hq
            obtain ⟨c0,c1,f0,f1,_⟩ := unhide hst
            go_wp2_with fail
            refine (take_any b (l.filter (betw z y)) y _ (unhide hkeys) (unhide hlaid _ (unhide hg)) (by have := unhide1 zb; omega) (by have := unhide1 zb; omega)).mono ?_
            rintro e w3 ⟨he,hk2,hg2⟩
            rw [unhide hct,<- unhide hQ] at he
            subst he
            have ST3 := hide ((unhide hst).turn (unhide hkeys) hg2)
            have G3 := hide ((unhide hg).trans hg2)
            clear c0 c1 f0 f1
            cases q
            · have E1 := hide (atHi_end (unhide1 hy) (Or.inr (unhide hQ).symm))
              have K3 := hide (hk2.congr (strike_none _ _ (by rw [unhide hct]; exact (unhide hQ).symm)) (unhide HLL _ (List.length_filter_le _ _)))
              clear hk2 hg2 hst hkeys hg hct hQ hwz zb
              have hv := vals_left lo hi l
              rw [unhide E0,unhide E1] at hv
              obtain ⟨n0,D,ho,hD,_,_⟩ := unhide K3
              have hzv := keys_size ho hD
              rw [hv] at hzv
              obtain ⟨k,hkv⟩ : ∃ k,k = (valsOf z y l).length := ⟨_,rfl⟩
              rw [<- hkv] at hzv
              have HZ := hide hzv
              have HO := hide ho
              have HMM : Hid (∀ x,x ∈ l.filter (betw z y) ↔ x ∈ valsOf z y l) := fun x => by rw [<- hv,mem_rising]
              have HKV := hide hkv
              have HRV := hide hv
              have hk9 : k <= 900 := by rw [hkv]; exact Nat.le_trans (vals_le z y l) (unhide HLE)
              have YB : Hid (Unit -> (-2147483650 <= y /\ y <= 2147483648)) := hide1 (by have h1 := unhide1 hbd; have h2 := unhide1 hy; have h3 := unhide1 ZB; unfold atHi at h2; rw [unhide E0] at h2; have h4 := h2.2.1; have h5 := h2.2.2.1; have h6 := h2.2.2.2; omega)
              have hnum : Hid (numbersO lo hi l = numsAt z y l) := by show _ = _; unfold numbersO; rw [unhide E0,unhide E1]
              clear hv ho hD hzv hkv hy
              obtain ⟨r,hr⟩ : ∃ r : Int,r = y - z + 1 - (k : Int) := ⟨_,rfl⟩
              have cl : ∀ W,Calls Tryz.prog 190 #[.int .i64 z,.int .i64 y,.int .i64 k] W fun e w' => e = .returned (.int .i64 r) /\ w' = W := fun W => hr ▸ left_any z y k W (by have := unhide1 ZB; omega) (by have := unhide1 YB; omega) (by omega)
              have HRR := hide1 hr
              clear hr
              obtain ⟨c0,c1,f0,f1,hslot0⟩ := unhide ST3
              by_cases h64 : r <= 64
              · have hans : Hid (numbersO lo hi l = some ⟨false,false,false,listOf z y (valsOf z y l),0,0⟩) := by
                  show _ = _; rw [unhide hnum]; unfold numsAt; rw [if_pos (by rw [<- unhide HKV,<- unhide1 HRR]; exact h64)]
                clear hslot0
                go_wp2_with (first
                  | (at_len; refine wpList_len_own _ rfl _ 219 rfl 9 231 Tryz.underlying219 (unitElem (H := Unit)) b n0 D rfl (unhide HO) ?_; rw [unhide HZ])
                  | (go_at_call 190; refine (cl _).mono ?_; rintro e w' ⟨rfl,rfl⟩))
                refine (spelled_any z y b (l.filter (betw z y)) _ (unhide K3) (unhide hlaid _ (unhide G3)) (by have := unhide1 ZB; omega) (by have := unhide1 YB; omega) (by have := unhide1 ZB; omega) (by have := unhide1 HRR; omega)).mono ?_
                clear c0 c1 f0 f1
                rintro e w4 ⟨b',rfl,hk4,hb4,hw4⟩
                have K4 := hide hk4
                have G4 := hide (grown_below2 (unhide G3) hw4)
                have ST4 := hide ((unhide ST3).below hw4)
                clear hk4 hb4 hw4 ST3 K3 HO G3
                have hsl : Hid ((rising (spell z (y - z + 1).toNat (l.filter (betw z y)))).length <= 1000) := Nat.le_trans (rising_le _) (Nat.le_trans (spell_len _ _ _) (by have := unhide1 HRR; omega))
                go_wp2_with fail
                refine (list_any miss b' _ _ (unhide K4) (unhide hsl)).mono ?_
                rintro e w5 ⟨v,rfl,hown,hw5⟩
                obtain ⟨a,c,rfl⟩ := hown.strs.val
                have G5 := hide (grown_below2 (unhide G4) hw5)
                have hlt5 := hide ((unhide ST4).2.2.2.2.2.2)
                have hle5 := hide ((unhide G4).size)
                obtain ⟨_,_,_,_,hs5⟩ := (unhide ST4).below hw5
                have hs6 : Slot w5 (w.heap.size + 1 + 1) := hs5
                obtain ⟨⟨k0,k1,k2,k3,k4,k5⟩,hf,_⟩ := hs6
                rw [list_left z y l _ (unhide HMM)] at hown ⊢
                have HO5 := hide hown
                obtain ⟨n,hn⟩ : ∃ n,n = (listOf z y (valsOf z y l)).length := ⟨_,rfl⟩
                rw [<- hn] at HO5 ⊢
                clear hw5 hown hn ST4 hs5 K4 hsl
                go_wp2_with fail
                refine bodyPost_ret (v := .tuple #[.agg #[.bool miss,.bool false,.bool false,.slice a n c,.int .i64 0,.int .i64 0],.int .i64 0]) (by simp [results,Tryz.results176,go_sem,k0,k1,k2,k3,k4,k5]) rfl ?_
                rw [unhide HR]
                exact ⟨grown_put6 (unhide G5) _ _ _ _ _ _ (by omega),Or.inr ⟨_,_,unhide hans,rfl,((unhide HO5).grown (put6_grown w5 (w.heap.size + 1 + 1) _ _ _ _ _ _) (unhide hlt5)).mono (unhide hle5)⟩⟩
              · by_cases hk64 : 64 < k
                · have hans : Hid (numbersO lo hi l = none) := by
                    show _ = _; rw [unhide hnum]; unfold numsAt; rw [if_neg (by rw [<- unhide HKV,<- unhide1 HRR]; exact h64),if_pos (by rw [<- unhide HKV]; exact hk64)]
                  have hs6 : Slot _ (w.heap.size + 1 + 1) := hslot0
                  obtain ⟨⟨k0,k1,k2,k3,k4,k5⟩,hf,_⟩ := hs6
                  clear hslot0
                  have hki : 64 < (k : Int) := by omega
                  go_wp2_with (first
                    | (at_len; refine wpList_len_own _ rfl _ 219 rfl 9 231 Tryz.underlying219 (unitElem (H := Unit)) b n0 D rfl (unhide HO) ?_; rw [unhide HZ])
                    | (go_at_call 190; refine (cl _).mono ?_; rintro e w' ⟨rfl,rfl⟩))
                  refine bodyPost_ret (v := .tuple #[.agg #[.bool false,.bool false,.bool false,.slice none 0 0,.int .i64 0,.int .i64 0],.int .i64 3]) (by simp [results,Tryz.results176,go_sem,k0,k1,k2,k3,k4,k5]) rfl ?_
                  rw [unhide HR]
                  exact ⟨grown_put6 (unhide G3) _ _ _ _ _ _ (by omega),Or.inl ⟨unhide hans,rfl⟩⟩
                · have hans : Hid (numbersO lo hi l = some ⟨false,true,true,valsOf z y l,z,y⟩) := by
                    show _ = _; rw [unhide hnum]; unfold numsAt; rw [if_neg (by rw [<- unhide HKV,<- unhide1 HRR]; exact h64),if_neg (by rw [<- unhide HKV]; exact hk64)]
                  clear hslot0
                  have hki : ¬ 64 < (k : Int) := by omega
                  go_wp2_with (first
                    | (at_len; refine wpList_len_own _ rfl _ 219 rfl 9 231 Tryz.underlying219 (unitElem (H := Unit)) b n0 D rfl (unhide HO) ?_; rw [unhide HZ])
                    | (go_at_call 190; refine (cl _).mono ?_; rintro e w' ⟨rfl,rfl⟩))
                  have hrl : Hid ((rising (l.filter (betw z y))).length <= 1000) := by show _ <= _; rw [unhide HRV,<- unhide HKV]; omega
                  have HRV2 := HRV
                  have hlt5 := hide ((unhide ST3).2.2.2.2.2.2)
                  have hle5 := hide ((unhide G3).size)
                  have c01 := two_drew c0 c1
                  clear HK HL HLE hbd hlaid hbB HLL E0 E1 HZ HO HMM HKV HRV hk9 YB ZB hnum HRR cl h64 hk64 hki hle hle2 f0 f1
                  go_region_held3 (fun W => W.cell? ⟨w.heap.size,0,none⟩ = some (.int .i64 z) /\ W.cell? ⟨w.heap.size + 1,0,none⟩ = some (.int .i64 y))
                    (first | (with_reducible exact two_drew c0 c1) | (with_reducible assumption) | (with_reducible refine two_set6 (by omega) (by omega) ?_; with_reducible assumption))
                    (first | (go_at_call 185; refine (rising_shape b (l.filter (betw z y)) _ ((unhide K3).below (Below.refl _ _).drew) (unhide hrl)).mono ?_; rintro e w5 ⟨a,n,c,rfl,hown,hw5⟩; have HO5 := hide hown; clear hown; obtain ⟨k0,k1,k2,k3,k4,k5,g0,g1,g2,g3,g4,g5⟩ := slot_facts (drew_below hw5) (unhide ST3).2.2.2.2; have hS5 := two_call (drew_below hw5) ⟨c0,c1⟩; have HW5 := hide (drew_below hw5); clear hw5 c0 c1))
                  go_wp2_with fail
                  refine bodyPost_ret (v := .tuple #[.agg #[.bool miss,.bool true,.bool true,.slice a n c,.int .i64 z,.int .i64 y],.int .i64 0]) (by simp [results,Tryz.results176,go_sem,k0,k1,k2,k3,k4,k5]) rfl ?_
                  rw [unhide HR]
                  exact ⟨grown_put6 (grown_below2 (unhide G3) (unhide HW5)) _ _ _ _ _ _ (by omega),Or.inr ⟨_,_,unhide hans,rfl,(unhide HRV2 ▸ ((unhide HO5).grown (put6_grown w5 (w.heap.size + 1 + 1) _ _ _ _ _ _) (unhide hlt5)).mono (unhide hle5))⟩⟩
            · have hz1 := hide1 (atHi_next (unhide1 hy) (by rw [unhide E0]; exact hle2) (unhide hQ).symm)
              have K3 := hide (hk2.congr (strike_hi l z y (unhide1 zb).1 (unhide1 zb).2) (unhide HLL _ (List.length_filter_le _ _)))
              clear hk2 hg2 hkeys hg hct
              obtain ⟨c0,c1,f0,f1,_⟩ := unhide ST3
              go_wp2_with fail
              go_roundw
              case rel => exact ⟨y - 1,hz1,(unhide ST3).setHi (y - 1),(unhide K3).set _ (by have := unhide hbB; omega),grown_set (unhide G3) _ (by omega)⟩
              case measure => rw [hiM_eq ((unhide ST3).setHi (y - 1)),hiM_eq (unhide hst)]; omega
          · have E1 := hide (atHi_end (unhide1 hy) (Or.inl (by rw [unhide E0]; omega)))
            have ST3 := hst
            have G3 := hg
            have K3 := hkeys
            obtain ⟨c0,c1,f0,f1,_⟩ := unhide hst
            clear hst hg hkeys c0 c1 f0 f1
            have hv := vals_left lo hi l
            rw [unhide E0,unhide E1] at hv
            obtain ⟨n0,D,ho,hD,_,_⟩ := unhide K3
            have hzv := keys_size ho hD
            rw [hv] at hzv
            obtain ⟨k,hkv⟩ : ∃ k,k = (valsOf z y l).length := ⟨_,rfl⟩
            rw [<- hkv] at hzv
            have HZ := hide hzv
            have HO := hide ho
            have HMM : Hid (∀ x,x ∈ l.filter (betw z y) ↔ x ∈ valsOf z y l) := fun x => by rw [<- hv,mem_rising]
            have HKV := hide hkv
            have HRV := hide hv
            have hk9 : k <= 900 := by rw [hkv]; exact Nat.le_trans (vals_le z y l) (unhide HLE)
            have YB : Hid (Unit -> (-2147483650 <= y /\ y <= 2147483648)) := hide1 (by have h1 := unhide1 hbd; have h2 := unhide1 hy; have h3 := unhide1 ZB; unfold atHi at h2; rw [unhide E0] at h2; have h4 := h2.2.1; have h5 := h2.2.2.1; have h6 := h2.2.2.2; omega)
            have hnum : Hid (numbersO lo hi l = numsAt z y l) := by show _ = _; unfold numbersO; rw [unhide E0,unhide E1]
            clear hv ho hD hzv hkv hy
            obtain ⟨r,hr⟩ : ∃ r : Int,r = y - z + 1 - (k : Int) := ⟨_,rfl⟩
            have cl : ∀ W,Calls Tryz.prog 190 #[.int .i64 z,.int .i64 y,.int .i64 k] W fun e w' => e = .returned (.int .i64 r) /\ w' = W := fun W => hr ▸ left_any z y k W (by have := unhide1 ZB; omega) (by have := unhide1 YB; omega) (by omega)
            have HRR := hide1 hr
            clear hr
            obtain ⟨c0,c1,f0,f1,hslot0⟩ := unhide ST3
            by_cases h64 : r <= 64
            · have hans : Hid (numbersO lo hi l = some ⟨false,false,false,listOf z y (valsOf z y l),0,0⟩) := by
                show _ = _; rw [unhide hnum]; unfold numsAt; rw [if_pos (by rw [<- unhide HKV,<- unhide1 HRR]; exact h64)]
              clear hslot0
              go_wp2_with (first
                | (at_len; refine wpList_len_own _ rfl _ 219 rfl 9 231 Tryz.underlying219 (unitElem (H := Unit)) b n0 D rfl (unhide HO) ?_; rw [unhide HZ])
                | (go_at_call 190; refine (cl _).mono ?_; rintro e w' ⟨rfl,rfl⟩))
              refine (spelled_any z y b (l.filter (betw z y)) _ (unhide K3) (unhide hlaid _ (unhide G3)) (by have := unhide1 ZB; omega) (by have := unhide1 YB; omega) (by have := unhide1 ZB; omega) (by have := unhide1 HRR; omega)).mono ?_
              clear c0 c1 f0 f1
              rintro e w4 ⟨b',rfl,hk4,hb4,hw4⟩
              have K4 := hide hk4
              have G4 := hide (grown_below2 (unhide G3) hw4)
              have ST4 := hide ((unhide ST3).below hw4)
              clear hk4 hb4 hw4 ST3 K3 HO G3
              have hsl : Hid ((rising (spell z (y - z + 1).toNat (l.filter (betw z y)))).length <= 1000) := Nat.le_trans (rising_le _) (Nat.le_trans (spell_len _ _ _) (by have := unhide1 HRR; omega))
              go_wp2_with fail
              refine (list_any miss b' _ _ (unhide K4) (unhide hsl)).mono ?_
              rintro e w5 ⟨v,rfl,hown,hw5⟩
              obtain ⟨a,c,rfl⟩ := hown.strs.val
              have G5 := hide (grown_below2 (unhide G4) hw5)
              have hlt5 := hide ((unhide ST4).2.2.2.2.2.2)
              have hle5 := hide ((unhide G4).size)
              obtain ⟨_,_,_,_,hs5⟩ := (unhide ST4).below hw5
              have hs6 : Slot w5 (w.heap.size + 1 + 1) := hs5
              obtain ⟨⟨k0,k1,k2,k3,k4,k5⟩,hf,_⟩ := hs6
              rw [list_left z y l _ (unhide HMM)] at hown ⊢
              have HO5 := hide hown
              obtain ⟨n,hn⟩ : ∃ n,n = (listOf z y (valsOf z y l)).length := ⟨_,rfl⟩
              rw [<- hn] at HO5 ⊢
              clear hw5 hown hn ST4 hs5 K4 hsl
              go_wp2_with fail
              refine bodyPost_ret (v := .tuple #[.agg #[.bool miss,.bool false,.bool false,.slice a n c,.int .i64 0,.int .i64 0],.int .i64 0]) (by simp [results,Tryz.results176,go_sem,k0,k1,k2,k3,k4,k5]) rfl ?_
              rw [unhide HR]
              exact ⟨grown_put6 (unhide G5) _ _ _ _ _ _ (by omega),Or.inr ⟨_,_,unhide hans,rfl,((unhide HO5).grown (put6_grown w5 (w.heap.size + 1 + 1) _ _ _ _ _ _) (unhide hlt5)).mono (unhide hle5)⟩⟩
            · by_cases hk64 : 64 < k
              · have hans : Hid (numbersO lo hi l = none) := by
                  show _ = _; rw [unhide hnum]; unfold numsAt; rw [if_neg (by rw [<- unhide HKV,<- unhide1 HRR]; exact h64),if_pos (by rw [<- unhide HKV]; exact hk64)]
                have hs6 : Slot _ (w.heap.size + 1 + 1) := hslot0
                obtain ⟨⟨k0,k1,k2,k3,k4,k5⟩,hf,_⟩ := hs6
                clear hslot0
                have hki : 64 < (k : Int) := by omega
                go_wp2_with (first
                  | (at_len; refine wpList_len_own _ rfl _ 219 rfl 9 231 Tryz.underlying219 (unitElem (H := Unit)) b n0 D rfl (unhide HO) ?_; rw [unhide HZ])
                  | (go_at_call 190; refine (cl _).mono ?_; rintro e w' ⟨rfl,rfl⟩))
                refine bodyPost_ret (v := .tuple #[.agg #[.bool false,.bool false,.bool false,.slice none 0 0,.int .i64 0,.int .i64 0],.int .i64 3]) (by simp [results,Tryz.results176,go_sem,k0,k1,k2,k3,k4,k5]) rfl ?_
                rw [unhide HR]
                exact ⟨grown_put6 (unhide G3) _ _ _ _ _ _ (by omega),Or.inl ⟨unhide hans,rfl⟩⟩
              · have hans : Hid (numbersO lo hi l = some ⟨false,true,true,valsOf z y l,z,y⟩) := by
                  show _ = _; rw [unhide hnum]; unfold numsAt; rw [if_neg (by rw [<- unhide HKV,<- unhide1 HRR]; exact h64),if_neg (by rw [<- unhide HKV]; exact hk64)]
                clear hslot0
                have hki : ¬ 64 < (k : Int) := by omega
                go_wp2_with (first
                  | (at_len; refine wpList_len_own _ rfl _ 219 rfl 9 231 Tryz.underlying219 (unitElem (H := Unit)) b n0 D rfl (unhide HO) ?_; rw [unhide HZ])
                  | (go_at_call 190; refine (cl _).mono ?_; rintro e w' ⟨rfl,rfl⟩))
                have hrl : Hid ((rising (l.filter (betw z y))).length <= 1000) := by show _ <= _; rw [unhide HRV,<- unhide HKV]; omega
                have HRV2 := HRV
                have hlt5 := hide ((unhide ST3).2.2.2.2.2.2)
                have hle5 := hide ((unhide G3).size)
                have c01 := two_drew c0 c1
                clear HK HL HLE hbd hlaid hbB HLL E0 E1 HZ HO HMM HKV HRV hk9 YB ZB hnum HRR cl h64 hk64 hki hle hle2 f0 f1
                go_region_held3 (fun W => W.cell? ⟨w.heap.size,0,none⟩ = some (.int .i64 z) /\ W.cell? ⟨w.heap.size + 1,0,none⟩ = some (.int .i64 y))
                  (first | (with_reducible exact two_drew c0 c1) | (with_reducible assumption) | (with_reducible refine two_set6 (by omega) (by omega) ?_; with_reducible assumption))
                  (first | (go_at_call 185; refine (rising_shape b (l.filter (betw z y)) _ ((unhide K3).below (Below.refl _ _).drew) (unhide hrl)).mono ?_; rintro e w5 ⟨a,n,c,rfl,hown,hw5⟩; have HO5 := hide hown; clear hown; obtain ⟨k0,k1,k2,k3,k4,k5,g0,g1,g2,g3,g4,g5⟩ := slot_facts (drew_below hw5) (unhide ST3).2.2.2.2; have hS5 := two_call (drew_below hw5) ⟨c0,c1⟩; have HW5 := hide (drew_below hw5); clear hw5 c0 c1))
                go_wp2_with fail
                refine bodyPost_ret (v := .tuple #[.agg #[.bool miss,.bool true,.bool true,.slice a n c,.int .i64 z,.int .i64 y],.int .i64 0]) (by simp [results,Tryz.results176,go_sem,k0,k1,k2,k3,k4,k5]) rfl ?_
                rw [unhide HR]
                exact ⟨grown_put6 (grown_below2 (unhide G3) (unhide HW5)) _ _ _ _ _ _ (by omega),Or.inr ⟨_,_,unhide hans,rfl,(unhide HRV2 ▸ ((unhide HO5).grown (put6_grown w5 (w.heap.size + 1 + 1) _ _ _ _ _ _) (unhide hlt5)).mono (unhide hle5))⟩⟩
      · have hz1 := hide1 (atLo_next (unhide1 hz) hle (unhide hQ).symm)
        have K2 := hide (hk2.congr (strike_lo l z hi (unhide1 zb).1 (unhide1 zb).2) (unhide HLL _ (List.length_filter_le _ _)))
        clear hk2 hg2 hkeys hg hct
        obtain ⟨c0,c1,f0,f1,_⟩ := unhide ST2
        go_wp2_with fail
        go_roundw
        case rel => exact ⟨z + 1,hz1,(unhide ST2).setLo (z + 1),(unhide K2).set _ (by have := unhide hbB; omega),grown_set (unhide G2) _ (Nat.le_refl _)⟩
        case measure => rw [loM_eq ((unhide ST2).setLo (z + 1)),loM_eq (unhide hst)]; omega
    · have E0 := hide (atLo_end (unhide1 hz) (Or.inl (by omega)))
      have ST2 := hst
      have G2 := hg
      have K2 := hkeys
      have zb := hz
      obtain ⟨c0,c1,f0,f1,_⟩ := unhide hst
      clear hst hg hkeys
      go_wp2_with fail
      clear zb
      have ZB : Hid (Unit -> (-2147483648 <= z /\ z <= 2147483649)) := hide1 (by have := unhide1 hbd; have h2 := (unhide1 hz).2.1; have h3 := (unhide1 hz).2.2.1; have h4 := (unhide1 hz).2.2.2; omega)
      clear hz
      go_loopw [23] (fun _ W => ∃ y : Int,Hid (Unit -> atHi lo hi l y) /\ Hid (NumSt W w.heap.size z y) /\ Hid (Keys W b (l.filter (betw z y))) /\ Hid (w.grownBy W (some b))) (fun _ W => hiM W w.heap.size z)
      case atStart => exact ⟨hi,fun _ => atHi_start lo hi l,ST2,K2,G2⟩
      case round =>
        clear ST2 G2 K2
        obtain ⟨y,hy,hst,hkeys,hg⟩ := hrel
        by_cases hle2 : z <= y
        · have zb : Hid (Unit -> (-2147483648 <= y /\ y <= 2147483648)) := hide1 (by have := unhide1 hbd; have := unhide1 ZB; have := (unhide1 hy).2.1; omega)
          have hwz := wrap_small (y - 1) (by have := unhide1 zb; omega) (by have := unhide1 zb; omega)
          obtain ⟨q,hq⟩ : ∃ q,q = l.contains (decZ y) := ⟨_,rfl⟩
          have hQ := hide hq
          have hct := hide (has_betw l z y y (unhide1 zb).1 (unhide1 zb).2 hle2 (Int.le_refl _))
          clear hq
          obtain ⟨c0,c1,f0,f1,_⟩ := unhide hst
          go_wp2_with fail
          refine (take_any b (l.filter (betw z y)) y _ (unhide hkeys) (unhide hlaid _ (unhide hg)) (by have := unhide1 zb; omega) (by have := unhide1 zb; omega)).mono ?_
          rintro e w3 ⟨he,hk2,hg2⟩
          rw [unhide hct,<- unhide hQ] at he
          subst he
          have ST3 := hide ((unhide hst).turn (unhide hkeys) hg2)
          have G3 := hide ((unhide hg).trans hg2)
          clear c0 c1 f0 f1
          cases q
          · have E1 := hide (atHi_end (unhide1 hy) (Or.inr (unhide hQ).symm))
            have K3 := hide (hk2.congr (strike_none _ _ (by rw [unhide hct]; exact (unhide hQ).symm)) (unhide HLL _ (List.length_filter_le _ _)))
            clear hk2 hg2 hst hkeys hg hct hQ hwz zb
            have hv := vals_left lo hi l
            rw [unhide E0,unhide E1] at hv
            obtain ⟨n0,D,ho,hD,_,_⟩ := unhide K3
            have hzv := keys_size ho hD
            rw [hv] at hzv
            obtain ⟨k,hkv⟩ : ∃ k,k = (valsOf z y l).length := ⟨_,rfl⟩
            rw [<- hkv] at hzv
            have HZ := hide hzv
            have HO := hide ho
            have HMM : Hid (∀ x,x ∈ l.filter (betw z y) ↔ x ∈ valsOf z y l) := fun x => by rw [<- hv,mem_rising]
            have HKV := hide hkv
            have HRV := hide hv
            have hk9 : k <= 900 := by rw [hkv]; exact Nat.le_trans (vals_le z y l) (unhide HLE)
            have YB : Hid (Unit -> (-2147483650 <= y /\ y <= 2147483648)) := hide1 (by have h1 := unhide1 hbd; have h2 := unhide1 hy; have h3 := unhide1 ZB; unfold atHi at h2; rw [unhide E0] at h2; have h4 := h2.2.1; have h5 := h2.2.2.1; have h6 := h2.2.2.2; omega)
            have hnum : Hid (numbersO lo hi l = numsAt z y l) := by show _ = _; unfold numbersO; rw [unhide E0,unhide E1]
            clear hv ho hD hzv hkv hy
            obtain ⟨r,hr⟩ : ∃ r : Int,r = y - z + 1 - (k : Int) := ⟨_,rfl⟩
            have cl : ∀ W,Calls Tryz.prog 190 #[.int .i64 z,.int .i64 y,.int .i64 k] W fun e w' => e = .returned (.int .i64 r) /\ w' = W := fun W => hr ▸ left_any z y k W (by have := unhide1 ZB; omega) (by have := unhide1 YB; omega) (by omega)
            have HRR := hide1 hr
            clear hr
            obtain ⟨c0,c1,f0,f1,hslot0⟩ := unhide ST3
            by_cases h64 : r <= 64
            · have hans : Hid (numbersO lo hi l = some ⟨false,false,false,listOf z y (valsOf z y l),0,0⟩) := by
                show _ = _; rw [unhide hnum]; unfold numsAt; rw [if_pos (by rw [<- unhide HKV,<- unhide1 HRR]; exact h64)]
              clear hslot0
              go_wp2_with (first
                | (at_len; refine wpList_len_own _ rfl _ 219 rfl 9 231 Tryz.underlying219 (unitElem (H := Unit)) b n0 D rfl (unhide HO) ?_; rw [unhide HZ])
                | (go_at_call 190; refine (cl _).mono ?_; rintro e w' ⟨rfl,rfl⟩))
              refine (spelled_any z y b (l.filter (betw z y)) _ (unhide K3) (unhide hlaid _ (unhide G3)) (by have := unhide1 ZB; omega) (by have := unhide1 YB; omega) (by have := unhide1 ZB; omega) (by have := unhide1 HRR; omega)).mono ?_
              clear c0 c1 f0 f1
              rintro e w4 ⟨b',rfl,hk4,hb4,hw4⟩
              have K4 := hide hk4
              have G4 := hide (grown_below2 (unhide G3) hw4)
              have ST4 := hide ((unhide ST3).below hw4)
              clear hk4 hb4 hw4 ST3 K3 HO G3
              have hsl : Hid ((rising (spell z (y - z + 1).toNat (l.filter (betw z y)))).length <= 1000) := Nat.le_trans (rising_le _) (Nat.le_trans (spell_len _ _ _) (by have := unhide1 HRR; omega))
              go_wp2_with fail
              refine (list_any miss b' _ _ (unhide K4) (unhide hsl)).mono ?_
              rintro e w5 ⟨v,rfl,hown,hw5⟩
              obtain ⟨a,c,rfl⟩ := hown.strs.val
              have G5 := hide (grown_below2 (unhide G4) hw5)
              have hlt5 := hide ((unhide ST4).2.2.2.2.2.2)
              have hle5 := hide ((unhide G4).size)
              obtain ⟨_,_,_,_,hs5⟩ := (unhide ST4).below hw5
              have hs6 : Slot w5 (w.heap.size + 1 + 1) := hs5
              obtain ⟨⟨k0,k1,k2,k3,k4,k5⟩,hf,_⟩ := hs6
              rw [list_left z y l _ (unhide HMM)] at hown ⊢
              have HO5 := hide hown
              obtain ⟨n,hn⟩ : ∃ n,n = (listOf z y (valsOf z y l)).length := ⟨_,rfl⟩
              rw [<- hn] at HO5 ⊢
              clear hw5 hown hn ST4 hs5 K4 hsl
              go_wp2_with fail
              refine bodyPost_ret (v := .tuple #[.agg #[.bool miss,.bool false,.bool false,.slice a n c,.int .i64 0,.int .i64 0],.int .i64 0]) (by simp [results,Tryz.results176,go_sem,k0,k1,k2,k3,k4,k5]) rfl ?_
              rw [unhide HR]
              exact ⟨grown_put6 (unhide G5) _ _ _ _ _ _ (by omega),Or.inr ⟨_,_,unhide hans,rfl,((unhide HO5).grown (put6_grown w5 (w.heap.size + 1 + 1) _ _ _ _ _ _) (unhide hlt5)).mono (unhide hle5)⟩⟩
            · by_cases hk64 : 64 < k
              · have hans : Hid (numbersO lo hi l = none) := by
                  show _ = _; rw [unhide hnum]; unfold numsAt; rw [if_neg (by rw [<- unhide HKV,<- unhide1 HRR]; exact h64),if_pos (by rw [<- unhide HKV]; exact hk64)]
                have hs6 : Slot _ (w.heap.size + 1 + 1) := hslot0
                obtain ⟨⟨k0,k1,k2,k3,k4,k5⟩,hf,_⟩ := hs6
                clear hslot0
                have hki : 64 < (k : Int) := by omega
                go_wp2_with (first
                  | (at_len; refine wpList_len_own _ rfl _ 219 rfl 9 231 Tryz.underlying219 (unitElem (H := Unit)) b n0 D rfl (unhide HO) ?_; rw [unhide HZ])
                  | (go_at_call 190; refine (cl _).mono ?_; rintro e w' ⟨rfl,rfl⟩))
                refine bodyPost_ret (v := .tuple #[.agg #[.bool false,.bool false,.bool false,.slice none 0 0,.int .i64 0,.int .i64 0],.int .i64 3]) (by simp [results,Tryz.results176,go_sem,k0,k1,k2,k3,k4,k5]) rfl ?_
                rw [unhide HR]
                exact ⟨grown_put6 (unhide G3) _ _ _ _ _ _ (by omega),Or.inl ⟨unhide hans,rfl⟩⟩
              · have hans : Hid (numbersO lo hi l = some ⟨false,true,true,valsOf z y l,z,y⟩) := by
                  show _ = _; rw [unhide hnum]; unfold numsAt; rw [if_neg (by rw [<- unhide HKV,<- unhide1 HRR]; exact h64),if_neg (by rw [<- unhide HKV]; exact hk64)]
                clear hslot0
                have hki : ¬ 64 < (k : Int) := by omega
                go_wp2_with (first
                  | (at_len; refine wpList_len_own _ rfl _ 219 rfl 9 231 Tryz.underlying219 (unitElem (H := Unit)) b n0 D rfl (unhide HO) ?_; rw [unhide HZ])
                  | (go_at_call 190; refine (cl _).mono ?_; rintro e w' ⟨rfl,rfl⟩))
                have hrl : Hid ((rising (l.filter (betw z y))).length <= 1000) := by show _ <= _; rw [unhide HRV,<- unhide HKV]; omega
                have HRV2 := HRV
                have hlt5 := hide ((unhide ST3).2.2.2.2.2.2)
                have hle5 := hide ((unhide G3).size)
                have c01 := two_drew c0 c1
                clear HK HL HLE hbd hlaid hbB HLL E0 E1 HZ HO HMM HKV HRV hk9 YB ZB hnum HRR cl h64 hk64 hki hle hle2 f0 f1
                go_region_held3 (fun W => W.cell? ⟨w.heap.size,0,none⟩ = some (.int .i64 z) /\ W.cell? ⟨w.heap.size + 1,0,none⟩ = some (.int .i64 y))
                  (first | (with_reducible exact two_drew c0 c1) | (with_reducible assumption) | (with_reducible refine two_set6 (by omega) (by omega) ?_; with_reducible assumption))
                  (first | (go_at_call 185; refine (rising_shape b (l.filter (betw z y)) _ ((unhide K3).below (Below.refl _ _).drew) (unhide hrl)).mono ?_; rintro e w5 ⟨a,n,c,rfl,hown,hw5⟩; have HO5 := hide hown; clear hown; obtain ⟨k0,k1,k2,k3,k4,k5,g0,g1,g2,g3,g4,g5⟩ := slot_facts (drew_below hw5) (unhide ST3).2.2.2.2; have hS5 := two_call (drew_below hw5) ⟨c0,c1⟩; have HW5 := hide (drew_below hw5); clear hw5 c0 c1))
                go_wp2_with fail
                refine bodyPost_ret (v := .tuple #[.agg #[.bool miss,.bool true,.bool true,.slice a n c,.int .i64 z,.int .i64 y],.int .i64 0]) (by simp [results,Tryz.results176,go_sem,k0,k1,k2,k3,k4,k5]) rfl ?_
                rw [unhide HR]
                exact ⟨grown_put6 (grown_below2 (unhide G3) (unhide HW5)) _ _ _ _ _ _ (by omega),Or.inr ⟨_,_,unhide hans,rfl,(unhide HRV2 ▸ ((unhide HO5).grown (put6_grown w5 (w.heap.size + 1 + 1) _ _ _ _ _ _) (unhide hlt5)).mono (unhide hle5))⟩⟩
          · have hz1 := hide1 (atHi_next (unhide1 hy) (by rw [unhide E0]; exact hle2) (unhide hQ).symm)
            have K3 := hide (hk2.congr (strike_hi l z y (unhide1 zb).1 (unhide1 zb).2) (unhide HLL _ (List.length_filter_le _ _)))
            clear hk2 hg2 hkeys hg hct
            obtain ⟨c0,c1,f0,f1,_⟩ := unhide ST3
            go_wp2_with fail
            go_roundw
            case rel => exact ⟨y - 1,hz1,(unhide ST3).setHi (y - 1),(unhide K3).set _ (by have := unhide hbB; omega),grown_set (unhide G3) _ (by omega)⟩
            case measure => rw [hiM_eq ((unhide ST3).setHi (y - 1)),hiM_eq (unhide hst)]; omega
        · have E1 := hide (atHi_end (unhide1 hy) (Or.inl (by rw [unhide E0]; omega)))
          have ST3 := hst
          have G3 := hg
          have K3 := hkeys
          obtain ⟨c0,c1,f0,f1,_⟩ := unhide hst
          clear hst hg hkeys c0 c1 f0 f1
          have hv := vals_left lo hi l
          rw [unhide E0,unhide E1] at hv
          obtain ⟨n0,D,ho,hD,_,_⟩ := unhide K3
          have hzv := keys_size ho hD
          rw [hv] at hzv
          obtain ⟨k,hkv⟩ : ∃ k,k = (valsOf z y l).length := ⟨_,rfl⟩
          rw [<- hkv] at hzv
          have HZ := hide hzv
          have HO := hide ho
          have HMM : Hid (∀ x,x ∈ l.filter (betw z y) ↔ x ∈ valsOf z y l) := fun x => by rw [<- hv,mem_rising]
          have HKV := hide hkv
          have HRV := hide hv
          have hk9 : k <= 900 := by rw [hkv]; exact Nat.le_trans (vals_le z y l) (unhide HLE)
          have YB : Hid (Unit -> (-2147483650 <= y /\ y <= 2147483648)) := hide1 (by have h1 := unhide1 hbd; have h2 := unhide1 hy; have h3 := unhide1 ZB; unfold atHi at h2; rw [unhide E0] at h2; have h4 := h2.2.1; have h5 := h2.2.2.1; have h6 := h2.2.2.2; omega)
          have hnum : Hid (numbersO lo hi l = numsAt z y l) := by show _ = _; unfold numbersO; rw [unhide E0,unhide E1]
          clear hv ho hD hzv hkv hy
          obtain ⟨r,hr⟩ : ∃ r : Int,r = y - z + 1 - (k : Int) := ⟨_,rfl⟩
          have cl : ∀ W,Calls Tryz.prog 190 #[.int .i64 z,.int .i64 y,.int .i64 k] W fun e w' => e = .returned (.int .i64 r) /\ w' = W := fun W => hr ▸ left_any z y k W (by have := unhide1 ZB; omega) (by have := unhide1 YB; omega) (by omega)
          have HRR := hide1 hr
          clear hr
          obtain ⟨c0,c1,f0,f1,hslot0⟩ := unhide ST3
          by_cases h64 : r <= 64
          · have hans : Hid (numbersO lo hi l = some ⟨false,false,false,listOf z y (valsOf z y l),0,0⟩) := by
              show _ = _; rw [unhide hnum]; unfold numsAt; rw [if_pos (by rw [<- unhide HKV,<- unhide1 HRR]; exact h64)]
            clear hslot0
            go_wp2_with (first
              | (at_len; refine wpList_len_own _ rfl _ 219 rfl 9 231 Tryz.underlying219 (unitElem (H := Unit)) b n0 D rfl (unhide HO) ?_; rw [unhide HZ])
              | (go_at_call 190; refine (cl _).mono ?_; rintro e w' ⟨rfl,rfl⟩))
            refine (spelled_any z y b (l.filter (betw z y)) _ (unhide K3) (unhide hlaid _ (unhide G3)) (by have := unhide1 ZB; omega) (by have := unhide1 YB; omega) (by have := unhide1 ZB; omega) (by have := unhide1 HRR; omega)).mono ?_
            clear c0 c1 f0 f1
            rintro e w4 ⟨b',rfl,hk4,hb4,hw4⟩
            have K4 := hide hk4
            have G4 := hide (grown_below2 (unhide G3) hw4)
            have ST4 := hide ((unhide ST3).below hw4)
            clear hk4 hb4 hw4 ST3 K3 HO G3
            have hsl : Hid ((rising (spell z (y - z + 1).toNat (l.filter (betw z y)))).length <= 1000) := Nat.le_trans (rising_le _) (Nat.le_trans (spell_len _ _ _) (by have := unhide1 HRR; omega))
            go_wp2_with fail
            refine (list_any miss b' _ _ (unhide K4) (unhide hsl)).mono ?_
            rintro e w5 ⟨v,rfl,hown,hw5⟩
            obtain ⟨a,c,rfl⟩ := hown.strs.val
            have G5 := hide (grown_below2 (unhide G4) hw5)
            have hlt5 := hide ((unhide ST4).2.2.2.2.2.2)
            have hle5 := hide ((unhide G4).size)
            obtain ⟨_,_,_,_,hs5⟩ := (unhide ST4).below hw5
            have hs6 : Slot w5 (w.heap.size + 1 + 1) := hs5
            obtain ⟨⟨k0,k1,k2,k3,k4,k5⟩,hf,_⟩ := hs6
            rw [list_left z y l _ (unhide HMM)] at hown ⊢
            have HO5 := hide hown
            obtain ⟨n,hn⟩ : ∃ n,n = (listOf z y (valsOf z y l)).length := ⟨_,rfl⟩
            rw [<- hn] at HO5 ⊢
            clear hw5 hown hn ST4 hs5 K4 hsl
            go_wp2_with fail
            refine bodyPost_ret (v := .tuple #[.agg #[.bool miss,.bool false,.bool false,.slice a n c,.int .i64 0,.int .i64 0],.int .i64 0]) (by simp [results,Tryz.results176,go_sem,k0,k1,k2,k3,k4,k5]) rfl ?_
            rw [unhide HR]
            exact ⟨grown_put6 (unhide G5) _ _ _ _ _ _ (by omega),Or.inr ⟨_,_,unhide hans,rfl,((unhide HO5).grown (put6_grown w5 (w.heap.size + 1 + 1) _ _ _ _ _ _) (unhide hlt5)).mono (unhide hle5)⟩⟩
          · by_cases hk64 : 64 < k
            · have hans : Hid (numbersO lo hi l = none) := by
                show _ = _; rw [unhide hnum]; unfold numsAt; rw [if_neg (by rw [<- unhide HKV,<- unhide1 HRR]; exact h64),if_pos (by rw [<- unhide HKV]; exact hk64)]
              have hs6 : Slot _ (w.heap.size + 1 + 1) := hslot0
              obtain ⟨⟨k0,k1,k2,k3,k4,k5⟩,hf,_⟩ := hs6
              clear hslot0
              have hki : 64 < (k : Int) := by omega
              go_wp2_with (first
                | (at_len; refine wpList_len_own _ rfl _ 219 rfl 9 231 Tryz.underlying219 (unitElem (H := Unit)) b n0 D rfl (unhide HO) ?_; rw [unhide HZ])
                | (go_at_call 190; refine (cl _).mono ?_; rintro e w' ⟨rfl,rfl⟩))
              refine bodyPost_ret (v := .tuple #[.agg #[.bool false,.bool false,.bool false,.slice none 0 0,.int .i64 0,.int .i64 0],.int .i64 3]) (by simp [results,Tryz.results176,go_sem,k0,k1,k2,k3,k4,k5]) rfl ?_
              rw [unhide HR]
              exact ⟨grown_put6 (unhide G3) _ _ _ _ _ _ (by omega),Or.inl ⟨unhide hans,rfl⟩⟩
            · have hans : Hid (numbersO lo hi l = some ⟨false,true,true,valsOf z y l,z,y⟩) := by
                show _ = _; rw [unhide hnum]; unfold numsAt; rw [if_neg (by rw [<- unhide HKV,<- unhide1 HRR]; exact h64),if_neg (by rw [<- unhide HKV]; exact hk64)]
              clear hslot0
              have hki : ¬ 64 < (k : Int) := by omega
              go_wp2_with (first
                | (at_len; refine wpList_len_own _ rfl _ 219 rfl 9 231 Tryz.underlying219 (unitElem (H := Unit)) b n0 D rfl (unhide HO) ?_; rw [unhide HZ])
                | (go_at_call 190; refine (cl _).mono ?_; rintro e w' ⟨rfl,rfl⟩))
              have hrl : Hid ((rising (l.filter (betw z y))).length <= 1000) := by show _ <= _; rw [unhide HRV,<- unhide HKV]; omega
              have HRV2 := HRV
              have hlt5 := hide ((unhide ST3).2.2.2.2.2.2)
              have hle5 := hide ((unhide G3).size)
              have c01 := two_drew c0 c1
              clear HK HL HLE hbd hlaid hbB HLL E0 E1 HZ HO HMM HKV HRV hk9 YB ZB hnum HRR cl h64 hk64 hki hle hle2 f0 f1
              go_region_held3 (fun W => W.cell? ⟨w.heap.size,0,none⟩ = some (.int .i64 z) /\ W.cell? ⟨w.heap.size + 1,0,none⟩ = some (.int .i64 y))
                (first | (with_reducible exact two_drew c0 c1) | (with_reducible assumption) | (with_reducible refine two_set6 (by omega) (by omega) ?_; with_reducible assumption))
                (first | (go_at_call 185; refine (rising_shape b (l.filter (betw z y)) _ ((unhide K3).below (Below.refl _ _).drew) (unhide hrl)).mono ?_; rintro e w5 ⟨a,n,c,rfl,hown,hw5⟩; have HO5 := hide hown; clear hown; obtain ⟨k0,k1,k2,k3,k4,k5,g0,g1,g2,g3,g4,g5⟩ := slot_facts (drew_below hw5) (unhide ST3).2.2.2.2; have hS5 := two_call (drew_below hw5) ⟨c0,c1⟩; have HW5 := hide (drew_below hw5); clear hw5 c0 c1))
              go_wp2_with fail
              refine bodyPost_ret (v := .tuple #[.agg #[.bool miss,.bool true,.bool true,.slice a n c,.int .i64 z,.int .i64 y],.int .i64 0]) (by simp [results,Tryz.results176,go_sem,k0,k1,k2,k3,k4,k5]) rfl ?_
              rw [unhide HR]
              exact ⟨grown_put6 (grown_below2 (unhide G3) (unhide HW5)) _ _ _ _ _ _ (by omega),Or.inr ⟨_,_,unhide hans,rfl,(unhide HRV2 ▸ ((unhide HO5).grown (put6_grown w5 (w.heap.size + 1 + 1) _ _ _ _ _ _) (unhide hlt5)).mono (unhide hle5))⟩⟩
end Go.Proofs.YtfpfdnapamdhjaaGreatDoor
