/- Layer 3: contract of the document's numbers. -/
import Derived.Test.YtfpfdnapamdhjaaGreatDoorV3XGZ
import Derived.Test.YtfpfdnapamdhjaaGreatDoorV3MGZ
import Derived.Test.YtfpfdnapamdhjaaGreatDoorV3APGZ
import Derived.Deep.RegionLaw
namespace Go.Proofs.YtfpfdnapamdhjaaGreatDoor
open Go.RowKit Suf Val Go.Maps

/-- What the document's numbers tells. -/
def rnumPost (o : Option VSet) (w : World) (e : Ending) (w' : World) : Prop :=
  ∃ v,e = .returned (.tuple #[.agg #[.bool (o.getD zeroS).miss,.bool (o.getD zeroS).no,.bool (o.getD zeroS).num,v,.int .i64 (o.getD zeroS).lo,.int .i64 (o.getD zeroS).hi],.bool o.isSome]) /\ Own w' w.heap.size v (o.getD zeroS).vals /\ Below w.heap.size w w'
theorem rnumPost_of {o : Option VSet} {s : VSet} {b : Bool} {w w' : World} {e : Ending} {v : Value} (hs : o.getD zeroS = s) (hb : o.isSome = b) (he : e = .returned (.tuple #[.agg #[.bool s.miss,.bool s.no,.bool s.num,v,.int .i64 s.lo,.int .i64 s.hi],.bool b])) (ho : Own w' w.heap.size v s.vals) (hw : Below w.heap.size w w') : rnumPost o w e w' := by
  subst hs hb; exact ⟨v,he,ho,hw⟩
theorem filter_next (l : List Txt) (p : Txt -> Bool) (k : Nat) (h : k < l.length) : (l.take (k + 1)).filter p = (l.take k).filter p ++ (if p l[k] = true then [l[k]] else []) := by
  rw [take_next l k h,List.filter_append]
  cases hp : p l[k] <;> simp [hp]
theorem rising_snoc (l : List Txt) (x : Txt) : Val.rising (l ++ [x]) = Val.put (Val.rising l) x := by unfold Val.rising; rw [List.foldl_append]; rfl
theorem vals_yes (l : List Txt) (p : Txt -> Bool) (k : Nat) (h : k < l.length) (hp : p l[k] = true) : Val.rising ((l.take (k + 1)).filter p) = Val.put (Val.rising ((l.take k).filter p)) l[k] := by
  rw [filter_next l p k h,if_pos hp,rising_snoc]
theorem vals_no (l : List Txt) (p : Txt -> Bool) (k : Nat) (h : k < l.length) (hp : p l[k] = false) : Val.rising ((l.take (k + 1)).filter p) = Val.rising ((l.take k).filter p) := by
  rw [filter_next l p k h,if_neg (by rw [hp]; decide),List.append_nil]
theorem spell_yes (lo : Int) (k : Nat) (l : List Txt) (h : l.contains (decZ (lo + k)) = false) : Val.rising (spell lo (k + 1) l) = Val.put (Val.rising (spell lo k l)) (decZ (lo + k)) := by
  rw [spell_next,if_neg (by rw [h]; decide),rising_snoc]
theorem spell_no (lo : Int) (k : Nat) (l : List Txt) (h : l.contains (decZ (lo + k)) = true) : Val.rising (spell lo (k + 1) l) = Val.rising (spell lo k l) := by
  rw [spell_next,if_pos h,List.append_nil]

set_option maxRecDepth 100000 in
set_option maxHeartbeats 8000000 in
theorem rnumbers_any (lo hi : Int) (v : Value) (l : List Txt) (w : World) (hv : Strs w v l) (hl : l.length <= 900) (h0 : -2147483648 <= lo) (h1 : lo <= 2147483649) (h2 : -2147483649 <= hi) (h3 : hi <= 2147483648) :
    Calls Tryz.prog 170 #[.int .i64 lo,.int .i64 hi,v] w fun e w' => rnumPost (numbersO lo hi l) w e w' := by
  obtain ⟨R,hR⟩ : ∃ R,R = numbersO lo hi l := ⟨_,rfl⟩
  rw [<- hR]
  have HR := hide hR
  have HV := hide hv
  have HO := hide hv.open
  have HS := hide hv.short
  have HB := hide1 (show -2147483648 <= lo /\ lo <= 2147483649 /\ -2147483649 <= hi /\ hi <= 2147483648 from ⟨h0,h1,h2,h3⟩)
  obtain ⟨a,c,rfl⟩ := hv.val
  clear hR hv h0 h1 h2 h3
  obtain ⟨n,hn⟩ : ∃ n,n = l.length := ⟨_,rfl⟩
  have HN := hide hn
  rw [<- hn] at hl HV ⊢
  clear hn
  obtain ⟨W0,hW0⟩ : ∃ W0,W0 = w.alloc (.cells #[.bool false,.bool false,.bool false,.slice none 0 0,.int .i64 0,.int .i64 0] 199) := ⟨_,rfl⟩
  have SL0 : Hid (Slot W0 w.heap.size) := by rw [hW0]; exact slot_new w _
  have B0 : Hid (Below w.heap.size w W0) := by rw [hW0]; exact box_below _
  have Z0 : Hid (W0.heap.size = w.heap.size + 1) := by rw [hW0]; show _ = _; simp
  have GW := hide hW0
  clear hW0
  go_enter Tryz.func170,Tryz.ntmps170
  go_wp2_with fail
  rw [<- unhide GW]
  go_loopw [0] (fun x W => ∃ z : Int,x = .int .i64 z /\ Hid (Unit -> atLo lo hi l z) /\ Hid (Below W0.heap.size W0 W)) (fun x _ => (hi + 1 - intOf x).toNat)
  case atStart => exact ⟨lo,rfl,fun _ => atLo_start lo hi l,Below.refl _ _⟩
  case round =>
    obtain ⟨z,rfl,hat,hbel⟩ := hrel
    by_cases hz : z <= hi
    · have HZ := hide1 (show -2147483648 <= z /\ z <= 2147483648 by have := unhide1 HB; have := (unhide1 hat).2.1; omega)
      have wz := wrap_small (z + 1) (by have := unhide1 HZ; omega) (by have := unhide1 HZ; omega)
      go_wp2_with fail
      refine (rdecimal_any z _ (by have := unhide1 HZ; omega) (by have := unhide1 HZ; omega)).mono ?_
      rintro e w1 ⟨rfl,hw1⟩
      have B1 := hide (chain (unhide hbel) hw1)
      clear hw1 hbel
      obtain ⟨q,hq⟩ : ∃ q,q = l.contains (decZ z) := ⟨_,rfl⟩
      have GQ := hide hq
      obtain ⟨X,hX⟩ : ∃ X,X = bytesT (decZ z) := ⟨_,rfl⟩
      have GX := hide hX
      rw [<- hX]
      clear hq hX
      go_wp2_with fail
      rw [unhide GX]
      refine (rin_any _ l (decZ z) _ ((unhide HV).below (chain (unhide B0) (unhide B1)))).mono ?_
      rintro e w2 ⟨he,hw2⟩
      rw [<- unhide GQ] at he
      subst he
      rw [<- unhide GX]
      have BL := hide (chain (unhide B1) hw2)
      clear hw2 B1
      cases q
      · have hlo : Hid (loOf lo hi l = z) := atLo_end (unhide1 hat) (Or.inr (unhide GQ).symm)
        have HZ2 := hide1 (show -2147483648 <= z /\ z <= 2147483649 by have := unhide1 HZ; omega)
        clear wz HZ hat
        go_wp2_with fail
        go_loopw [1] (fun x W => ∃ y : Int,x = .int .i64 y /\ Hid (Unit -> atHi lo hi l y) /\ Hid (Below W0.heap.size W0 W)) (fun x _ => (intOf x + 1 - z).toNat)
        case atStart => exact ⟨hi,rfl,fun _ => atHi_start lo hi l,BL⟩
        case round =>
          obtain ⟨y,rfl,hat2,hbel2⟩ := hrel
          clear BL
          by_cases hy : z <= y
          · have HY := hide1 (show -2147483648 <= y /\ y <= 2147483648 by have := unhide1 HB; have := unhide1 HZ2; have := (unhide1 hat2).2.1; omega)
            have wy := wrap_small (y - 1) (by have := unhide1 HY; omega) (by have := unhide1 HY; omega)
            go_wp2_with fail
            refine (rdecimal_any y _ (by have := unhide1 HY; omega) (by have := unhide1 HY; omega)).mono ?_
            rintro e w3 ⟨rfl,hw3⟩
            have B3 := hide (chain (unhide hbel2) hw3)
            clear hw3 hbel2
            obtain ⟨q2,hq2⟩ : ∃ q,q = l.contains (decZ y) := ⟨_,rfl⟩
            have GQ2 := hide hq2
            obtain ⟨X2,hX2⟩ : ∃ X,X = bytesT (decZ y) := ⟨_,rfl⟩
            have GX2 := hide hX2
            rw [<- hX2]
            clear hq2 hX2
            go_wp2_with fail
            rw [unhide GX2]
            refine (rin_any _ l (decZ y) _ ((unhide HV).below (chain (unhide B0) (unhide B3)))).mono ?_
            rintro e w4 ⟨he,hw4⟩
            rw [<- unhide GQ2] at he
            subst he
            rw [<- unhide GX2]
            have BM := hide (chain (unhide B3) hw4)
            clear hw4 B3
            cases q2
            · have hhi : Hid (hiOf lo hi l = y) := atHi_end (unhide1 hat2) (Or.inr (unhide GQ2).symm)
              have HY2 := hide1 (show -2147483649 <= y /\ y <= 2147483648 by have := unhide1 HY; omega)
              clear wy HY hat2
              have hnum : Hid (R = numsAt z y l) := by show _ = _; rw [unhide HR]; unfold numbersO; rw [unhide hlo,unhide hhi]
              clear hlo hhi
              go_wp2_with fail
              go_loopw [12,13] (fun x i W => ∃ k : Nat,k <= n /\ i = .int .i64 k /\ Hid (Own W W0.heap.size x (Val.rising ((l.take k).filter (within z y)))) /\ Hid (Below W0.heap.size W0 W)) (fun _ i _ => n - (intOf i).toNat)
              case atStart => exact ⟨0,Nat.zero_le _,rfl,own_nil _ _,BM⟩
              case round =>
                obtain ⟨k,hk,rfl,hout,hbel3⟩ := hrel
                clear BM
                obtain ⟨oa,oc,hoe⟩ := (unhide hout).strs.val
                obtain ⟨on,hon⟩ : ∃ m,m = (Val.rising ((l.take k).filter (within z y))).length := ⟨_,rfl⟩
                rw [<- hon] at hoe
                have GON := hide hon
                clear hon
                subst hoe
                by_cases hlt : k < n
                · have hlk : k < l.length := by rw [<- unhide HN]; exact hlt
                  obtain ⟨b,o,c',_,hval,hcell⟩ : ∃ b o c',0 < l.length /\ Value.slice a n c = .slice (some ⟨b,o,none⟩) l.length c' /\ ∀ j (hj : j < l.length),w.cell? ⟨b,o + j,none⟩ = some (.string (bytesT l[j])) := by
                    rcases unhide HO with ⟨_,_,h,_⟩ | h
                    · rw [h] at hlk; exact absurd hlk (Nat.not_lt_zero _)
                    · rw [unhide HN]; exact h
                  obtain rfl : a = some ⟨b,o,none⟩ := by injection hval
                  have hc := cell_kept (unhide hbel3) (cell_kept (unhide B0) (hcell k hlk))
                  clear hval hcell
                  have hyes := hide (vals_yes l (within z y) k hlk)
                  have hnot := hide (vals_no l (within z y) k hlk)
                  obtain ⟨t,ht⟩ : ∃ t,t = l[k] := ⟨_,rfl⟩
                  rw [<- ht] at hc hyes hnot
                  have hst : Hid (short t) := by rw [ht]; exact unhide HS _ (List.getElem_mem hlk)
                  have hrl : Hid ((Val.rising ((l.take k).filter (within z y))).length <= 1000000) := Nat.le_trans (rising_le _) (Nat.le_trans (List.length_filter_le _ _) (by rw [List.length_take]; omega))
                  clear ht hlk
                  obtain ⟨p,hp⟩ : ∃ p,p = numR t := ⟨_,rfl⟩
                  have hwt := hide (within_num z y t)
                  rw [<- hp] at hwt
                  have hP := hide hp
                  clear hp
                  obtain ⟨m,is⟩ := p
                  have HC := hide hc
                  go_wp2_with fail
                  refine (rnumber_any (bytesT t) _ (short_max (unhide hst))).mono ?_
                  rintro e w5 ⟨he,hw5⟩
                  rw [bytesT_list,<- unhide hP] at he
                  subst he
                  have B5 := hide (chain (unhide hbel3) hw5)
                  have OUT5 := hide ((unhide hout).below hw5)
                  have hc := cell_kept hw5 (unhide HC)
                  clear hw5 hbel3 hout HC
                  by_cases hin : is = true /\ z < m /\ m < y
                  · obtain ⟨rfl,hm0,hm1⟩ := hin
                    have hres := hide (unhide hyes (by rw [unhide hwt,decide_eq_true hm0,decide_eq_true hm1]; rfl))
                    clear hyes hnot
                    go_wp2_with fail
                    refine (rput_any _ _ _ t _ (unhide OUT5) (unhide B5).size (unhide hst) (unhide hrl)).mono ?_
                    rintro e w6 ⟨v6,rfl,hs6,hw6⟩
                    rw [<- unhide hres] at hs6
                    have S6 := hide hs6
                    have B6 := hide (chain (unhide B5) hw6)
                    clear hs6 hw6 hc
                    go_wp2_with fail
                    go_roundw
                    case rel => exact ⟨k + 1,by omega,by go_num,S6,B6⟩
                    case measure => simp [intOf]; omega
                  · have hf : within z y t = false := by
                      rw [unhide hwt]
                      cases is with
                      | false => rfl
                      | true =>
                        show (decide (z < m) && decide (m < y)) = false
                        by_cases hm0 : z < m
                        · rw [decide_eq_false (show ¬ m < y from fun c => hin ⟨rfl,hm0,c⟩),Bool.and_false]
                        · rw [decide_eq_false hm0]; rfl
                    have hres := hide (unhide hnot hf)
                    have S6 := OUT5
                    rw [<- unhide hres] at S6
                    clear hyes hnot hf OUT5
                    cases is with
                    | false =>
                      clear hin
                      go_wp2_with fail
                      go_roundw
                      case rel => exact ⟨k + 1,by omega,by go_num,S6,B5⟩
                      case measure => simp [intOf]; omega
                    | true =>
                      by_cases hm0 : z < m
                      · have hm1 : ¬ m < y := fun c => hin ⟨rfl,hm0,c⟩
                        clear hin
                        go_wp2_with fail
                        go_roundw
                        case rel => exact ⟨k + 1,by omega,by go_num,S6,B5⟩
                        case measure => simp [intOf]; omega
                      · clear hin
                        go_wp2_with fail
                        go_roundw
                        case rel => exact ⟨k + 1,by omega,by go_num,S6,B5⟩
                        case measure => simp [intOf]; omega
                · obtain rfl : k = n := by omega
                  rw [List.take_of_length_le (by rw [<- unhide HN]; exact Nat.le_refl _),show Val.rising (l.filter (within z y)) = valsOf z y l from rfl] at hout GON
                  have HON := hide1 (show on <= 900 by rw [unhide GON]; exact Nat.le_trans (vals_le z y l) (by rw [<- unhide HN]; exact hl))
                  have hl900 := unhide1 HON
                  have e1 := wrap_small (y - z) (by have := unhide1 HZ2; have := unhide1 HY2; omega) (by have := unhide1 HZ2; have := unhide1 HY2; omega)
                  have e2 := wrap_small (y - z + 1) (by have := unhide1 HZ2; have := unhide1 HY2; omega) (by have := unhide1 HZ2; have := unhide1 HY2; omega)
                  have e3 := wrap_small (y - z + 1 - (on : Int)) (by have := unhide1 HZ2; have := unhide1 HY2; omega) (by have := unhide1 HZ2; have := unhide1 HY2; omega)
                  by_cases h64 : y - z + 1 - (on : Int) <= 64
                  · have hR2 : Hid (R = some ⟨false,false,false,listOf z y (valsOf z y l),0,0⟩) := by
                      show _ = _
                      rw [unhide hnum]; unfold numsAt; rw [if_pos (by rw [<- unhide GON]; exact h64)]
                    obtain ⟨vs,hvs⟩ : ∃ vs,vs = valsOf z y l := ⟨_,rfl⟩
                    rw [<- hvs] at hout hR2
                    clear hvs hnum
                    have HT := hide1 (show (y - z + 1).toNat <= 964 by omega)
                    go_wp2_with fail
                    clear e1 e2 e3
                    go_loopw [16,17] (fun x i W => ∃ (j : Nat) (x0 : Int),j <= (y - z + 1).toNat /\ i = .int .i64 x0 /\ Hid (x0 = z + (j : Int)) /\ Hid (Own W W0.heap.size x (Val.rising (spell z j vs))) /\ Hid (Own W W0.heap.size (.slice oa on oc) vs) /\ Hid (Below W0.heap.size W0 W)) (fun _ i _ => (y + 1 - intOf i).toNat)
                    case atStart => exact ⟨0,z,Nat.zero_le _,rfl,by show z = z + ((0 : Nat) : Int); omega,own_nil _ _,hout,hbel3⟩
                    case round =>
                      clear hout hbel3
                      obtain ⟨j,x0,hj,rfl,hx0,hacc,hvals,hbel4⟩ := hrel
                      obtain ⟨pa,pc,hpe⟩ := (unhide hacc).strs.val
                      obtain ⟨pn,hpn⟩ : ∃ m,m = (Val.rising (spell z j vs)).length := ⟨_,rfl⟩
                      rw [<- hpn] at hpe
                      clear hpn
                      subst hpe
                      by_cases hjy : x0 <= y
                      · have HX0 := hide1 (show -2147483648 <= x0 /\ x0 <= 2147483648 by have := unhide1 HZ2; have := unhide1 HY2; have := unhide hx0; omega)
                        have wx := wrap_small (x0 + 1) (by have := unhide1 HX0; omega) (by have := unhide1 HX0; omega)
                        have hyes := hide (spell_yes z j vs)
                        have hnot := hide (spell_no z j vs)
                        rw [<- unhide hx0] at hyes hnot
                        have hnx : Hid (x0 + 1 = z + ((j + 1 : Nat) : Int)) := by show _ = _; have := unhide hx0; omega
                        have hjn : j + 1 <= (y - z + 1).toNat := by have := unhide hx0; omega
                        have hrl : Hid ((Val.rising (spell z j vs)).length <= 1000000) := Nat.le_trans (rising_le _) (Nat.le_trans (spell_len _ _ _) (by have := unhide1 HT; omega))
                        have hsd := hide (short_dec x0 (by have := unhide1 HX0; omega) (by have := unhide1 HX0; omega))
                        go_wp2_with fail
                        refine (rdecimal_any x0 _ (by have := unhide1 HX0; omega) (by have := unhide1 HX0; omega)).mono ?_
                        rintro e w7 ⟨rfl,hw7⟩
                        have B7 := hide (chain (unhide hbel4) hw7)
                        have V7 := hide ((unhide hvals).below hw7)
                        have A7 := hide ((unhide hacc).below hw7)
                        clear hw7 hbel4 hvals hacc
                        obtain ⟨q3,hq3⟩ : ∃ q,q = vs.contains (decZ x0) := ⟨_,rfl⟩
                        have GQ3 := hide hq3
                        obtain ⟨X3,hX3⟩ : ∃ X,X = bytesT (decZ x0) := ⟨_,rfl⟩
                        have GX3 := hide hX3
                        rw [<- hX3]
                        clear hq3 hX3
                        go_wp2_with fail
                        rw [unhide GX3]
                        refine (rin_any _ vs (decZ x0) _ (unhide V7).strs).mono ?_
                        rintro e w8 ⟨he,hw8⟩
                        rw [<- unhide GQ3] at he
                        subst he
                        rw [<- unhide GX3]
                        have B8 := hide (chain (unhide B7) hw8)
                        have V8 := hide ((unhide V7).below hw8)
                        have A8 := hide ((unhide A7).below hw8)
                        clear hw8 B7 V7 A7
                        cases q3
                        · have hres := hide (unhide hyes (unhide GQ3).symm)
                          go_wp2_with fail
                          rw [unhide GX3]
                          refine (rput_any _ _ _ (decZ x0) _ (unhide A8) (unhide B8).size (unhide hsd) (unhide hrl)).mono ?_
                          rintro e w9 ⟨v9,rfl,hs9,hw9⟩
                          rw [<- unhide hres] at hs9
                          rw [<- unhide GX3]
                          have A9 := hide hs9
                          have B9 := hide (chain (unhide B8) hw9)
                          have V9 := hide ((unhide V8).below hw9)
                          clear hs9 hw9 B8 A8 V8
                          go_wp2_with fail
                          go_roundw
                          case rel => exact ⟨j + 1,x0 + 1,hjn,by first | rfl | rw [wx],hnx,A9,V9,B9⟩
                          case measure => first | (simp [intOf]; omega) | (simp [intOf,wx]; omega)
                        · have hres := hide (unhide hnot (unhide GQ3).symm)
                          have A9 := A8
                          rw [<- unhide hres] at A9
                          clear A8
                          go_wp2_with fail
                          go_roundw
                          case rel => exact ⟨j + 1,x0 + 1,hjn,by first | rfl | rw [wx],hnx,A9,V8,B8⟩
                          case measure => first | (simp [intOf]; omega) | (simp [intOf,wx]; omega)
                      · have hjj : Hid (Val.rising (spell z j vs) = listOf z y vs) := by
                          have : j = (y - z + 1).toNat := by have := unhide hx0; omega
                          rw [this]; rfl
                        rw [unhide hjj] at hacc
                        obtain ⟨hsix,hfz,_⟩ := (unhide SL0).below (unhide hbel4)
                        obtain ⟨k0,k1,k2,k3,k4,k5⟩ := hsix
                        have BF := hide (chain (unhide B0) (unhide hbel4))
                        go_wp2_with fail
                        exact bodyPost_ret (v := .tuple #[.agg #[.bool false,.bool false,.bool false,.slice pa pn pc,.int .i64 0,.int .i64 0],.bool true]) (by simp [results,Tryz.results170,go_sem,k0,k1,k2,k3,k4,k5]) rfl
                          (rnumPost_of (s := ⟨false,false,false,listOf z y vs,0,0⟩) (by rw [unhide hR2]; rfl) (by rw [unhide hR2]; rfl) rfl (((unhide hacc).grown (put6_grown _ w.heap.size _ _ _ _ _ _) (by rw [unhide Z0]; exact Nat.lt_succ_self _)).mono (unhide B0).size) (put6_below _ _ _ _ _ _ (unhide BF) (Nat.le_refl _)))
                  · obtain ⟨hsix,hfz,_⟩ := (unhide SL0).below (unhide hbel3)
                    obtain ⟨k0,k1,k2,k3,k4,k5⟩ := hsix
                    have BF := hide (chain (unhide B0) (unhide hbel3))
                    by_cases hbig : 64 < on
                    · have hR2 : Hid (R = none) := by
                        show _ = _
                        rw [unhide hnum]; unfold numsAt; rw [<- unhide GON,if_neg h64,if_pos hbig]
                      have hbig' : 64 < (on : Int) := by omega
                      go_wp2_with fail
                      exact bodyPost_ret (v := .tuple #[.agg #[.bool false,.bool false,.bool false,.slice none 0 0,.int .i64 0,.int .i64 0],.bool false]) (by simp [results,Tryz.results170,go_sem,k0,k1,k2,k3,k4,k5]) rfl
                        (rnumPost_of (s := zeroS) (by rw [unhide hR2]; rfl) (by rw [unhide hR2]; rfl) rfl (own_nil _ _) (put6_below _ _ _ _ _ _ (unhide BF) (Nat.le_refl _)))
                    · have hR2 : Hid (R = some ⟨false,true,true,valsOf z y l,z,y⟩) := by
                        show _ = _
                        rw [unhide hnum]; unfold numsAt; rw [<- unhide GON,if_neg h64,if_neg hbig]
                      have hbig' : ¬ 64 < (on : Int) := by omega
                      go_wp2_with fail
                      exact bodyPost_ret (v := .tuple #[.agg #[.bool false,.bool true,.bool true,.slice oa on oc,.int .i64 z,.int .i64 y],.bool true]) (by simp [results,Tryz.results170,go_sem,k0,k1,k2,k3,k4,k5]) rfl
                        (rnumPost_of (s := ⟨false,true,true,valsOf z y l,z,y⟩) (by rw [unhide hR2]; rfl) (by rw [unhide hR2]; rfl) rfl (((unhide hout).grown (put6_grown _ w.heap.size _ _ _ _ _ _) (by rw [unhide Z0]; exact Nat.lt_succ_self _)).mono (unhide B0).size) (put6_below _ _ _ _ _ _ (unhide BF) (Nat.le_refl _)))
            · have hnx2 : Hid (Unit -> atHi lo hi l (y - 1)) := fun _ => atHi_next (unhide1 hat2) (by rw [unhide hlo]; exact hy) (unhide GQ2).symm
              go_wp2_with fail
              go_roundw
              case rel => exact ⟨y - 1,by first | rfl | rw [wy],hnx2,BM⟩
              case measure => first | (simp [intOf]; omega) | (simp [intOf,wy]; omega)
          · have hhi : Hid (hiOf lo hi l = y) := atHi_end (unhide1 hat2) (Or.inl (by rw [unhide hlo]; omega))
            have HY2 := hide1 (show -2147483649 <= y /\ y <= 2147483648 by have := unhide1 HB; have := unhide1 HZ2; have := (unhide1 hat2).2; rw [unhide hlo] at this; omega)
            have BM := hbel2
            clear hat2 hbel2
            have hnum : Hid (R = numsAt z y l) := by show _ = _; rw [unhide HR]; unfold numbersO; rw [unhide hlo,unhide hhi]
            clear hlo hhi
            go_wp2_with fail
            go_loopw [12,13] (fun x i W => ∃ k : Nat,k <= n /\ i = .int .i64 k /\ Hid (Own W W0.heap.size x (Val.rising ((l.take k).filter (within z y)))) /\ Hid (Below W0.heap.size W0 W)) (fun _ i _ => n - (intOf i).toNat)
            case atStart => exact ⟨0,Nat.zero_le _,rfl,own_nil _ _,BM⟩
            case round =>
              obtain ⟨k,hk,rfl,hout,hbel3⟩ := hrel
              clear BM
              obtain ⟨oa,oc,hoe⟩ := (unhide hout).strs.val
              obtain ⟨on,hon⟩ : ∃ m,m = (Val.rising ((l.take k).filter (within z y))).length := ⟨_,rfl⟩
              rw [<- hon] at hoe
              have GON := hide hon
              clear hon
              subst hoe
              by_cases hlt : k < n
              · have hlk : k < l.length := by rw [<- unhide HN]; exact hlt
                obtain ⟨b,o,c',_,hval,hcell⟩ : ∃ b o c',0 < l.length /\ Value.slice a n c = .slice (some ⟨b,o,none⟩) l.length c' /\ ∀ j (hj : j < l.length),w.cell? ⟨b,o + j,none⟩ = some (.string (bytesT l[j])) := by
                  rcases unhide HO with ⟨_,_,h,_⟩ | h
                  · rw [h] at hlk; exact absurd hlk (Nat.not_lt_zero _)
                  · rw [unhide HN]; exact h
                obtain rfl : a = some ⟨b,o,none⟩ := by injection hval
                have hc := cell_kept (unhide hbel3) (cell_kept (unhide B0) (hcell k hlk))
                clear hval hcell
                have hyes := hide (vals_yes l (within z y) k hlk)
                have hnot := hide (vals_no l (within z y) k hlk)
                obtain ⟨t,ht⟩ : ∃ t,t = l[k] := ⟨_,rfl⟩
                rw [<- ht] at hc hyes hnot
                have hst : Hid (short t) := by rw [ht]; exact unhide HS _ (List.getElem_mem hlk)
                have hrl : Hid ((Val.rising ((l.take k).filter (within z y))).length <= 1000000) := Nat.le_trans (rising_le _) (Nat.le_trans (List.length_filter_le _ _) (by rw [List.length_take]; omega))
                clear ht hlk
                obtain ⟨p,hp⟩ : ∃ p,p = numR t := ⟨_,rfl⟩
                have hwt := hide (within_num z y t)
                rw [<- hp] at hwt
                have hP := hide hp
                clear hp
                obtain ⟨m,is⟩ := p
                have HC := hide hc
                go_wp2_with fail
                refine (rnumber_any (bytesT t) _ (short_max (unhide hst))).mono ?_
                rintro e w5 ⟨he,hw5⟩
                rw [bytesT_list,<- unhide hP] at he
                subst he
                have B5 := hide (chain (unhide hbel3) hw5)
                have OUT5 := hide ((unhide hout).below hw5)
                have hc := cell_kept hw5 (unhide HC)
                clear hw5 hbel3 hout HC
                by_cases hin : is = true /\ z < m /\ m < y
                · obtain ⟨rfl,hm0,hm1⟩ := hin
                  have hres := hide (unhide hyes (by rw [unhide hwt,decide_eq_true hm0,decide_eq_true hm1]; rfl))
                  clear hyes hnot
                  go_wp2_with fail
                  refine (rput_any _ _ _ t _ (unhide OUT5) (unhide B5).size (unhide hst) (unhide hrl)).mono ?_
                  rintro e w6 ⟨v6,rfl,hs6,hw6⟩
                  rw [<- unhide hres] at hs6
                  have S6 := hide hs6
                  have B6 := hide (chain (unhide B5) hw6)
                  clear hs6 hw6 hc
                  go_wp2_with fail
                  go_roundw
                  case rel => exact ⟨k + 1,by omega,by go_num,S6,B6⟩
                  case measure => simp [intOf]; omega
                · have hf : within z y t = false := by
                    rw [unhide hwt]
                    cases is with
                    | false => rfl
                    | true =>
                      show (decide (z < m) && decide (m < y)) = false
                      by_cases hm0 : z < m
                      · rw [decide_eq_false (show ¬ m < y from fun c => hin ⟨rfl,hm0,c⟩),Bool.and_false]
                      · rw [decide_eq_false hm0]; rfl
                  have hres := hide (unhide hnot hf)
                  have S6 := OUT5
                  rw [<- unhide hres] at S6
                  clear hyes hnot hf OUT5
                  cases is with
                  | false =>
                    clear hin
                    go_wp2_with fail
                    go_roundw
                    case rel => exact ⟨k + 1,by omega,by go_num,S6,B5⟩
                    case measure => simp [intOf]; omega
                  | true =>
                    by_cases hm0 : z < m
                    · have hm1 : ¬ m < y := fun c => hin ⟨rfl,hm0,c⟩
                      clear hin
                      go_wp2_with fail
                      go_roundw
                      case rel => exact ⟨k + 1,by omega,by go_num,S6,B5⟩
                      case measure => simp [intOf]; omega
                    · clear hin
                      go_wp2_with fail
                      go_roundw
                      case rel => exact ⟨k + 1,by omega,by go_num,S6,B5⟩
                      case measure => simp [intOf]; omega
              · obtain rfl : k = n := by omega
                rw [List.take_of_length_le (by rw [<- unhide HN]; exact Nat.le_refl _),show Val.rising (l.filter (within z y)) = valsOf z y l from rfl] at hout GON
                have HON := hide1 (show on <= 900 by rw [unhide GON]; exact Nat.le_trans (vals_le z y l) (by rw [<- unhide HN]; exact hl))
                have hl900 := unhide1 HON
                have e1 := wrap_small (y - z) (by have := unhide1 HZ2; have := unhide1 HY2; omega) (by have := unhide1 HZ2; have := unhide1 HY2; omega)
                have e2 := wrap_small (y - z + 1) (by have := unhide1 HZ2; have := unhide1 HY2; omega) (by have := unhide1 HZ2; have := unhide1 HY2; omega)
                have e3 := wrap_small (y - z + 1 - (on : Int)) (by have := unhide1 HZ2; have := unhide1 HY2; omega) (by have := unhide1 HZ2; have := unhide1 HY2; omega)
                by_cases h64 : y - z + 1 - (on : Int) <= 64
                · have hR2 : Hid (R = some ⟨false,false,false,listOf z y (valsOf z y l),0,0⟩) := by
                    show _ = _
                    rw [unhide hnum]; unfold numsAt; rw [if_pos (by rw [<- unhide GON]; exact h64)]
                  obtain ⟨vs,hvs⟩ : ∃ vs,vs = valsOf z y l := ⟨_,rfl⟩
                  rw [<- hvs] at hout hR2
                  clear hvs hnum
                  have HT := hide1 (show (y - z + 1).toNat <= 964 by omega)
                  go_wp2_with fail
                  clear e1 e2 e3
                  go_loopw [16,17] (fun x i W => ∃ (j : Nat) (x0 : Int),j <= (y - z + 1).toNat /\ i = .int .i64 x0 /\ Hid (x0 = z + (j : Int)) /\ Hid (Own W W0.heap.size x (Val.rising (spell z j vs))) /\ Hid (Own W W0.heap.size (.slice oa on oc) vs) /\ Hid (Below W0.heap.size W0 W)) (fun _ i _ => (y + 1 - intOf i).toNat)
                  case atStart => exact ⟨0,z,Nat.zero_le _,rfl,by show z = z + ((0 : Nat) : Int); omega,own_nil _ _,hout,hbel3⟩
                  case round =>
                    clear hout hbel3
                    obtain ⟨j,x0,hj,rfl,hx0,hacc,hvals,hbel4⟩ := hrel
                    obtain ⟨pa,pc,hpe⟩ := (unhide hacc).strs.val
                    obtain ⟨pn,hpn⟩ : ∃ m,m = (Val.rising (spell z j vs)).length := ⟨_,rfl⟩
                    rw [<- hpn] at hpe
                    clear hpn
                    subst hpe
                    by_cases hjy : x0 <= y
                    · have HX0 := hide1 (show -2147483648 <= x0 /\ x0 <= 2147483648 by have := unhide1 HZ2; have := unhide1 HY2; have := unhide hx0; omega)
                      have wx := wrap_small (x0 + 1) (by have := unhide1 HX0; omega) (by have := unhide1 HX0; omega)
                      have hyes := hide (spell_yes z j vs)
                      have hnot := hide (spell_no z j vs)
                      rw [<- unhide hx0] at hyes hnot
                      have hnx : Hid (x0 + 1 = z + ((j + 1 : Nat) : Int)) := by show _ = _; have := unhide hx0; omega
                      have hjn : j + 1 <= (y - z + 1).toNat := by have := unhide hx0; omega
                      have hrl : Hid ((Val.rising (spell z j vs)).length <= 1000000) := Nat.le_trans (rising_le _) (Nat.le_trans (spell_len _ _ _) (by have := unhide1 HT; omega))
                      have hsd := hide (short_dec x0 (by have := unhide1 HX0; omega) (by have := unhide1 HX0; omega))
                      go_wp2_with fail
                      refine (rdecimal_any x0 _ (by have := unhide1 HX0; omega) (by have := unhide1 HX0; omega)).mono ?_
                      rintro e w7 ⟨rfl,hw7⟩
                      have B7 := hide (chain (unhide hbel4) hw7)
                      have V7 := hide ((unhide hvals).below hw7)
                      have A7 := hide ((unhide hacc).below hw7)
                      clear hw7 hbel4 hvals hacc
                      obtain ⟨q3,hq3⟩ : ∃ q,q = vs.contains (decZ x0) := ⟨_,rfl⟩
                      have GQ3 := hide hq3
                      obtain ⟨X3,hX3⟩ : ∃ X,X = bytesT (decZ x0) := ⟨_,rfl⟩
                      have GX3 := hide hX3
                      rw [<- hX3]
                      clear hq3 hX3
                      go_wp2_with fail
                      rw [unhide GX3]
                      refine (rin_any _ vs (decZ x0) _ (unhide V7).strs).mono ?_
                      rintro e w8 ⟨he,hw8⟩
                      rw [<- unhide GQ3] at he
                      subst he
                      rw [<- unhide GX3]
                      have B8 := hide (chain (unhide B7) hw8)
                      have V8 := hide ((unhide V7).below hw8)
                      have A8 := hide ((unhide A7).below hw8)
                      clear hw8 B7 V7 A7
                      cases q3
                      · have hres := hide (unhide hyes (unhide GQ3).symm)
                        go_wp2_with fail
                        rw [unhide GX3]
                        refine (rput_any _ _ _ (decZ x0) _ (unhide A8) (unhide B8).size (unhide hsd) (unhide hrl)).mono ?_
                        rintro e w9 ⟨v9,rfl,hs9,hw9⟩
                        rw [<- unhide hres] at hs9
                        rw [<- unhide GX3]
                        have A9 := hide hs9
                        have B9 := hide (chain (unhide B8) hw9)
                        have V9 := hide ((unhide V8).below hw9)
                        clear hs9 hw9 B8 A8 V8
                        go_wp2_with fail
                        go_roundw
                        case rel => exact ⟨j + 1,x0 + 1,hjn,by first | rfl | rw [wx],hnx,A9,V9,B9⟩
                        case measure => first | (simp [intOf]; omega) | (simp [intOf,wx]; omega)
                      · have hres := hide (unhide hnot (unhide GQ3).symm)
                        have A9 := A8
                        rw [<- unhide hres] at A9
                        clear A8
                        go_wp2_with fail
                        go_roundw
                        case rel => exact ⟨j + 1,x0 + 1,hjn,by first | rfl | rw [wx],hnx,A9,V8,B8⟩
                        case measure => first | (simp [intOf]; omega) | (simp [intOf,wx]; omega)
                    · have hjj : Hid (Val.rising (spell z j vs) = listOf z y vs) := by
                        have : j = (y - z + 1).toNat := by have := unhide hx0; omega
                        rw [this]; rfl
                      rw [unhide hjj] at hacc
                      obtain ⟨hsix,hfz,_⟩ := (unhide SL0).below (unhide hbel4)
                      obtain ⟨k0,k1,k2,k3,k4,k5⟩ := hsix
                      have BF := hide (chain (unhide B0) (unhide hbel4))
                      go_wp2_with fail
                      exact bodyPost_ret (v := .tuple #[.agg #[.bool false,.bool false,.bool false,.slice pa pn pc,.int .i64 0,.int .i64 0],.bool true]) (by simp [results,Tryz.results170,go_sem,k0,k1,k2,k3,k4,k5]) rfl
                        (rnumPost_of (s := ⟨false,false,false,listOf z y vs,0,0⟩) (by rw [unhide hR2]; rfl) (by rw [unhide hR2]; rfl) rfl (((unhide hacc).grown (put6_grown _ w.heap.size _ _ _ _ _ _) (by rw [unhide Z0]; exact Nat.lt_succ_self _)).mono (unhide B0).size) (put6_below _ _ _ _ _ _ (unhide BF) (Nat.le_refl _)))
                · exact absurd (show y - z + 1 - (on : Int) <= 64 by omega) h64
      · have hnx : Hid (Unit -> atLo lo hi l (z + 1)) := fun _ => atLo_next (unhide1 hat) hz (unhide GQ).symm
        go_wp2_with fail
        go_roundw
        case rel => exact ⟨z + 1,by first | rfl | rw [wz],hnx,BL⟩
        case measure => first | (simp [intOf]; omega) | (simp [intOf,wz]; omega)
    · have hlo : Hid (loOf lo hi l = z) := atLo_end (unhide1 hat) (Or.inl (by omega))
      have HZ2 := hide1 (show -2147483648 <= z /\ z <= 2147483649 by have := unhide1 HB; have := (unhide1 hat).2; omega)
      have BL := hbel
      clear hat hbel
      go_wp2_with fail
      go_loopw [1] (fun x W => ∃ y : Int,x = .int .i64 y /\ Hid (Unit -> atHi lo hi l y) /\ Hid (Below W0.heap.size W0 W)) (fun x _ => (intOf x + 1 - z).toNat)
      case atStart => exact ⟨hi,rfl,fun _ => atHi_start lo hi l,BL⟩
      case round =>
        obtain ⟨y,rfl,hat2,hbel2⟩ := hrel
        clear BL
        by_cases hy : z <= y
        · have HY := hide1 (show -2147483648 <= y /\ y <= 2147483648 by have := unhide1 HB; have := unhide1 HZ2; have := (unhide1 hat2).2.1; omega)
          have wy := wrap_small (y - 1) (by have := unhide1 HY; omega) (by have := unhide1 HY; omega)
          go_wp2_with fail
          refine (rdecimal_any y _ (by have := unhide1 HY; omega) (by have := unhide1 HY; omega)).mono ?_
          rintro e w3 ⟨rfl,hw3⟩
          have B3 := hide (chain (unhide hbel2) hw3)
          clear hw3 hbel2
          obtain ⟨q2,hq2⟩ : ∃ q,q = l.contains (decZ y) := ⟨_,rfl⟩
          have GQ2 := hide hq2
          obtain ⟨X2,hX2⟩ : ∃ X,X = bytesT (decZ y) := ⟨_,rfl⟩
          have GX2 := hide hX2
          rw [<- hX2]
          clear hq2 hX2
          go_wp2_with fail
          rw [unhide GX2]
          refine (rin_any _ l (decZ y) _ ((unhide HV).below (chain (unhide B0) (unhide B3)))).mono ?_
          rintro e w4 ⟨he,hw4⟩
          rw [<- unhide GQ2] at he
          subst he
          rw [<- unhide GX2]
          have BM := hide (chain (unhide B3) hw4)
          clear hw4 B3
          cases q2
          · have hhi : Hid (hiOf lo hi l = y) := atHi_end (unhide1 hat2) (Or.inr (unhide GQ2).symm)
            have HY2 := hide1 (show -2147483649 <= y /\ y <= 2147483648 by have := unhide1 HY; omega)
            clear wy HY hat2
            have hnum : Hid (R = numsAt z y l) := by show _ = _; rw [unhide HR]; unfold numbersO; rw [unhide hlo,unhide hhi]
            clear hlo hhi
            go_wp2_with fail
            go_loopw [12,13] (fun x i W => ∃ k : Nat,k <= n /\ i = .int .i64 k /\ Hid (Own W W0.heap.size x (Val.rising ((l.take k).filter (within z y)))) /\ Hid (Below W0.heap.size W0 W)) (fun _ i _ => n - (intOf i).toNat)
            case atStart => exact ⟨0,Nat.zero_le _,rfl,own_nil _ _,BM⟩
            case round =>
              obtain ⟨k,hk,rfl,hout,hbel3⟩ := hrel
              clear BM
              obtain ⟨oa,oc,hoe⟩ := (unhide hout).strs.val
              obtain ⟨on,hon⟩ : ∃ m,m = (Val.rising ((l.take k).filter (within z y))).length := ⟨_,rfl⟩
              rw [<- hon] at hoe
              have GON := hide hon
              clear hon
              subst hoe
              by_cases hlt : k < n
              · have hlk : k < l.length := by rw [<- unhide HN]; exact hlt
                obtain ⟨b,o,c',_,hval,hcell⟩ : ∃ b o c',0 < l.length /\ Value.slice a n c = .slice (some ⟨b,o,none⟩) l.length c' /\ ∀ j (hj : j < l.length),w.cell? ⟨b,o + j,none⟩ = some (.string (bytesT l[j])) := by
                  rcases unhide HO with ⟨_,_,h,_⟩ | h
                  · rw [h] at hlk; exact absurd hlk (Nat.not_lt_zero _)
                  · rw [unhide HN]; exact h
                obtain rfl : a = some ⟨b,o,none⟩ := by injection hval
                have hc := cell_kept (unhide hbel3) (cell_kept (unhide B0) (hcell k hlk))
                clear hval hcell
                have hyes := hide (vals_yes l (within z y) k hlk)
                have hnot := hide (vals_no l (within z y) k hlk)
                obtain ⟨t,ht⟩ : ∃ t,t = l[k] := ⟨_,rfl⟩
                rw [<- ht] at hc hyes hnot
                have hst : Hid (short t) := by rw [ht]; exact unhide HS _ (List.getElem_mem hlk)
                have hrl : Hid ((Val.rising ((l.take k).filter (within z y))).length <= 1000000) := Nat.le_trans (rising_le _) (Nat.le_trans (List.length_filter_le _ _) (by rw [List.length_take]; omega))
                clear ht hlk
                obtain ⟨p,hp⟩ : ∃ p,p = numR t := ⟨_,rfl⟩
                have hwt := hide (within_num z y t)
                rw [<- hp] at hwt
                have hP := hide hp
                clear hp
                obtain ⟨m,is⟩ := p
                have HC := hide hc
                go_wp2_with fail
                refine (rnumber_any (bytesT t) _ (short_max (unhide hst))).mono ?_
                rintro e w5 ⟨he,hw5⟩
                rw [bytesT_list,<- unhide hP] at he
                subst he
                have B5 := hide (chain (unhide hbel3) hw5)
                have OUT5 := hide ((unhide hout).below hw5)
                have hc := cell_kept hw5 (unhide HC)
                clear hw5 hbel3 hout HC
                by_cases hin : is = true /\ z < m /\ m < y
                · obtain ⟨rfl,hm0,hm1⟩ := hin
                  have hres := hide (unhide hyes (by rw [unhide hwt,decide_eq_true hm0,decide_eq_true hm1]; rfl))
                  clear hyes hnot
                  go_wp2_with fail
                  refine (rput_any _ _ _ t _ (unhide OUT5) (unhide B5).size (unhide hst) (unhide hrl)).mono ?_
                  rintro e w6 ⟨v6,rfl,hs6,hw6⟩
                  rw [<- unhide hres] at hs6
                  have S6 := hide hs6
                  have B6 := hide (chain (unhide B5) hw6)
                  clear hs6 hw6 hc
                  go_wp2_with fail
                  go_roundw
                  case rel => exact ⟨k + 1,by omega,by go_num,S6,B6⟩
                  case measure => simp [intOf]; omega
                · have hf : within z y t = false := by
                    rw [unhide hwt]
                    cases is with
                    | false => rfl
                    | true =>
                      show (decide (z < m) && decide (m < y)) = false
                      by_cases hm0 : z < m
                      · rw [decide_eq_false (show ¬ m < y from fun c => hin ⟨rfl,hm0,c⟩),Bool.and_false]
                      · rw [decide_eq_false hm0]; rfl
                  have hres := hide (unhide hnot hf)
                  have S6 := OUT5
                  rw [<- unhide hres] at S6
                  clear hyes hnot hf OUT5
                  cases is with
                  | false =>
                    clear hin
                    go_wp2_with fail
                    go_roundw
                    case rel => exact ⟨k + 1,by omega,by go_num,S6,B5⟩
                    case measure => simp [intOf]; omega
                  | true =>
                    by_cases hm0 : z < m
                    · have hm1 : ¬ m < y := fun c => hin ⟨rfl,hm0,c⟩
                      clear hin
                      go_wp2_with fail
                      go_roundw
                      case rel => exact ⟨k + 1,by omega,by go_num,S6,B5⟩
                      case measure => simp [intOf]; omega
                    · clear hin
                      go_wp2_with fail
                      go_roundw
                      case rel => exact ⟨k + 1,by omega,by go_num,S6,B5⟩
                      case measure => simp [intOf]; omega
              · obtain rfl : k = n := by omega
                rw [List.take_of_length_le (by rw [<- unhide HN]; exact Nat.le_refl _),show Val.rising (l.filter (within z y)) = valsOf z y l from rfl] at hout GON
                have HON := hide1 (show on <= 900 by rw [unhide GON]; exact Nat.le_trans (vals_le z y l) (by rw [<- unhide HN]; exact hl))
                have hl900 := unhide1 HON
                have e1 := wrap_small (y - z) (by have := unhide1 HZ2; have := unhide1 HY2; omega) (by have := unhide1 HZ2; have := unhide1 HY2; omega)
                have e2 := wrap_small (y - z + 1) (by have := unhide1 HZ2; have := unhide1 HY2; omega) (by have := unhide1 HZ2; have := unhide1 HY2; omega)
                have e3 := wrap_small (y - z + 1 - (on : Int)) (by have := unhide1 HZ2; have := unhide1 HY2; omega) (by have := unhide1 HZ2; have := unhide1 HY2; omega)
                by_cases h64 : y - z + 1 - (on : Int) <= 64
                · have hR2 : Hid (R = some ⟨false,false,false,listOf z y (valsOf z y l),0,0⟩) := by
                    show _ = _
                    rw [unhide hnum]; unfold numsAt; rw [if_pos (by rw [<- unhide GON]; exact h64)]
                  obtain ⟨vs,hvs⟩ : ∃ vs,vs = valsOf z y l := ⟨_,rfl⟩
                  rw [<- hvs] at hout hR2
                  clear hvs hnum
                  have HT := hide1 (show (y - z + 1).toNat <= 964 by omega)
                  go_wp2_with fail
                  clear e1 e2 e3
                  go_loopw [16,17] (fun x i W => ∃ (j : Nat) (x0 : Int),j <= (y - z + 1).toNat /\ i = .int .i64 x0 /\ Hid (x0 = z + (j : Int)) /\ Hid (Own W W0.heap.size x (Val.rising (spell z j vs))) /\ Hid (Own W W0.heap.size (.slice oa on oc) vs) /\ Hid (Below W0.heap.size W0 W)) (fun _ i _ => (y + 1 - intOf i).toNat)
                  case atStart => exact ⟨0,z,Nat.zero_le _,rfl,by show z = z + ((0 : Nat) : Int); omega,own_nil _ _,hout,hbel3⟩
                  case round =>
                    clear hout hbel3
                    obtain ⟨j,x0,hj,rfl,hx0,hacc,hvals,hbel4⟩ := hrel
                    obtain ⟨pa,pc,hpe⟩ := (unhide hacc).strs.val
                    obtain ⟨pn,hpn⟩ : ∃ m,m = (Val.rising (spell z j vs)).length := ⟨_,rfl⟩
                    rw [<- hpn] at hpe
                    clear hpn
                    subst hpe
                    by_cases hjy : x0 <= y
                    · have HX0 := hide1 (show -2147483648 <= x0 /\ x0 <= 2147483648 by have := unhide1 HZ2; have := unhide1 HY2; have := unhide hx0; omega)
                      have wx := wrap_small (x0 + 1) (by have := unhide1 HX0; omega) (by have := unhide1 HX0; omega)
                      have hyes := hide (spell_yes z j vs)
                      have hnot := hide (spell_no z j vs)
                      rw [<- unhide hx0] at hyes hnot
                      have hnx : Hid (x0 + 1 = z + ((j + 1 : Nat) : Int)) := by show _ = _; have := unhide hx0; omega
                      have hjn : j + 1 <= (y - z + 1).toNat := by have := unhide hx0; omega
                      have hrl : Hid ((Val.rising (spell z j vs)).length <= 1000000) := Nat.le_trans (rising_le _) (Nat.le_trans (spell_len _ _ _) (by have := unhide1 HT; omega))
                      have hsd := hide (short_dec x0 (by have := unhide1 HX0; omega) (by have := unhide1 HX0; omega))
                      go_wp2_with fail
                      refine (rdecimal_any x0 _ (by have := unhide1 HX0; omega) (by have := unhide1 HX0; omega)).mono ?_
                      rintro e w7 ⟨rfl,hw7⟩
                      have B7 := hide (chain (unhide hbel4) hw7)
                      have V7 := hide ((unhide hvals).below hw7)
                      have A7 := hide ((unhide hacc).below hw7)
                      clear hw7 hbel4 hvals hacc
                      obtain ⟨q3,hq3⟩ : ∃ q,q = vs.contains (decZ x0) := ⟨_,rfl⟩
                      have GQ3 := hide hq3
                      obtain ⟨X3,hX3⟩ : ∃ X,X = bytesT (decZ x0) := ⟨_,rfl⟩
                      have GX3 := hide hX3
                      rw [<- hX3]
                      clear hq3 hX3
                      go_wp2_with fail
                      rw [unhide GX3]
                      refine (rin_any _ vs (decZ x0) _ (unhide V7).strs).mono ?_
                      rintro e w8 ⟨he,hw8⟩
                      rw [<- unhide GQ3] at he
                      subst he
                      rw [<- unhide GX3]
                      have B8 := hide (chain (unhide B7) hw8)
                      have V8 := hide ((unhide V7).below hw8)
                      have A8 := hide ((unhide A7).below hw8)
                      clear hw8 B7 V7 A7
                      cases q3
                      · have hres := hide (unhide hyes (unhide GQ3).symm)
                        go_wp2_with fail
                        rw [unhide GX3]
                        refine (rput_any _ _ _ (decZ x0) _ (unhide A8) (unhide B8).size (unhide hsd) (unhide hrl)).mono ?_
                        rintro e w9 ⟨v9,rfl,hs9,hw9⟩
                        rw [<- unhide hres] at hs9
                        rw [<- unhide GX3]
                        have A9 := hide hs9
                        have B9 := hide (chain (unhide B8) hw9)
                        have V9 := hide ((unhide V8).below hw9)
                        clear hs9 hw9 B8 A8 V8
                        go_wp2_with fail
                        go_roundw
                        case rel => exact ⟨j + 1,x0 + 1,hjn,by first | rfl | rw [wx],hnx,A9,V9,B9⟩
                        case measure => first | (simp [intOf]; omega) | (simp [intOf,wx]; omega)
                      · have hres := hide (unhide hnot (unhide GQ3).symm)
                        have A9 := A8
                        rw [<- unhide hres] at A9
                        clear A8
                        go_wp2_with fail
                        go_roundw
                        case rel => exact ⟨j + 1,x0 + 1,hjn,by first | rfl | rw [wx],hnx,A9,V8,B8⟩
                        case measure => first | (simp [intOf]; omega) | (simp [intOf,wx]; omega)
                    · have hjj : Hid (Val.rising (spell z j vs) = listOf z y vs) := by
                        have : j = (y - z + 1).toNat := by have := unhide hx0; omega
                        rw [this]; rfl
                      rw [unhide hjj] at hacc
                      obtain ⟨hsix,hfz,_⟩ := (unhide SL0).below (unhide hbel4)
                      obtain ⟨k0,k1,k2,k3,k4,k5⟩ := hsix
                      have BF := hide (chain (unhide B0) (unhide hbel4))
                      go_wp2_with fail
                      exact bodyPost_ret (v := .tuple #[.agg #[.bool false,.bool false,.bool false,.slice pa pn pc,.int .i64 0,.int .i64 0],.bool true]) (by simp [results,Tryz.results170,go_sem,k0,k1,k2,k3,k4,k5]) rfl
                        (rnumPost_of (s := ⟨false,false,false,listOf z y vs,0,0⟩) (by rw [unhide hR2]; rfl) (by rw [unhide hR2]; rfl) rfl (((unhide hacc).grown (put6_grown _ w.heap.size _ _ _ _ _ _) (by rw [unhide Z0]; exact Nat.lt_succ_self _)).mono (unhide B0).size) (put6_below _ _ _ _ _ _ (unhide BF) (Nat.le_refl _)))
                · obtain ⟨hsix,hfz,_⟩ := (unhide SL0).below (unhide hbel3)
                  obtain ⟨k0,k1,k2,k3,k4,k5⟩ := hsix
                  have BF := hide (chain (unhide B0) (unhide hbel3))
                  by_cases hbig : 64 < on
                  · have hR2 : Hid (R = none) := by
                      show _ = _
                      rw [unhide hnum]; unfold numsAt; rw [<- unhide GON,if_neg h64,if_pos hbig]
                    have hbig' : 64 < (on : Int) := by omega
                    go_wp2_with fail
                    exact bodyPost_ret (v := .tuple #[.agg #[.bool false,.bool false,.bool false,.slice none 0 0,.int .i64 0,.int .i64 0],.bool false]) (by simp [results,Tryz.results170,go_sem,k0,k1,k2,k3,k4,k5]) rfl
                      (rnumPost_of (s := zeroS) (by rw [unhide hR2]; rfl) (by rw [unhide hR2]; rfl) rfl (own_nil _ _) (put6_below _ _ _ _ _ _ (unhide BF) (Nat.le_refl _)))
                  · have hR2 : Hid (R = some ⟨false,true,true,valsOf z y l,z,y⟩) := by
                      show _ = _
                      rw [unhide hnum]; unfold numsAt; rw [<- unhide GON,if_neg h64,if_neg hbig]
                    have hbig' : ¬ 64 < (on : Int) := by omega
                    go_wp2_with fail
                    exact bodyPost_ret (v := .tuple #[.agg #[.bool false,.bool true,.bool true,.slice oa on oc,.int .i64 z,.int .i64 y],.bool true]) (by simp [results,Tryz.results170,go_sem,k0,k1,k2,k3,k4,k5]) rfl
                      (rnumPost_of (s := ⟨false,true,true,valsOf z y l,z,y⟩) (by rw [unhide hR2]; rfl) (by rw [unhide hR2]; rfl) rfl (((unhide hout).grown (put6_grown _ w.heap.size _ _ _ _ _ _) (by rw [unhide Z0]; exact Nat.lt_succ_self _)).mono (unhide B0).size) (put6_below _ _ _ _ _ _ (unhide BF) (Nat.le_refl _)))
          · have hnx2 : Hid (Unit -> atHi lo hi l (y - 1)) := fun _ => atHi_next (unhide1 hat2) (by rw [unhide hlo]; exact hy) (unhide GQ2).symm
            go_wp2_with fail
            go_roundw
            case rel => exact ⟨y - 1,by first | rfl | rw [wy],hnx2,BM⟩
            case measure => first | (simp [intOf]; omega) | (simp [intOf,wy]; omega)
        · have hhi : Hid (hiOf lo hi l = y) := atHi_end (unhide1 hat2) (Or.inl (by rw [unhide hlo]; omega))
          have HY2 := hide1 (show -2147483649 <= y /\ y <= 2147483648 by have := unhide1 HB; have := unhide1 HZ2; have := (unhide1 hat2).2; rw [unhide hlo] at this; omega)
          have BM := hbel2
          clear hat2 hbel2
          have hnum : Hid (R = numsAt z y l) := by show _ = _; rw [unhide HR]; unfold numbersO; rw [unhide hlo,unhide hhi]
          clear hlo hhi
          go_wp2_with fail
          go_loopw [12,13] (fun x i W => ∃ k : Nat,k <= n /\ i = .int .i64 k /\ Hid (Own W W0.heap.size x (Val.rising ((l.take k).filter (within z y)))) /\ Hid (Below W0.heap.size W0 W)) (fun _ i _ => n - (intOf i).toNat)
          case atStart => exact ⟨0,Nat.zero_le _,rfl,own_nil _ _,BM⟩
          case round =>
            obtain ⟨k,hk,rfl,hout,hbel3⟩ := hrel
            clear BM
            obtain ⟨oa,oc,hoe⟩ := (unhide hout).strs.val
            obtain ⟨on,hon⟩ : ∃ m,m = (Val.rising ((l.take k).filter (within z y))).length := ⟨_,rfl⟩
            rw [<- hon] at hoe
            have GON := hide hon
            clear hon
            subst hoe
            by_cases hlt : k < n
            · have hlk : k < l.length := by rw [<- unhide HN]; exact hlt
              obtain ⟨b,o,c',_,hval,hcell⟩ : ∃ b o c',0 < l.length /\ Value.slice a n c = .slice (some ⟨b,o,none⟩) l.length c' /\ ∀ j (hj : j < l.length),w.cell? ⟨b,o + j,none⟩ = some (.string (bytesT l[j])) := by
                rcases unhide HO with ⟨_,_,h,_⟩ | h
                · rw [h] at hlk; exact absurd hlk (Nat.not_lt_zero _)
                · rw [unhide HN]; exact h
              obtain rfl : a = some ⟨b,o,none⟩ := by injection hval
              have hc := cell_kept (unhide hbel3) (cell_kept (unhide B0) (hcell k hlk))
              clear hval hcell
              have hyes := hide (vals_yes l (within z y) k hlk)
              have hnot := hide (vals_no l (within z y) k hlk)
              obtain ⟨t,ht⟩ : ∃ t,t = l[k] := ⟨_,rfl⟩
              rw [<- ht] at hc hyes hnot
              have hst : Hid (short t) := by rw [ht]; exact unhide HS _ (List.getElem_mem hlk)
              have hrl : Hid ((Val.rising ((l.take k).filter (within z y))).length <= 1000000) := Nat.le_trans (rising_le _) (Nat.le_trans (List.length_filter_le _ _) (by rw [List.length_take]; omega))
              clear ht hlk
              obtain ⟨p,hp⟩ : ∃ p,p = numR t := ⟨_,rfl⟩
              have hwt := hide (within_num z y t)
              rw [<- hp] at hwt
              have hP := hide hp
              clear hp
              obtain ⟨m,is⟩ := p
              have HC := hide hc
              go_wp2_with fail
              refine (rnumber_any (bytesT t) _ (short_max (unhide hst))).mono ?_
              rintro e w5 ⟨he,hw5⟩
              rw [bytesT_list,<- unhide hP] at he
              subst he
              have B5 := hide (chain (unhide hbel3) hw5)
              have OUT5 := hide ((unhide hout).below hw5)
              have hc := cell_kept hw5 (unhide HC)
              clear hw5 hbel3 hout HC
              by_cases hin : is = true /\ z < m /\ m < y
              · obtain ⟨rfl,hm0,hm1⟩ := hin
                have hres := hide (unhide hyes (by rw [unhide hwt,decide_eq_true hm0,decide_eq_true hm1]; rfl))
                clear hyes hnot
                go_wp2_with fail
                refine (rput_any _ _ _ t _ (unhide OUT5) (unhide B5).size (unhide hst) (unhide hrl)).mono ?_
                rintro e w6 ⟨v6,rfl,hs6,hw6⟩
                rw [<- unhide hres] at hs6
                have S6 := hide hs6
                have B6 := hide (chain (unhide B5) hw6)
                clear hs6 hw6 hc
                go_wp2_with fail
                go_roundw
                case rel => exact ⟨k + 1,by omega,by go_num,S6,B6⟩
                case measure => simp [intOf]; omega
              · have hf : within z y t = false := by
                  rw [unhide hwt]
                  cases is with
                  | false => rfl
                  | true =>
                    show (decide (z < m) && decide (m < y)) = false
                    by_cases hm0 : z < m
                    · rw [decide_eq_false (show ¬ m < y from fun c => hin ⟨rfl,hm0,c⟩),Bool.and_false]
                    · rw [decide_eq_false hm0]; rfl
                have hres := hide (unhide hnot hf)
                have S6 := OUT5
                rw [<- unhide hres] at S6
                clear hyes hnot hf OUT5
                cases is with
                | false =>
                  clear hin
                  go_wp2_with fail
                  go_roundw
                  case rel => exact ⟨k + 1,by omega,by go_num,S6,B5⟩
                  case measure => simp [intOf]; omega
                | true =>
                  by_cases hm0 : z < m
                  · have hm1 : ¬ m < y := fun c => hin ⟨rfl,hm0,c⟩
                    clear hin
                    go_wp2_with fail
                    go_roundw
                    case rel => exact ⟨k + 1,by omega,by go_num,S6,B5⟩
                    case measure => simp [intOf]; omega
                  · clear hin
                    go_wp2_with fail
                    go_roundw
                    case rel => exact ⟨k + 1,by omega,by go_num,S6,B5⟩
                    case measure => simp [intOf]; omega
            · obtain rfl : k = n := by omega
              rw [List.take_of_length_le (by rw [<- unhide HN]; exact Nat.le_refl _),show Val.rising (l.filter (within z y)) = valsOf z y l from rfl] at hout GON
              have HON := hide1 (show on <= 900 by rw [unhide GON]; exact Nat.le_trans (vals_le z y l) (by rw [<- unhide HN]; exact hl))
              have hl900 := unhide1 HON
              have e1 := wrap_small (y - z) (by have := unhide1 HZ2; have := unhide1 HY2; omega) (by have := unhide1 HZ2; have := unhide1 HY2; omega)
              have e2 := wrap_small (y - z + 1) (by have := unhide1 HZ2; have := unhide1 HY2; omega) (by have := unhide1 HZ2; have := unhide1 HY2; omega)
              have e3 := wrap_small (y - z + 1 - (on : Int)) (by have := unhide1 HZ2; have := unhide1 HY2; omega) (by have := unhide1 HZ2; have := unhide1 HY2; omega)
              by_cases h64 : y - z + 1 - (on : Int) <= 64
              · have hR2 : Hid (R = some ⟨false,false,false,listOf z y (valsOf z y l),0,0⟩) := by
                  show _ = _
                  rw [unhide hnum]; unfold numsAt; rw [if_pos (by rw [<- unhide GON]; exact h64)]
                obtain ⟨vs,hvs⟩ : ∃ vs,vs = valsOf z y l := ⟨_,rfl⟩
                rw [<- hvs] at hout hR2
                clear hvs hnum
                have HT := hide1 (show (y - z + 1).toNat <= 964 by omega)
                go_wp2_with fail
                clear e1 e2 e3
                go_loopw [16,17] (fun x i W => ∃ (j : Nat) (x0 : Int),j <= (y - z + 1).toNat /\ i = .int .i64 x0 /\ Hid (x0 = z + (j : Int)) /\ Hid (Own W W0.heap.size x (Val.rising (spell z j vs))) /\ Hid (Own W W0.heap.size (.slice oa on oc) vs) /\ Hid (Below W0.heap.size W0 W)) (fun _ i _ => (y + 1 - intOf i).toNat)
                case atStart => exact ⟨0,z,Nat.zero_le _,rfl,by show z = z + ((0 : Nat) : Int); omega,own_nil _ _,hout,hbel3⟩
                case round =>
                  clear hout hbel3
                  obtain ⟨j,x0,hj,rfl,hx0,hacc,hvals,hbel4⟩ := hrel
                  obtain ⟨pa,pc,hpe⟩ := (unhide hacc).strs.val
                  obtain ⟨pn,hpn⟩ : ∃ m,m = (Val.rising (spell z j vs)).length := ⟨_,rfl⟩
                  rw [<- hpn] at hpe
                  clear hpn
                  subst hpe
                  by_cases hjy : x0 <= y
                  · have HX0 := hide1 (show -2147483648 <= x0 /\ x0 <= 2147483648 by have := unhide1 HZ2; have := unhide1 HY2; have := unhide hx0; omega)
                    have wx := wrap_small (x0 + 1) (by have := unhide1 HX0; omega) (by have := unhide1 HX0; omega)
                    have hyes := hide (spell_yes z j vs)
                    have hnot := hide (spell_no z j vs)
                    rw [<- unhide hx0] at hyes hnot
                    have hnx : Hid (x0 + 1 = z + ((j + 1 : Nat) : Int)) := by show _ = _; have := unhide hx0; omega
                    have hjn : j + 1 <= (y - z + 1).toNat := by have := unhide hx0; omega
                    have hrl : Hid ((Val.rising (spell z j vs)).length <= 1000000) := Nat.le_trans (rising_le _) (Nat.le_trans (spell_len _ _ _) (by have := unhide1 HT; omega))
                    have hsd := hide (short_dec x0 (by have := unhide1 HX0; omega) (by have := unhide1 HX0; omega))
                    go_wp2_with fail
                    refine (rdecimal_any x0 _ (by have := unhide1 HX0; omega) (by have := unhide1 HX0; omega)).mono ?_
                    rintro e w7 ⟨rfl,hw7⟩
                    have B7 := hide (chain (unhide hbel4) hw7)
                    have V7 := hide ((unhide hvals).below hw7)
                    have A7 := hide ((unhide hacc).below hw7)
                    clear hw7 hbel4 hvals hacc
                    obtain ⟨q3,hq3⟩ : ∃ q,q = vs.contains (decZ x0) := ⟨_,rfl⟩
                    have GQ3 := hide hq3
                    obtain ⟨X3,hX3⟩ : ∃ X,X = bytesT (decZ x0) := ⟨_,rfl⟩
                    have GX3 := hide hX3
                    rw [<- hX3]
                    clear hq3 hX3
                    go_wp2_with fail
                    rw [unhide GX3]
                    refine (rin_any _ vs (decZ x0) _ (unhide V7).strs).mono ?_
                    rintro e w8 ⟨he,hw8⟩
                    rw [<- unhide GQ3] at he
                    subst he
                    rw [<- unhide GX3]
                    have B8 := hide (chain (unhide B7) hw8)
                    have V8 := hide ((unhide V7).below hw8)
                    have A8 := hide ((unhide A7).below hw8)
                    clear hw8 B7 V7 A7
                    cases q3
                    · have hres := hide (unhide hyes (unhide GQ3).symm)
                      go_wp2_with fail
                      rw [unhide GX3]
                      refine (rput_any _ _ _ (decZ x0) _ (unhide A8) (unhide B8).size (unhide hsd) (unhide hrl)).mono ?_
                      rintro e w9 ⟨v9,rfl,hs9,hw9⟩
                      rw [<- unhide hres] at hs9
                      rw [<- unhide GX3]
                      have A9 := hide hs9
                      have B9 := hide (chain (unhide B8) hw9)
                      have V9 := hide ((unhide V8).below hw9)
                      clear hs9 hw9 B8 A8 V8
                      go_wp2_with fail
                      go_roundw
                      case rel => exact ⟨j + 1,x0 + 1,hjn,by first | rfl | rw [wx],hnx,A9,V9,B9⟩
                      case measure => first | (simp [intOf]; omega) | (simp [intOf,wx]; omega)
                    · have hres := hide (unhide hnot (unhide GQ3).symm)
                      have A9 := A8
                      rw [<- unhide hres] at A9
                      clear A8
                      go_wp2_with fail
                      go_roundw
                      case rel => exact ⟨j + 1,x0 + 1,hjn,by first | rfl | rw [wx],hnx,A9,V8,B8⟩
                      case measure => first | (simp [intOf]; omega) | (simp [intOf,wx]; omega)
                  · have hjj : Hid (Val.rising (spell z j vs) = listOf z y vs) := by
                      have : j = (y - z + 1).toNat := by have := unhide hx0; omega
                      rw [this]; rfl
                    rw [unhide hjj] at hacc
                    obtain ⟨hsix,hfz,_⟩ := (unhide SL0).below (unhide hbel4)
                    obtain ⟨k0,k1,k2,k3,k4,k5⟩ := hsix
                    have BF := hide (chain (unhide B0) (unhide hbel4))
                    go_wp2_with fail
                    exact bodyPost_ret (v := .tuple #[.agg #[.bool false,.bool false,.bool false,.slice pa pn pc,.int .i64 0,.int .i64 0],.bool true]) (by simp [results,Tryz.results170,go_sem,k0,k1,k2,k3,k4,k5]) rfl
                      (rnumPost_of (s := ⟨false,false,false,listOf z y vs,0,0⟩) (by rw [unhide hR2]; rfl) (by rw [unhide hR2]; rfl) rfl (((unhide hacc).grown (put6_grown _ w.heap.size _ _ _ _ _ _) (by rw [unhide Z0]; exact Nat.lt_succ_self _)).mono (unhide B0).size) (put6_below _ _ _ _ _ _ (unhide BF) (Nat.le_refl _)))
              · exact absurd (show y - z + 1 - (on : Int) <= 64 by omega) h64

end Go.Proofs.YtfpfdnapamdhjaaGreatDoor

/- Layer 3: contract of the document's listed. -/
namespace Go.Proofs.YtfpfdnapamdhjaaGreatDoor
open Go.RowKit Suf Val Go.Maps

/-- A set's variable,free to be written. -/
def Box6 (W : World) (B : Nat) (a b c d e f : Value) : Prop := Six W B a b c d e f /\ (∀ o,W.frozen? ⟨B,o,none⟩ = false) /\ B < W.heap.size
theorem Box6.below {w w' : World} {B : Nat} {a b c d e f : Value} (h : Box6 w B a b c d e f) (hb : Below w.heap.size w w') : Box6 w' B a b c d e f := ⟨h.1.below hb,fun o => by rw [hb.frozen (p := ⟨B,o,none⟩) h.2.2]; exact h.2.1 o,Nat.lt_of_lt_of_le h.2.2 hb.size⟩
theorem frozen_other {w w' : World} {r : Option Nat} (hg : w.grownBy w' r) {p : Addr} (hlt : p.block < w.heap.size) (hne : ∀ k,r = some k -> p.block ≠ k) : w'.frozen? p = w.frozen? p := by
  have := hg.block p.block hlt (fun e => hne p.block e.symm rfl)
  unfold World.frozen?
  rw [this]
theorem Box6.other {w w' : World} {r : Option Nat} {B : Nat} {a b c d e f : Value} (h : Box6 w B a b c d e f) (hg : w.grownBy w' r) (hne : ∀ k,r = some k -> B ≠ k) : Box6 w' B a b c d e f :=
  ⟨h.1.other hg hne,fun o => by rw [frozen_other hg (p := ⟨B,o,none⟩) h.2.2 hne]; exact h.2.1 o,Nat.lt_of_lt_of_le h.2.2 hg.size⟩
theorem Slot.other {w w' : World} {r : Option Nat} {B : Nat} (h : Slot w B) (hg : w.grownBy w' r) (hne : ∀ k,r = some k -> B ≠ k) : Slot w' B :=
  ⟨h.1.other hg hne,fun o => by rw [frozen_other hg (p := ⟨B,o,none⟩) h.2.2 hne]; exact h.2.1 o,Nat.lt_of_lt_of_le h.2.2 hg.size⟩

end Go.Proofs.YtfpfdnapamdhjaaGreatDoor
