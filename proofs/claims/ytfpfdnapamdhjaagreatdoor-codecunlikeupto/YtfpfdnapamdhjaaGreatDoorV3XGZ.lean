/- Layer 3: contracts of the document's in,ordered,Check. -/
import Derived.Test.YtfpfdnapamdhjaaGreatDoorV3VGZ
import Derived.Test.YtfpfdnapamdhjaaGreatDoorV3EGZ
import Derived.Test.YtfpfdnapamdhjaaGreatDoorV3APGZ
import Derived.Test.YtfpfdnapamdhjaaGreatDoorV3NGZ
namespace Go.Proofs.YtfpfdnapamdhjaaGreatDoor
open Go.RowKit Suf Val

theorem contains_next (l : List Txt) (x : Txt) (k : Nat) (h : k < l.length) : (l.take (k + 1)).contains x = ((l.take k).contains x || (l[k] == x)) := by
  rw [List.take_add_one,List.getElem?_eq_getElem h,Bool.eq_iff_iff,Bool.or_eq_true,List.contains_iff_mem,List.contains_iff_mem,List.mem_append,beq_iff_eq]
  simp
  exact or_congr_right ⟨fun h => h.symm,fun h => h.symm⟩
theorem contains_yes (l : List Txt) (x : Txt) (k : Nat) (h : k < l.length) (e : l[k] = x) : l.contains x = true := by
  rw [List.contains_iff_mem,<- e]; exact List.getElem_mem h
theorem eq_list (t x : Txt) : ((bytesT t).toList == (bytesT x).toList) = (t == x) := by rw [Lib.toList_data,Lib.toList_data]; rfl

set_option maxHeartbeats 1000000 in
theorem rin_any (v : Value) (l : List Txt) (x : Txt) (w : World) (hv : Strs w v l) :
    Calls Tryz.prog 181 #[v,.string (bytesT x)] w fun e w' => e = .returned (.bool (l.contains x)) /\ Below w.heap.size w w' := by
  obtain ⟨r,hr⟩ : ∃ r,r = l.contains x := ⟨_,rfl⟩
  rw [<- hr]
  have HR := hide hr
  have hlen := hv.len
  clear hr
  obtain ⟨X,hX⟩ : ∃ X,X = bytesT x := ⟨_,rfl⟩
  rw [<- hX]
  have GX := hide hX
  clear hX
  rcases hv.open with ⟨a,c,rfl,rfl⟩ | ⟨b,o,c,hpos,rfl,hcell⟩
  · have hf : Hid (r = false) := unhide HR
    clear hv
    go_enter Tryz.func181,Tryz.ntmps181
    go_wp2_with fail
    go_loop [5] (fun i => i = .int .i64 0) (fun _ => 0)
    case atStart => rfl
    case round =>
      subst hrel
      go_wp2_with fail
      go_ret
      exact ⟨ret_bool (unhide hf).symm,Below.refl _ _⟩
  · have HC := hide hcell
    clear hv hcell
    obtain ⟨n,hn⟩ : ∃ n,n = l.length := ⟨_,rfl⟩
    rw [<- hn] at hlen hpos ⊢
    have HN := hide hn
    clear hn
    go_enter Tryz.func181,Tryz.ntmps181
    go_wp2_with fail
    go_loopw [5] (fun i W => ∃ k : Nat,k <= n /\ i = .int .i64 k /\ Hid (Below w.heap.size w W) /\ Hid ((l.take k).contains x = false)) (fun i _ => n - (intOf i).toNat)
    case atStart => exact ⟨0,Nat.zero_le _,rfl,Below.refl _ _,rfl⟩
    case round =>
      obtain ⟨k,hk,rfl,hbel,hall⟩ := hrel
      by_cases hlt : k < n
      · have hlk : k < l.length := by rw [<- unhide HN]; exact hlt
        have hc := cell_kept (unhide hbel) (unhide HC k hlk)
        obtain ⟨t,ht⟩ : ∃ t,t = l[k] := ⟨_,rfl⟩
        rw [<- ht] at hc
        obtain ⟨q,hq⟩ : ∃ q,q = (t == x) := ⟨_,rfl⟩
        have hg : ((bytesT t).toList == X.toList) = q := by rw [hq,unhide GX]; exact eq_list t x
        cases q
        · have hn2 : Hid ((l.take (k + 1)).contains x = false) := by
            show _ = _
            rw [contains_next l x k hlk,unhide hall,<- ht,<- hq]; rfl
          clear ht hq hlk
          go_wp2_with fail
          go_roundw
          case rel => exact ⟨k + 1,by omega,by go_num,hbel,hn2⟩
          case measure => simp [intOf]; omega
        · have hn2 : Hid (r = true) := (unhide HR).trans (contains_yes l x k hlk (by rw [<- ht]; exact beq_iff_eq.1 hq.symm))
          clear ht hq hlk
          go_wp2_with fail
          go_ret
          exact ⟨ret_bool (unhide hn2).symm,unhide hbel⟩
      · obtain rfl : k = n := by omega
        have hn2 : Hid (r = false) := (unhide HR).trans (by rw [<- unhide hall,List.take_of_length_le (by rw [<- unhide HN]; exact Nat.le_refl _)])
        go_wp2_with fail
        go_ret
        exact ⟨ret_bool (unhide hn2).symm,unhide hbel⟩

end Go.Proofs.YtfpfdnapamdhjaaGreatDoor

/- Layer 3: contracts of the document's put and rising. -/
namespace Go.Proofs.YtfpfdnapamdhjaaGreatDoor
open Go.RowKit Suf Val Go.Maps

theorem put_split (x : Txt) : ∀ (l : List Txt) (k : Nat),k <= l.length -> (l.take k).all (fun a => lt a x) = true -> Val.put l x = l.take k ++ Val.put (l.drop k) x
  | l,0,_,_ => by simp
  | [],k + 1,h,_ => by simp at h
  | a :: l,k + 1,h,ha => by
    rw [List.take_succ_cons,List.all_cons,Bool.and_eq_true] at ha
    rw [List.take_succ_cons,List.drop_succ_cons]
    show (if lt a x then a :: Val.put l x else if a = x then a :: l else x :: a :: l) = _
    rw [if_pos ha.1,put_split x l k (by simpa using h) ha.2]; rfl
theorem put_end {l : List Txt} {x : Txt} (ha : (l.take l.length).all (fun a => lt a x) = true) : Val.put l x = l.take l.length ++ [x] ++ l.drop l.length := by
  rw [put_split x l l.length (Nat.le_refl _) ha,List.drop_length]; simp [Val.put]
theorem put_same {l : List Txt} {x : Txt} {k : Nat} (h : k < l.length) (ha : (l.take k).all (fun a => lt a x) = true) (e : l[k] = x) : Val.put l x = l := by
  rw [put_split x l k (by omega) ha,List.drop_eq_getElem_cons h]
  show _ ++ (if lt l[k] x then _ else if l[k] = x then l[k] :: _ else _) = l
  rw [e,if_neg (by rw [lt_irrefl]; decide),if_pos rfl,<- e,<- List.drop_eq_getElem_cons h,List.take_append_drop]
theorem put_new {l : List Txt} {x : Txt} {k : Nat} (h : k < l.length) (ha : (l.take k).all (fun a => lt a x) = true) (hn : lt l[k] x = false) (hne : ¬ l[k] = x) : Val.put l x = l.take k ++ [x] ++ l.drop k := by
  rw [put_split x l k (by omega) ha,List.drop_eq_getElem_cons h]
  show _ ++ (if lt l[k] x then _ else if l[k] = x then l[k] :: _ else x :: l[k] :: _) = _
  rw [if_neg (by rw [hn]; decide),if_neg hne]; simp
set_option maxRecDepth 100000 in
set_option maxHeartbeats 4000000 in
theorem rput_any (base : Nat) (v : Value) (l : List Txt) (x : Txt) (w : World) (hown : Own w base v l) (hbase : base <= w.heap.size) (hx : short x) (h9 : l.length <= 1000000) :
    Calls Tryz.prog 182 #[v,.string (bytesT x)] w fun e w' => ∃ v',e = .returned v' /\ Own w' base v' (Val.put l x) /\ Below w.heap.size w w' := by
  have hv := hown.strs
  have hcap := hown.capd
  have HW := hide hown
  have HB := hide hbase
  clear hown hbase
  have HV := hide hv
  have HX := hide hx
  have hopen := hv.open
  obtain ⟨a,c,rfl⟩ := hv.val
  have hnc := hcap _ _ _ rfl
  clear hv hcap hx
  obtain ⟨n,hn⟩ : ∃ n,n = l.length := ⟨_,rfl⟩
  have HN := hide hn
  rw [<- hn] at h9 hnc HV HW ⊢
  have HO := hide hopen
  clear hopen hn
  obtain ⟨X,hX⟩ : ∃ X,X = bytesT x := ⟨_,rfl⟩
  rw [<- hX]
  have GX := hide hX
  have hone := hide (fun W : World => strs_one (w := W) 9 (unhide HX))
  rw [<- hX] at hone
  clear hX
  go_enter Tryz.func182,Tryz.ntmps182
  go_wp2_with fail
  go_loopw [5] (fun i W => ∃ k : Nat,k <= n /\ i = .int .i64 k /\ W = w /\ Hid ((l.take k).all (fun a => lt a x) = true)) (fun i _ => n - (intOf i).toNat)
  case atStart => exact ⟨0,Nat.zero_le _,rfl,rfl,rfl⟩
  case round =>
    obtain ⟨k,hk,rfl,rfl,hall⟩ := hrel
    by_cases hlt : k < n
    · have hlk : k < l.length := by rw [<- unhide HN]; exact hlt
      obtain ⟨b,o,c',_,hval,hcell⟩ : ∃ b o c',0 < l.length /\ Value.slice a n c = .slice (some ⟨b,o,none⟩) l.length c' /\ ∀ j (hj : j < l.length),wr.cell? ⟨b,o + j,none⟩ = some (.string (bytesT l[j])) := by
        rcases unhide HO with ⟨_,_,h,_⟩ | h
        · rw [h] at hlk; exact absurd hlk (Nat.not_lt_zero _)
        · rw [unhide HN]; exact h
      obtain rfl : a = some ⟨b,o,none⟩ := by injection hval
      have hc := hcell k hlk
      clear hval hcell
      obtain ⟨t,ht⟩ : ∃ t,t = l[k] := ⟨_,rfl⟩
      rw [<- ht] at hc
      obtain ⟨g,hg⟩ : ∃ g,g = lt t x := ⟨_,rfl⟩
      have hlg : (Op.bytesLess (bytesT t).toList X.toList) = g := by rw [hg,unhide GX,Lib.toList_data,Lib.toList_data]; rfl
      cases g
      · by_cases he : t = x
        · have hq : ((bytesT t).toList == X.toList) = true := by rw [unhide GX,eq_list,he]; simp
          have hres := hide (put_same hlk (unhide hall) (by rw [<- ht]; exact he))
          clear ht hg he hlk
          go_wp2_with fail
          go_ret
          exact ⟨_,rfl,by rw [unhide hres]; exact unhide HW,Below.refl _ _⟩
        · have hq : ((bytesT t).toList == X.toList) = false := by rw [unhide GX,eq_list]; exact beq_eq_false_iff_ne.2 he
          have hres := hide (put_new hlk (unhide hall) (by rw [<- ht]; exact hg.symm) (by rw [<- ht]; exact he))
          have hsrc1 := hide (strs_take (unhide HV) hk)
          have hsrc3 := hide (strs_drop (k := k) (c - k) (unhide HV))
          have hl1 : Hid ((l.take k).length = k) := by show _ = _; rw [List.length_take,<- unhide HN]; omega
          have hl3 : Hid ((l.drop k).length = n - k) := by show _ = _; rw [List.length_drop,<- unhide HN]
          clear ht hg he hlk
          go_wp2_with (first
            | (at_builtin; refine wpList_append_strs rfl _ _ rfl wr.heap.size (.slice none 0 0) [] rfl (own_nil _ _) _ (l.take k) rfl (unhide hsrc1) (by have := unhide hl1; rw [this]; simp; omega) (Nat.le_refl _) ?_; intro v1 w1 hown1 hg1; have OW1 := hide hown1; have B1 := hide (none_below hg1); clear hown1 hg1)
            | (at_builtin; refine wpList_append_strs rfl _ _ rfl wr.heap.size v1 ([] ++ l.take k) rfl ((unhide OW1).below (box_below _)) _ [x] rfl (unhide hone _) (by have := unhide hl1; simp; omega) (by have := (unhide B1).size; simp; omega) ?_; intro v2 w2 hown2 hg2; have OW2 := hide hown2; have B2 := hide (own_grow (chain (unhide B1) (box_below _)) ((unhide OW1).below (box_below _)) hg2); clear hown2 hg2)
            | (at_builtin; refine wpList_append_strs rfl _ _ rfl wr.heap.size v2 ([] ++ l.take k ++ [x]) rfl (unhide OW2) _ (l.drop k) rfl ((unhide hsrc3).below (unhide B2)) (by have := unhide hl1; have := unhide hl3; have := unhide HN; simp; omega) (unhide B2).size ?_; intro v3 w3 hown3 hg3; have OW3 := hide hown3; have B3 := hide (own_grow (unhide B2) (unhide OW2) hg3); clear hown3 hg3))
          all_goals
            go_ret
            exact ⟨_,rfl,by rw [unhide hres]; exact (unhide OW3).mono (unhide HB),unhide B3⟩
      · have hn2 : Hid ((l.take (k + 1)).all (fun a => lt a x) = true) := by
          show _ = _
          rw [all_next l k hlk,unhide hall,<- ht,<- hg]; rfl
        clear ht hg hlk
        go_wp2_with fail
        go_roundw
        case rel => exact ⟨k + 1,by omega,by go_num,trivial,hn2⟩
        case measure => simp [intOf]; omega
    · obtain rfl : k = n := by omega
      have hres := hide (put_end (l := l) (x := x) (by rw [<- unhide HN]; exact unhide hall))
      rw [<- unhide HN] at hres
      have hsrc1 := hide (strs_take (unhide HV) (Nat.le_refl _))
      have hl1 : Hid ((l.take k).length = k) := by show _ = _; rw [List.length_take,<- unhide HN]; omega
      have hl3 : Hid (l.drop k = []) := by show _ = _; rw [unhide HN]; exact List.drop_length
      go_wp2_with (first
        | (at_builtin; refine wpList_append_strs rfl _ _ rfl wr.heap.size (.slice none 0 0) [] rfl (own_nil _ _) _ (l.take k) rfl (unhide hsrc1) (by have := unhide hl1; rw [this]; simp; omega) (Nat.le_refl _) ?_; intro v1 w1 hown1 hg1; have OW1 := hide hown1; have B1 := hide (none_below hg1); clear hown1 hg1)
        | (at_builtin; refine wpList_append_strs rfl _ _ rfl wr.heap.size v1 ([] ++ l.take k) rfl ((unhide OW1).below (box_below _)) _ [x] rfl (unhide hone _) (by have := unhide hl1; simp; omega) (by have := (unhide B1).size; simp; omega) ?_; intro v2 w2 hown2 hg2; have OW2 := hide hown2; have B2 := hide (own_grow (chain (unhide B1) (box_below _)) ((unhide OW1).below (box_below _)) hg2); clear hown2 hg2)
        | (at_builtin; refine wpList_append_strs rfl _ _ rfl wr.heap.size v2 ([] ++ l.take k ++ [x]) rfl (unhide OW2) _ [] rfl (strs_zero _ _ _) (by have := unhide hl1; simp; omega) (unhide B2).size ?_; intro v3 w3 hown3 hg3; have OW3 := hide hown3; have B3 := hide (own_grow (unhide B2) (unhide OW2) hg3); clear hown3 hg3))
      all_goals
        go_ret
        exact ⟨_,rfl,by rw [unhide hres,unhide hl3]; exact (unhide OW3).mono (unhide HB),unhide B3⟩

theorem rising_next (l : List Txt) (k : Nat) (h : k < l.length) : Val.rising (l.take (k + 1)) = Val.put (Val.rising (l.take k)) l[k] := by
  unfold Val.rising
  rw [take_next l k h,List.foldl_append]; rfl

set_option maxRecDepth 100000 in
set_option maxHeartbeats 4000000 in
theorem rrising_any (v : Value) (l : List Txt) (w : World) (hv : Strs w v l) (h9 : l.length <= 999999) :
    Calls Tryz.prog 169 #[v] w fun e w' => ∃ v',e = .returned v' /\ Own w' w.heap.size v' (Val.rising l) /\ Below w.heap.size w w' := by
  have HV := hide hv
  have HS := hide hv.short
  have HO := hide hv.open
  obtain ⟨a,c,rfl⟩ := hv.val
  clear hv
  obtain ⟨n,hn⟩ : ∃ n,n = l.length := ⟨_,rfl⟩
  have HN := hide hn
  rw [<- hn] at h9 HV ⊢
  clear hn
  go_enter Tryz.func169,Tryz.ntmps169
  go_wp2_with fail
  go_loopw [3,4] (fun out i W => ∃ k : Nat,k <= n /\ i = .int .i64 k /\ Hid (Own W w.heap.size out (Val.rising (l.take k))) /\ Hid (Below w.heap.size w W)) (fun _ i _ => n - (intOf i).toNat)
  case atStart => exact ⟨0,Nat.zero_le _,rfl,own_nil _ _,Below.refl _ _⟩
  case round =>
    obtain ⟨k,hk,rfl,hout,hbel⟩ := hrel
    by_cases hlt : k < n
    · have hlk : k < l.length := by rw [<- unhide HN]; exact hlt
      obtain ⟨b,o,c',_,hval,hcell⟩ : ∃ b o c',0 < l.length /\ Value.slice a n c = .slice (some ⟨b,o,none⟩) l.length c' /\ ∀ j (hj : j < l.length),w.cell? ⟨b,o + j,none⟩ = some (.string (bytesT l[j])) := by
        rcases unhide HO with ⟨_,_,h,_⟩ | h
        · rw [h] at hlk; exact absurd hlk (Nat.not_lt_zero _)
        · rw [unhide HN]; exact h
      obtain rfl : a = some ⟨b,o,none⟩ := by injection hval
      have hc := cell_kept (unhide hbel) (hcell k hlk)
      clear hval hcell
      have hres := hide (rising_next l k hlk)
      obtain ⟨t,ht⟩ : ∃ t,t = l[k] := ⟨_,rfl⟩
      rw [<- ht] at hc hres
      have hst : Hid (short t) := by rw [ht]; exact unhide HS _ (List.getElem_mem hlk)
      have hrl : Hid ((Val.rising (l.take k)).length <= 1000000) := Nat.le_trans (rising_le _) (by rw [List.length_take]; omega)
      clear ht hlk
      obtain ⟨oa,oc,hoe⟩ := (unhide hout).strs.val
      obtain ⟨on,hon⟩ : ∃ m,m = (Val.rising (l.take k)).length := ⟨_,rfl⟩
      rw [<- hon] at hoe
      clear hon
      subst hoe
      go_wp2_with fail
      refine (rput_any _ _ _ t _ (unhide hout) (unhide hbel).size (unhide hst) (unhide hrl)).mono ?_
      rintro e w1 ⟨v1,rfl,hs1,hw1⟩
      rw [<- unhide hres] at hs1
      have S1 := hide hs1
      have B1 := hide (chain (unhide hbel) hw1)
      clear hs1 hw1 hc
      go_wp2_with fail
      go_roundw
      case rel => exact ⟨k + 1,by omega,by go_num,S1,B1⟩
      case measure => simp [intOf]; omega
    · obtain rfl : k = n := by omega
      have hf := hout
      rw [List.take_of_length_le (by rw [<- unhide HN]; exact Nat.le_refl _)] at hf
      go_wp2_with fail
      go_ret
      exact ⟨_,rfl,unhide hf,unhide hbel⟩
end Go.Proofs.YtfpfdnapamdhjaaGreatDoor

/- Layer 3: contracts of the document's Check,Has,Empty. -/
namespace Go.Proofs.YtfpfdnapamdhjaaGreatDoor
open Go.RowKit Suf Val

theorem within_num (lo hi : Int) (t : Txt) : within lo hi t = ((numR t).2 && (decide (lo < (numR t).1) && decide ((numR t).1 < hi))) := by
  unfold within numR
  cases numO t with
  | none => rfl
  | some n => simp

end Go.Proofs.YtfpfdnapamdhjaaGreatDoor
