/- Layer 3: contract of the document's wrong. -/
import Derived.Test.YtfpfdnapamdhjaaGreatDoorV3NUGZ
import Derived.Test.YtfpfdnapamdhjaaGreatDoorV3NGZ
namespace Go.Proofs.YtfpfdnapamdhjaaGreatDoor
open Go.RowKit Suf Val Go.Maps

theorem nodup_app : ∀ (p s q : List Txt),nodupB s (p ++ q) = (nodupB s p && nodupB (s ++ p) q)
  | [],s,q => by rw [List.append_nil,List.nil_append]; rfl
  | v :: p,s,q => by
    show (!s.contains v && nodupB (s ++ [v]) (p ++ q)) = (!s.contains v && nodupB (s ++ [v]) p && nodupB (s ++ v :: p) q)
    rw [nodup_app p (s ++ [v]) q,List.append_assoc,Bool.and_assoc]; rfl
theorem nodup_next (l : List Txt) (k : Nat) (h : k < l.length) : nodupB [] (l.take (k + 1)) = (nodupB [] (l.take k) && !(l.take k).contains l[k]) := by
  rw [take_next l k h,nodup_app]
  show _ = _
  simp [nodupB]
theorem nodup_bad (l : List Txt) (k : Nat) (h : k < l.length) (hc : (l.take k).contains l[k] = true) : nodupB [] l = false := by
  have e : l = l.take (k + 1) ++ l.drop (k + 1) := (List.take_append_drop _ _).symm
  rw [e,nodup_app,nodup_next l k h,hc]; simp
theorem wrong_name {r : VReq} (h : nameB r.key = false) : wrongR r = 7 := by unfold wrongR; rw [if_pos h]
theorem wrong_op {r : VReq} (h : nameB r.key = true) (h2 : r.op < 1 ∨ 6 < r.op ∨ (decide (r.op = 1 ∨ r.op = 2) != decide (0 < r.vals.length)) = true ∨ (¬ (r.op = 5 ∨ r.op = 6) /\ ¬ r.n = 0) ∨ r.n < -2147483648 ∨ 2147483648 < r.n) : wrongR r = 30 := by
  unfold wrongR; rw [if_neg (by rw [h]; decide),if_pos h2]
theorem wrong_rest {r : VReq} (h : nameB r.key = true) (h2 : ¬ (r.op < 1 ∨ 6 < r.op ∨ (decide (r.op = 1 ∨ r.op = 2) != decide (0 < r.vals.length)) = true ∨ (¬ (r.op = 5 ∨ r.op = 6) /\ ¬ r.n = 0) ∨ r.n < -2147483648 ∨ 2147483648 < r.n)) :
    wrongR r = if 8 < r.vals.length then 3 else if r.vals.all valueB = false then 20 else if nodupB [] r.vals = false then 6 else 0 := by
  unfold wrongR; rw [if_neg (by rw [h]; decide),if_neg h2]
theorem none_wrong {key : Txt} {op z : Int} (h : nameB key = true) (ho : 3 <= op) (h6 : op <= 6) (hz : (op = 5 ∨ op = 6) ∨ z = 0) (h0 : -2147483648 <= z) (h1 : z <= 2147483648) : wrongR ⟨key,op,[],z⟩ = 0 := by
  rw [wrong_rest h]
  · rfl
  · show ¬ (op < 1 ∨ 6 < op ∨ (decide (op = 1 ∨ op = 2) != decide (0 < 0)) = true ∨ (¬ (op = 5 ∨ op = 6) /\ ¬ z = 0) ∨ z < -2147483648 ∨ 2147483648 < z)
    have : decide (op = 1 ∨ op = 2) = false := decide_eq_false (by omega)
    rw [this]
    rintro (h | h | h | h | h | h)
    · omega
    · omega
    · exact absurd h (by simp)
    · rcases hz with hz | hz
      · exact h.1 hz
      · exact h.2 hz
    · omega
    · omega
theorem two_cells {W W' : World} {p q : Addr} {u v : Value} (hb : Below W.heap.size W W') (h : W.cell? p = some u /\ W.cell? q = some v) : W'.cell? p = some u /\ W'.cell? q = some v := ⟨cell_kept hb h.1,cell_kept hb h.2⟩
theorem rin_take (b o n c k : Nat) (l : List Txt) (t : Txt) (w : World) (hv : Strs w (.slice (some ⟨b,o,none⟩) n c) l) (hk : k <= n) :
    Calls Tryz.prog 181 #[.slice (some ⟨b,o,none⟩) k c,.string (bytesT t)] w fun e w' => e = .returned (.bool ((l.take k).contains t)) /\ Below w.heap.size w w' := rin_any _ (l.take k) t w (strs_take hv hk)

set_option maxRecDepth 100000 in
set_option maxHeartbeats 8000000 in
theorem rwrong_any (key : ByteArray) (op : Int) (v : Value) (l : List Txt) (z : Int) (w : World) (hv : Strs w v l) (hcap : Capd v) (hkey : key.size <= maxLen) :
    Calls Tryz.prog 168 #[.agg #[.string key,.int .i64 op,v,.int .i64 z]] w fun e w' => e = .returned (.int .i64 (wrongR ⟨key.data.toList,op,l,z⟩)) /\ Below w.heap.size w w' := by
  obtain ⟨r,hr⟩ : ∃ r,r = wrongR ⟨key.data.toList,op,l,z⟩ := ⟨_,rfl⟩
  rw [<- hr]
  have HR := hide hr
  have HV := hide hv
  have HO := hide hv.open
  have HS := hide hv.short
  have HK := hide hkey
  have hlen := hv.len
  obtain ⟨a,c,rfl⟩ := hv.val
  have hnc := hcap _ _ _ rfl
  clear hr hkey hv hcap
  obtain ⟨n,hn⟩ : ∃ n,n = l.length := ⟨_,rfl⟩
  rw [<- hn] at hlen HV hnc ⊢
  have HN := hide hn
  clear hn
  obtain ⟨W0,hW0⟩ : ∃ W0,W0 = w.alloc (.cells #[.string key,.int .i64 op,.slice a n c,.int .i64 z] 138) := ⟨_,rfl⟩
  have F0 : Hid (Four W0 w.heap.size (.string key) (.int .i64 op) (.slice a n c) (.int .i64 z)) := by rw [hW0]; exact four_new _ _ _ _ _ _
  have B0 : Hid (Below w.heap.size w W0) := by rw [hW0]; exact box_below _
  have GW := hide hW0
  clear hW0
  obtain ⟨q0,hq0⟩ : ∃ q,q = nameB key.data.toList := ⟨_,rfl⟩
  have Q0 := hide hq0
  clear hq0
  go_enter Tryz.func168,Tryz.ntmps168
  go_wp2_with fail
  refine (rname_any key _ (unhide HK)).mono ?_
  rintro e w' ⟨he,hw'⟩
  rw [<- unhide Q0] at he
  subst he
  obtain rfl := hw'.symm
  clear hw'
  rw [<- unhide GW]
  cases q0
  · have hf := hide ((unhide HR).trans (wrong_name (unhide Q0).symm))
    go_wp2_with fail
    go_ret
    exact ⟨ret_int (unhide hf).symm,unhide B0⟩
  have hbad : Hid (∀ P : Prop,P -> (P -> (op < 1 ∨ 6 < op ∨ (decide (op = 1 ∨ op = 2) != decide (0 < l.length)) = true ∨ (¬ (op = 5 ∨ op = 6) /\ ¬ z = 0) ∨ z < -2147483648 ∨ 2147483648 < z)) -> r = 30) := fun P hp h => (unhide HR).trans (wrong_op (unhide Q0).symm (h hp))
  obtain ⟨k0,k1,k2,k3⟩ := unhide F0
  by_cases h1 : op < 1
  · have hf := hide (unhide hbad _ h1 Or.inl)
    have n1 : (op == 1) = false := beq_eq_false_iff_ne.2 (by omega)
    have n2 : (op == 2) = false := beq_eq_false_iff_ne.2 (by omega)
    have n5 : (op == 5) = false := beq_eq_false_iff_ne.2 (by omega)
    have n6 : (op == 6) = false := beq_eq_false_iff_ne.2 (by omega)
    go_wp2_with fail
    go_ret
    exact ⟨ret_int (unhide hf).symm,unhide B0⟩
  by_cases h6 : 6 < op
  · have hf := hide (unhide hbad _ h6 fun h => Or.inr (Or.inl h))
    have n1 : (op == 1) = false := beq_eq_false_iff_ne.2 (by omega)
    have n2 : (op == 2) = false := beq_eq_false_iff_ne.2 (by omega)
    have n5 : (op == 5) = false := beq_eq_false_iff_ne.2 (by omega)
    have n6 : (op == 6) = false := beq_eq_false_iff_ne.2 (by omega)
    go_wp2_with fail
    go_ret
    exact ⟨ret_int (unhide hf).symm,unhide B0⟩
  have hops : (op = 1 ∨ op = 2) ∨ (op = 3 ∨ op = 4) ∨ (op = 5 ∨ op = 6) := by omega
  clear h1 h6
  rcases hops with hop | hop | hop
  · by_cases hn0 : n = 0
    · have hf := hide (unhide hbad _ hop fun h => Or.inr (Or.inr (Or.inl (by rw [decide_eq_true h,<- unhide HN,hn0]; rfl))))
      subst hn0
      clear hbad
      rcases hop with rfl | rfl
      all_goals
        go_wp2_with fail
        go_ret
        exact ⟨ret_int (unhide hf).symm,unhide B0⟩
    by_cases hz : z = 0
    rotate_left
    · have hf := hide (unhide hbad _ (And.intro hop hz) fun h => Or.inr (Or.inr (Or.inr (Or.inl ⟨by omega,h.2⟩))))
      have hz' : (z != 0) = true := bne_iff_ne.2 hz
      have hpos : 0 < (n : Int) := by omega
      clear hbad hz
      rcases hop with rfl | rfl
      all_goals
        go_wp2_with fail
        go_ret
        exact ⟨ret_int (unhide hf).symm,unhide B0⟩
    subst hz
    have hrest : Hid (r = if 8 < l.length then 3 else if l.all valueB = false then 20 else if nodupB [] l = false then 6 else 0) := (unhide HR).trans (wrong_rest (unhide Q0).symm (by
      show ¬ (op < 1 ∨ 6 < op ∨ (decide (op = 1 ∨ op = 2) != decide (0 < l.length)) = true ∨ (¬ (op = 5 ∨ op = 6) /\ ¬ (0 : Int) = 0) ∨ (0 : Int) < -2147483648 ∨ 2147483648 < (0 : Int))
      rw [decide_eq_true hop,decide_eq_true (show 0 < l.length by rw [<- unhide HN]; omega)]
      rintro (h | h | h | h | h | h)
      · omega
      · omega
      · exact absurd h (by decide)
      · exact h.2 rfl
      · omega
      · omega))
    clear hbad HR
    have hpos : 0 < (n : Int) := by omega
    obtain ⟨b,o,c',_,hval,hcell⟩ : ∃ b o c',0 < l.length /\ Value.slice a n c = .slice (some ⟨b,o,none⟩) l.length c' /\ ∀ j (hj : j < l.length),w.cell? ⟨b,o + j,none⟩ = some (.string (bytesT l[j])) := by
      rcases unhide HO with ⟨_,_,h,_⟩ | h
      · exact absurd ((unhide HN).trans (by rw [h]; rfl)) hn0
      · rw [unhide HN]; exact h
    obtain rfl : a = some ⟨b,o,none⟩ := by injection hval
    have HC := hide hcell
    clear hval hcell hn0
    by_cases h8 : 8 < n
    · have hf : Hid (r = 3) := (unhide hrest).trans (if_pos (by rw [<- unhide HN]; exact h8))
      have h8' : 8 < (n : Int) := by omega
      clear hrest
      rcases hop with rfl | rfl
      all_goals
        go_wp2_with fail
        go_ret
        exact ⟨ret_int (unhide hf).symm,unhide B0⟩
    have h8' : ¬ 8 < (n : Int) := by omega
    have hr2 : Hid (r = if l.all valueB = false then 20 else if nodupB [] l = false then 6 else 0) := (unhide hrest).trans (if_neg (by rw [<- unhide HN]; exact h8))
    clear hrest
    rcases hop with rfl | rfl
    all_goals
      go_wp2_with fail
      clear k0 k1 k2 k3
      go_loopw [6] (fun i W => ∃ k : Nat,k <= n /\ i = .int .i64 k /\ Hid (Below W0.heap.size W0 W) /\ Hid ((l.take k).all valueB = true)) (fun i _ => n - (intOf i).toNat)
      case atStart => exact ⟨0,Nat.zero_le _,rfl,Below.refl _ _,rfl⟩
      case round =>
        obtain ⟨k,hk,rfl,hbel,hall⟩ := hrel
        obtain ⟨k0,k1,k2,k3⟩ := (unhide F0).below (unhide hbel)
        by_cases hlt : k < n
        · have hlk : k < l.length := by rw [<- unhide HN]; exact hlt
          have hc := cell_kept (unhide hbel) (cell_kept (unhide B0) (unhide HC k hlk))
          have hno := hide (all_no (p := valueB) l k hlk)
          have hyes := hide (all_next (p := valueB) l k hlk)
          obtain ⟨t,ht⟩ : ∃ t,t = l[k] := ⟨_,rfl⟩
          rw [<- ht] at hc hno hyes
          have hst : Hid (short t) := by rw [ht]; exact unhide HS _ (List.getElem_mem hlk)
          obtain ⟨q,hq⟩ : ∃ q,q = valueB t := ⟨_,rfl⟩
          rw [<- hq] at hno hyes
          have hQ := hide hq
          clear hq ht hlk
          go_wp2_with fail
          refine (rvalue_any (bytesT t) _ (short_size (unhide hst))).mono ?_
          rintro e w1 ⟨he,hw1⟩
          rw [bytesT_list,<- unhide hQ] at he
          subst he
          have hb1 := hide (chain (unhide hbel) hw1)
          clear hw1 hc k0 k1 k2 k3
          cases q
          · have hf : Hid (r = 20) := (unhide hr2).trans (if_pos (unhide hno rfl))
            go_wp2_with fail
            go_ret
            exact ⟨ret_int (unhide hf).symm,chain (unhide B0) (unhide hb1)⟩
          · have ha2 : Hid ((l.take (k + 1)).all valueB = true) := by show _ = _; rw [unhide hyes,unhide hall]; rfl
            go_wp2_with fail
            go_roundw
            case rel => exact ⟨k + 1,by omega,by go_num,hb1,ha2⟩
            case measure => simp [intOf]; omega
        · obtain rfl : k = n := by omega
          have hr3 : Hid (r = if nodupB [] l = false then 6 else 0) := (unhide hr2).trans (if_neg (by
            have := unhide hall
            rw [List.take_of_length_le (by rw [<- unhide HN]; exact Nat.le_refl _)] at this
            rw [this]; decide))
          clear hr2 hall
          go_wp2_with fail
          clear k0 k1 k2 k3
          go_loopw [8] (fun i W => ∃ j : Nat,j <= k /\ i = .int .i64 j /\ Hid (Below W0.heap.size W0 W) /\ Hid (nodupB [] (l.take j) = true)) (fun i _ => k - (intOf i).toNat)
          case atStart => exact ⟨0,Nat.zero_le _,rfl,hbel,rfl⟩
          case round =>
            clear hbel
            obtain ⟨j,hj,rfl,hbel,hnd⟩ := hrel
            obtain ⟨k0,k1,k2,k3⟩ := (unhide F0).below (unhide hbel)
            by_cases hlt2 : j < k
            · have hlk : j < l.length := by rw [<- unhide HN]; exact hlt2
              have hc := cell_kept (unhide hbel) (cell_kept (unhide B0) (unhide HC j hlk))
              have hno := hide (nodup_bad l j hlk)
              have hyes := hide (nodup_next l j hlk)
              obtain ⟨t,ht⟩ : ∃ t,t = l[j] := ⟨_,rfl⟩
              rw [<- ht] at hc hno hyes
              obtain ⟨q,hq⟩ : ∃ q,q = (l.take j).contains t := ⟨_,rfl⟩
              rw [<- hq] at hno hyes
              have hQ := hide hq
              have hV := hide ((unhide HV).below (chain (unhide B0) (unhide hbel)))
              have hi0 : (0 : Int) <= (j : Int) := by omega
              have hi1 : (j : Int) < (k : Int) := by omega
              have hi2 : (j : Int) <= (c : Int) := by omega
              have hjk : j <= k := by omega
              have hcc : wr.cell? ⟨w.heap.size,2,none⟩ = some (.slice (some ⟨b,o,none⟩) k c) /\ wr.cell? ⟨b,o + j,none⟩ = some (.string (bytesT t)) := ⟨k2,hc⟩
              have hct := hide (fun (W : World) (hs : Strs W (.slice (some ⟨b,o,none⟩) k c) l) => rin_take b o k c j l t W hs hjk)
              rw [<- hq] at hct
              clear hq ht hlk k0 k1 k2 k3 hc
              go_wp2_with fail
              go_region_held3 (fun W => W.cell? ⟨w.heap.size,2,none⟩ = some (.slice (some ⟨b,o,none⟩) k c) /\ W.cell? ⟨b,o + j,none⟩ = some (.string (bytesT t)))
                (first | exact hcc | assumption)
                (first | (go_at_call 181; refine (unhide hct _ ((unhide hV).below (below_drewN (Below.refl _ _) _))).mono ?_; rintro e w1 ⟨rfl,hw1⟩; have hb1 := hide hw1; have hcd := two_cells hw1 hcc; clear hw1))
              all_goals
                have hb2 := hide (chain (unhide hbel) ((below_drewN (Below.refl _ _) _).trans (unhide hb1)))
                obtain ⟨k2,hc⟩ := hcd
                clear hcc hb1
                cases q
                · have hf : Hid (nodupB [] (l.take (j + 1)) = true) := by show _ = _; rw [unhide hyes,unhide hnd]; rfl
                  go_wp2_with fail
                  go_roundw
                  case rel => exact ⟨j + 1,by omega,by go_num,hb2,hf⟩
                  case measure => simp [intOf]; omega
                · have hf : Hid (r = 6) := (unhide hr3).trans (if_pos (unhide hno rfl))
                  go_wp2_with fail
                  go_ret
                  exact ⟨ret_int (unhide hf).symm,chain (unhide B0) (unhide hb2)⟩
            · obtain rfl : j = k := by omega
              have hf : Hid (r = 0) := (unhide hr3).trans (if_neg (by
                have := unhide hnd
                rw [List.take_of_length_le (by rw [<- unhide HN]; exact Nat.le_refl _)] at this
                rw [this]; decide))
              go_wp2_with fail
              go_ret
              exact ⟨ret_int (unhide hf).symm,chain (unhide B0) (unhide hbel)⟩
  · have hnil : n = 0 ∨ ¬ n = 0 := by omega
    rcases hnil with hn0 | hn0
    rotate_left
    · have hf := hide (unhide hbad _ hop fun h => Or.inr (Or.inr (Or.inl (by rw [decide_eq_false (show ¬ (op = 1 ∨ op = 2) by omega),decide_eq_true (show 0 < l.length by rw [<- unhide HN]; omega)]; rfl))))
      have hpos : 0 < (n : Int) := by omega
      clear hbad
      rcases hop with rfl | rfl
      all_goals
        go_wp2_with fail
        go_ret
        exact ⟨ret_int (unhide hf).symm,unhide B0⟩
    subst hn0
    by_cases hz : z = 0
    rotate_left
    · have hf := hide (unhide hbad _ (And.intro hop hz) fun h => Or.inr (Or.inr (Or.inr (Or.inl ⟨by omega,h.2⟩))))
      have hz' : (z != 0) = true := bne_iff_ne.2 hz
      clear hbad hz
      rcases hop with rfl | rfl
      all_goals
        go_wp2_with fail
        go_ret
        exact ⟨ret_int (unhide hf).symm,unhide B0⟩
    subst hz
    have hl0 : l = [] := List.eq_nil_of_length_eq_zero (unhide HN).symm
    have hf : Hid (r = 0) := (unhide HR).trans (by rw [hl0]; exact none_wrong (unhide Q0).symm (by omega) (by omega) (Or.inr rfl) (by omega) (by omega))
    clear hbad HR hl0
    rcases hop with rfl | rfl
    all_goals
      go_wp2_with fail
      go_loop [6] (fun i => i = .int .i64 0) (fun _ => 0)
      case atStart => rfl
      case round =>
        subst hrel
        go_wp2_with fail
        go_loop [8] (fun i => i = .int .i64 0) (fun _ => 0)
        case atStart => rfl
        case round =>
          subst hrel
          go_wp2_with fail
          go_ret
          exact ⟨ret_int (unhide hf).symm,unhide B0⟩
  · have hnil : n = 0 ∨ ¬ n = 0 := by omega
    rcases hnil with hn0 | hn0
    rotate_left
    · have hf := hide (unhide hbad _ hop fun h => Or.inr (Or.inr (Or.inl (by rw [decide_eq_false (show ¬ (op = 1 ∨ op = 2) by omega),decide_eq_true (show 0 < l.length by rw [<- unhide HN]; omega)]; rfl))))
      have hpos : 0 < (n : Int) := by omega
      clear hbad
      rcases hop with rfl | rfl
      all_goals
        go_wp2_with fail
        go_ret
        exact ⟨ret_int (unhide hf).symm,unhide B0⟩
    subst hn0
    by_cases hz0 : z < -2147483648
    · have hf := hide (unhide hbad _ hz0 fun h => Or.inr (Or.inr (Or.inr (Or.inr (Or.inl h)))))
      clear hbad
      rcases hop with rfl | rfl
      all_goals
        go_wp2_with fail
        go_ret
        exact ⟨ret_int (unhide hf).symm,unhide B0⟩
    by_cases hz1 : 2147483648 < z
    · have hf := hide (unhide hbad _ hz1 fun h => Or.inr (Or.inr (Or.inr (Or.inr (Or.inr h)))))
      clear hbad
      rcases hop with rfl | rfl
      all_goals
        go_wp2_with fail
        go_ret
        exact ⟨ret_int (unhide hf).symm,unhide B0⟩
    have hl0 : l = [] := List.eq_nil_of_length_eq_zero (unhide HN).symm
    have hf : Hid (r = 0) := (unhide HR).trans (by rw [hl0]; exact none_wrong (unhide Q0).symm (by omega) (by omega) (Or.inl hop) (by omega) (by omega))
    clear hbad HR hl0
    rcases hop with rfl | rfl
    all_goals
      go_wp2_with fail
      go_loop [6] (fun i => i = .int .i64 0) (fun _ => 0)
      case atStart => rfl
      case round =>
        subst hrel
        go_wp2_with fail
        go_loop [8] (fun i => i = .int .i64 0) (fun _ => 0)
        case atStart => rfl
        case round =>
          subst hrel
          go_wp2_with fail
          go_ret
          exact ⟨ret_int (unhide hf).symm,unhide B0⟩

end Go.Proofs.YtfpfdnapamdhjaaGreatDoor

/- Layer 3: contract of the document's Of. -/
namespace Go.Proofs.YtfpfdnapamdhjaaGreatDoor
open Go.RowKit Suf Val Go.Maps

theorem of_op {r : VReq} (h : wrongR r = 0) : r.op = 1 ∨ r.op = 2 ∨ r.op = 3 ∨ r.op = 4 ∨ r.op = 5 ∨ r.op = 6 := by
  obtain ⟨h1,h2,_⟩ := wrong_ok h; omega
theorem setPost_is {r : VSet × Int} {s : VSet} {x : Int} {w w' : World} {e : Ending} {v : Value} (hr : r = (s,x)) (he : e = .returned (.tuple #[.agg #[.bool s.miss,.bool s.no,.bool s.num,v,.int .i64 s.lo,.int .i64 s.hi],.int .i64 x])) (ho : Own w' w.heap.size v s.vals) (hb : Below w.heap.size w w') : setPost r w e w' := by
  subst hr; exact setPost_of (r := (s,x)) he ho hb

set_option maxRecDepth 100000 in
set_option maxHeartbeats 8000000 in
theorem rof_any (key : ByteArray) (op : Int) (v : Value) (l : List Txt) (z : Int) (w : World) (hv : Strs w v l) (hcap : Capd v) (hkey : key.size <= maxLen) :
    Calls Tryz.prog 155 #[.agg #[.string key,.int .i64 op,v,.int .i64 z]] w fun e w' => setPost (ofR ⟨key.data.toList,op,l,z⟩) w e w' := by
  obtain ⟨R,hR⟩ : ∃ R,R = ofR ⟨key.data.toList,op,l,z⟩ := ⟨_,rfl⟩
  rw [<- hR]
  have HR := hide hR
  have HV := hide hv
  have HK := hide hkey
  have HCP := hide hcap
  obtain ⟨a,c,rfl⟩ := hv.val
  clear hR hkey hv hcap
  obtain ⟨n,hn⟩ : ∃ n,n = l.length := ⟨_,rfl⟩
  rw [<- hn] at HV HCP ⊢
  clear hn
  obtain ⟨W0,hW0⟩ : ∃ W0,W0 = ((w.alloc (.cells #[.string key,.int .i64 op,.slice a n c,.int .i64 z] 138)).alloc (.cells #[.bool false,.bool false,.bool false,.slice none 0 0,.int .i64 0,.int .i64 0] 199)) := ⟨_,rfl⟩
  have F0 : Hid (Four W0 w.heap.size (.string key) (.int .i64 op) (.slice a n c) (.int .i64 z)) := by rw [hW0]; exact (four_new _ _ _ _ _ _).below (box_below _)
  have SL0 : Hid (Slot W0 (w.heap.size + 1)) := by
    have := slot_new (w.alloc (.cells #[.string key,.int .i64 op,.slice a n c,.int .i64 z] 138)) 199
    rw [show (w.alloc (.cells #[.string key,.int .i64 op,.slice a n c,.int .i64 z] 138)).heap.size = w.heap.size + 1 by simp] at this
    rw [hW0]; exact this
  have B0 : Hid (Below w.heap.size w W0) := by rw [hW0]; exact ((box_below _).alloc (by simp) _)
  have Z0 : Hid (W0.heap.size = w.heap.size + 2) := by rw [hW0]; show _ = _; simp
  have GW := hide hW0
  clear hW0
  obtain ⟨x,hx⟩ : ∃ x,x = wrongR ⟨key.data.toList,op,l,z⟩ := ⟨_,rfl⟩
  have GXX := hide hx
  clear hx
  go_enter Tryz.func155,Tryz.ntmps155
  go_wp2_with fail
  rw [<- unhide GW]
  refine (rwrong_any key op _ l z _ ((unhide HV).below (unhide B0)) (unhide HCP) (unhide HK)).mono ?_
  rintro e w1 ⟨he,hw1⟩
  rw [<- unhide GXX] at he
  subst he
  have B1 := hide (chain (unhide B0) hw1)
  have F1 := hide ((unhide F0).below hw1)
  have S1 := hide ((unhide SL0).below hw1)
  have Z1 : Hid (w.heap.size + 2 <= w1.heap.size) := by rw [<- unhide Z0]; exact hw1.size
  clear hw1 B0 F0 SL0 Z0
  by_cases hx0 : x = 0
  rotate_left
  · have hR2 : Hid (R = (zeroS,x)) := by show _ = _; rw [unhide HR,ofR_bad (by rw [<- unhide GXX]; exact hx0),<- unhide GXX]
    have ht : (x != 0) = true := bne_iff_ne.2 hx0
    obtain ⟨⟨k0,k1,k2,k3,k4,k5⟩,hfz,_⟩ := unhide S1
    clear hx0
    go_wp2_with fail
    exact bodyPost_ret (v := .tuple #[.agg #[.bool false,.bool false,.bool false,.slice none 0 0,.int .i64 0,.int .i64 0],.int .i64 x]) (by simp [results,Tryz.results155,go_sem,k0,k1,k2,k3,k4,k5]) rfl
      (setPost_is (s := zeroS) (unhide hR2) rfl (own_nil _ _) (put6_below _ _ _ _ _ _ (unhide B1) (by omega)))
  subst hx0
  have hR2 : Hid (R = (ofSet ⟨key.data.toList,op,l,z⟩,0)) := by show _ = _; rw [unhide HR,ofR_good (unhide GXX).symm]
  have hzb := hide1 (show -2147483648 <= z /\ z <= 2147483648 /\ n <= 8 from by
    obtain ⟨_,_,h1,h2,h3,_⟩ := wrong_ok (unhide GXX).symm
    exact ⟨h1,h2,by obtain ⟨a',c',e,_⟩ := (unhide HV); injection e with _ e _; rw [e]; exact h3⟩)
  have hln := hide (show l.length <= 999999 from by obtain ⟨_,_,_,_,h3,_⟩ := wrong_ok (unhide GXX).symm; exact Nat.le_trans h3 (by decide))
  rcases of_op (unhide GXX).symm with h | h | h | h | h | h
  all_goals
    have hop : op = _ := h
    subst hop
    clear h HR GXX
  · -- In
    obtain ⟨g0,g1,g2,g3⟩ := unhide F1
    go_wp2_with fail
    clear g0 g1 g2 g3
    refine (rrising_any _ l _ ((unhide HV).below (unhide B1)) (unhide hln)).mono ?_
    rintro e w2 ⟨v2,rfl,ho2,hw2⟩
    obtain ⟨⟨k0,k1,k2,k3,k4,k5⟩,hfz,_⟩ := (unhide S1).below hw2
    have B2 := hide (chain (unhide B1) hw2)
    have O2 := hide ho2
    obtain ⟨pa,pc,hpe⟩ := ho2.strs.val
    obtain ⟨pn,hpn⟩ : ∃ m,m = (Val.rising l).length := ⟨_,rfl⟩
    rw [<- hpn] at hpe
    clear hpn hw2 ho2
    subst hpe
    go_wp2_with fail
    exact bodyPost_ret (v := .tuple #[.agg #[.bool false,.bool false,.bool false,.slice pa pn pc,.int .i64 0,.int .i64 0],.int .i64 0]) (by simp [results,Tryz.results155,go_sem,k0,k1,k2,k3,k4,k5]) rfl
      (setPost_is (s := ⟨false,false,false,rising l,0,0⟩) (by rw [unhide hR2]; rfl) rfl (((unhide O2).grown (put6_grown _ (w.heap.size + 1) _ _ _ _ _ _) (by have := unhide Z1; omega)).mono (unhide B1).size) (put6_below _ _ _ _ _ _ (unhide B2) (by omega)))
  · obtain ⟨g0,g1,g2,g3⟩ := unhide F1
    go_wp2_with fail
    clear g0 g1 g2 g3
    refine (rrising_any _ l _ ((unhide HV).below (unhide B1)) (unhide hln)).mono ?_
    rintro e w2 ⟨v2,rfl,ho2,hw2⟩
    obtain ⟨⟨k0,k1,k2,k3,k4,k5⟩,hfz,_⟩ := (unhide S1).below hw2
    have B2 := hide (chain (unhide B1) hw2)
    have O2 := hide ho2
    obtain ⟨pa,pc,hpe⟩ := ho2.strs.val
    obtain ⟨pn,hpn⟩ : ∃ m,m = (Val.rising l).length := ⟨_,rfl⟩
    rw [<- hpn] at hpe
    clear hpn hw2 ho2
    subst hpe
    go_wp2_with fail
    exact bodyPost_ret (v := .tuple #[.agg #[.bool true,.bool true,.bool false,.slice pa pn pc,.int .i64 0,.int .i64 0],.int .i64 0]) (by simp [results,Tryz.results155,go_sem,k0,k1,k2,k3,k4,k5]) rfl
      (setPost_is (s := ⟨true,true,false,rising l,0,0⟩) (by rw [unhide hR2]; rfl) rfl (((unhide O2).grown (put6_grown _ (w.heap.size + 1) _ _ _ _ _ _) (by have := unhide Z1; omega)).mono (unhide B1).size) (put6_below _ _ _ _ _ _ (unhide B2) (by omega)))
  · obtain ⟨g0,g1,g2,g3⟩ := unhide F1
    obtain ⟨⟨k0,k1,k2,k3,k4,k5⟩,hfz,_⟩ := unhide S1
    go_wp2_with fail
    exact bodyPost_ret (v := .tuple #[.agg #[.bool false,.bool true,.bool false,.slice none 0 0,.int .i64 0,.int .i64 0],.int .i64 0]) (by simp [results,Tryz.results155,go_sem,k0,k1,k2,k3,k4,k5]) rfl
      (setPost_is (s := ⟨false,true,false,[],0,0⟩) (by rw [unhide hR2]; rfl) rfl (own_nil _ _) (put6_below _ _ _ _ _ _ (unhide B1) (by omega)))
  · obtain ⟨g0,g1,g2,g3⟩ := unhide F1
    obtain ⟨⟨k0,k1,k2,k3,k4,k5⟩,hfz,_⟩ := unhide S1
    go_wp2_with fail
    exact bodyPost_ret (v := .tuple #[.agg #[.bool true,.bool false,.bool false,.slice none 0 0,.int .i64 0,.int .i64 0],.int .i64 0]) (by simp [results,Tryz.results155,go_sem,k0,k1,k2,k3,k4,k5]) rfl
      (setPost_is (s := ⟨true,false,false,[],0,0⟩) (by rw [unhide hR2]; rfl) rfl (own_nil _ _) (put6_below _ _ _ _ _ _ (unhide B1) (by omega)))
  · have wz := wrap_small (z + 1) (by have := unhide1 hzb; omega) (by have := unhide1 hzb; omega)
    obtain ⟨g0,g1,g2,g3⟩ := unhide F1
    go_wp2_with fail
    clear g0 g1 g2 g3
    refine (rnumbers_any (z + 1) 2147483648 _ [] _ (strs_zero _ _ _) (by decide) (by have := unhide1 hzb; omega) (by have := unhide1 hzb; omega) (by decide) (by decide)).mono ?_
    rintro e w2 ⟨v2,rfl,ho2,hw2⟩
    have Z2 : w.heap.size + 1 ≠ w2.heap.size := by have := unhide Z1; have := hw2.size; omega
    obtain ⟨s,hs⟩ : ∃ s,s = (numbersO (z + 1) 2147483648 []).getD zeroS := ⟨_,rfl⟩
    have hR3 : Hid (R = (s,0)) := by show _ = _; rw [unhide hR2,hs]; rfl
    rw [<- hs] at ho2 ⊢
    clear hs hR2
    have S2 := hide (((unhide S1).below hw2).below (box_below (.cells #[.bool s.miss,.bool s.no,.bool s.num,v2,.int .i64 s.lo,.int .i64 s.hi] 199)))
    have B2 := hide (chain (chain (unhide B1) hw2) (box_below (.cells #[.bool s.miss,.bool s.no,.bool s.num,v2,.int .i64 s.lo,.int .i64 s.hi] 199)))
    have O2 := hide (ho2.below (box_below (.cells #[.bool s.miss,.bool s.no,.bool s.num,v2,.int .i64 s.lo,.int .i64 s.hi] 199)))
    obtain ⟨pa,pc,hpe⟩ := ho2.strs.val
    obtain ⟨pn,hpn⟩ : ∃ m,m = s.vals.length := ⟨_,rfl⟩
    rw [<- hpn] at hpe
    clear hpn hw2 ho2
    subst hpe
    obtain ⟨⟨k0,k1,k2,k3,k4,k5⟩,hfz,_⟩ := unhide S2
    go_wp2_with fail
    exact bodyPost_ret (v := .tuple #[.agg #[.bool s.miss,.bool s.no,.bool s.num,.slice pa pn pc,.int .i64 s.lo,.int .i64 s.hi],.int .i64 0]) (by simp [results,Tryz.results155,go_sem,k0,k1,k2,k3,k4,k5]) rfl
      (setPost_is (s := s) (unhide hR3) rfl (((unhide O2).grown (put6_grown _ (w.heap.size + 1) _ _ _ _ _ _) (by have := unhide Z1; omega)).mono (unhide B1).size) (put6_below _ _ _ _ _ _ (unhide B2) (by omega)))
  · have wz := wrap_small (z - 1) (by have := unhide1 hzb; omega) (by have := unhide1 hzb; omega)
    obtain ⟨g0,g1,g2,g3⟩ := unhide F1
    go_wp2_with fail
    clear g0 g1 g2 g3
    refine (rnumbers_any (-2147483648) (z - 1) _ [] _ (strs_zero _ _ _) (by decide) (by decide) (by decide) (by have := unhide1 hzb; omega) (by have := unhide1 hzb; omega)).mono ?_
    rintro e w2 ⟨v2,rfl,ho2,hw2⟩
    have Z2 : w.heap.size + 1 ≠ w2.heap.size := by have := unhide Z1; have := hw2.size; omega
    obtain ⟨s,hs⟩ : ∃ s,s = (numbersO (-2147483648) (z - 1) []).getD zeroS := ⟨_,rfl⟩
    have hR3 : Hid (R = (s,0)) := by show _ = _; rw [unhide hR2,hs]; rfl
    rw [<- hs] at ho2 ⊢
    clear hs hR2
    have S2 := hide (((unhide S1).below hw2).below (box_below (.cells #[.bool s.miss,.bool s.no,.bool s.num,v2,.int .i64 s.lo,.int .i64 s.hi] 199)))
    have B2 := hide (chain (chain (unhide B1) hw2) (box_below (.cells #[.bool s.miss,.bool s.no,.bool s.num,v2,.int .i64 s.lo,.int .i64 s.hi] 199)))
    have O2 := hide (ho2.below (box_below (.cells #[.bool s.miss,.bool s.no,.bool s.num,v2,.int .i64 s.lo,.int .i64 s.hi] 199)))
    obtain ⟨pa,pc,hpe⟩ := ho2.strs.val
    obtain ⟨pn,hpn⟩ : ∃ m,m = s.vals.length := ⟨_,rfl⟩
    rw [<- hpn] at hpe
    clear hpn hw2 ho2
    subst hpe
    obtain ⟨⟨k0,k1,k2,k3,k4,k5⟩,hfz,_⟩ := unhide S2
    go_wp2_with fail
    exact bodyPost_ret (v := .tuple #[.agg #[.bool s.miss,.bool s.no,.bool s.num,.slice pa pn pc,.int .i64 s.lo,.int .i64 s.hi],.int .i64 0]) (by simp [results,Tryz.results155,go_sem,k0,k1,k2,k3,k4,k5]) rfl
      (setPost_is (s := s) (unhide hR3) rfl (((unhide O2).grown (put6_grown _ (w.heap.size + 1) _ _ _ _ _ _) (by have := unhide Z1; omega)).mono (unhide B1).size) (put6_below _ _ _ _ _ _ (unhide B2) (by omega)))

end Go.Proofs.YtfpfdnapamdhjaaGreatDoor
