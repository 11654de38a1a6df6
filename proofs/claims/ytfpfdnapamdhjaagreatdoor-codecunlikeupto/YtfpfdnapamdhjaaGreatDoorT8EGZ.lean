/- Layer 5: contracts of the program's Check and CheckTols. -/
import Derived.Test.YtfpfdnapamdhjaaGreatDoorT8AGZ
namespace Go.Proofs.YtfpfdnapamdhjaaGreatDoor.Ta
open Go.RowKit Suf Go.Proofs.YtfpfdnapamdhjaaGreatDoor.Val Go.Proofs.YtfpfdnapamdhjaaGreatDoor.Ta.Val

set_option maxRecDepth 100000 in
set_option maxHeartbeats 8000000 in
theorem pcheck_any (v : Value) (l : List Lab) (w : World) (hL : Laid w) (hv : Labs w v l) :
    Calls Tryz.prog 113 #[v] w fun e w' => e = .returned (.int .i64 (taintR l)) /\ Below w.heap.size w w' := by
  have HL := hide hL
  have HV := hide hv
  have hlen := hv.len
  obtain ⟨a,c,rfl⟩ := hv.val
  have hcap := hv.cap
  clear hL hv
  obtain ⟨n,hn⟩ : ∃ n,n = l.length := ⟨_,rfl⟩
  rw [<- hn] at HV hlen hcap ⊢
  have HN := hide hn
  clear hn
  obtain ⟨R,hR⟩ : ∃ R,R = taintR l := ⟨_,rfl⟩
  rw [<- hR]
  have HR := hide hR
  clear hR
  by_cases h4 : 4 < n
  · have hfin : Hid (R = 3) := by show _ = _; rw [unhide HR]; unfold taintR; rw [if_pos (by rw [<- unhide HN]; exact h4)]
    go_enter Tryz.func113,Tryz.ntmps113
    go_wp2_with fail
    go_ret
    exact ⟨ret_int (unhide hfin).symm,Below.refl _ _⟩
  have HF : Hid (R = taintF (l.take 0) (l.drop 0)) := by show _ = _; rw [unhide HR]; unfold taintR; rw [if_neg (by rw [<- unhide HN]; exact h4)]; rfl
  go_enter Tryz.func113,Tryz.ntmps113
  go_wp2_with fail
  go_loopw [11] (fun i W => ∃ k : Nat,k <= n /\ i = .int .i64 k /\ Hid (R = taintF (l.take k) (l.drop k)) /\ Hid (Below w.heap.size w W)) (fun i _ => n - (intOf i).toNat)
  case atStart => exact ⟨0,Nat.zero_le _,rfl,HF,Below.refl _ _⟩
  case round =>
    obtain ⟨k,hk,rfl,hlab,hbel⟩ := hrel
    by_cases hlt : k < n
    · have hlk : k < l.length := by rw [<- unhide HN]; exact hlt
      obtain ⟨b,o,rfl,h0,h1,hs0,hs1⟩ := ((unhide HV).below (unhide hbel)).at hlk
      have hst := hide (taint_step hlk)
      obtain ⟨y,hy⟩ : ∃ y,y = l[k] := ⟨_,rfl⟩
      rw [<- hy] at h0 h1 hs0 hs1 hst
      have HS0 := hide hs0
      have HS1 := hide hs1
      clear hs0 hs1 hy hlk
      obtain ⟨q0,hq0⟩ : ∃ q,q = nameB y.1 := ⟨_,rfl⟩
      obtain ⟨q1,hq1⟩ : ∃ q,q = valueB y.2 := ⟨_,rfl⟩
      rw [<- hq0,<- hq1] at hst
      have GQ0 := hide hq0
      have GQ1 := hide hq1
      clear hq0 hq1
      obtain ⟨W0,hW0⟩ : ∃ W,W = wr.alloc (.cells #[.string (bytesT y.1),.string (bytesT y.2)] 118) := ⟨_,rfl⟩
      have B0 : Hid (Below wr.heap.size wr W0) := by rw [hW0]; exact box_below _
      obtain ⟨c0,c1⟩ : Two W0 wr.heap.size (.string (bytesT y.1)) (.string (bytesT y.2)) := by rw [hW0]; exact two_new _ _ _ _
      have GW0 := hide hW0
      clear hW0
      go_wp2_with fail
      rw [<- unhide GW0]
      clear h0 h1
      refine (name_any (bytesT y.1) _ (short_max (unhide HS0))).mono ?_
      rintro e w1 ⟨he,hw1⟩
      rw [bytesT_list,<- unhide GQ0] at he
      subst he
      obtain rfl := hw1.symm
      clear hw1
      cases q0
      · have hfin : Hid (R = 7) := by show _ = _; rw [unhide hlab,unhide hst]; simp
        go_wp2_with fail
        go_ret
        exact ⟨ret_int (unhide hfin).symm,chain (unhide hbel) (unhide B0)⟩
      go_wp2_with fail
      refine (value_any (bytesT y.2) _ (short_size (unhide HS1)) ((unhide HL).below (chain (unhide hbel) (unhide B0)))).mono ?_
      rintro e w2 ⟨he,hw2⟩
      rw [bytesT_list,<- unhide GQ1] at he
      subst he
      have B2 := hide (chain (chain (unhide hbel) (unhide B0)) hw2)
      have C0 := hide (cell_kept hw2 c0)
      clear hw2 c0 c1
      cases q1
      · have hfin : Hid (R = 20) := by show _ = _; rw [unhide hlab,unhide hst]; simp
        go_wp2_with fail
        go_ret
        exact ⟨ret_int (unhide hfin).symm,unhide B2⟩
      have i0 : (0 : Int) <= (k : Int) := by omega
      have i1 : (k : Int) <= (c : Int) := by omega
      go_wp2_with fail
      refine (contains_key wr.heap.size y _ (l.take k) _ (((unhide HV).below (unhide B2)).take (by rw [<- unhide HN]; exact hk)) (unhide C0)).mono ?_
      rintro e w3 ⟨he,hw3⟩
      obtain ⟨q2,hq2⟩ : ∃ q,q = (l.take k).any (sameKey y) := ⟨_,rfl⟩
      rw [<- hq2] at he
      have GQ2 := hide hq2
      subst he
      have B3 := hide (chain (unhide B2) hw3)
      clear hw3 hq2
      cases q2
      · have hn2 : Hid (R = taintF (l.take (k + 1)) (l.drop (k + 1))) := by
          show _ = _
          have h3 : (l.take k).any (fun x => x.1 == y.1) = false := (unhide GQ2).symm
          rw [unhide hlab,unhide hst,h3]; simp
        go_wp2_with fail
        go_roundw
        case rel => exact ⟨k + 1,by omega,by go_num,hn2,B3⟩
        case measure => simp [intOf]; omega
      · have hfin : Hid (R = 6) := by
          show _ = _
          have h3 : (l.take k).any (fun x => x.1 == y.1) = true := (unhide GQ2).symm
          rw [unhide hlab,unhide hst,h3]; simp
        go_wp2_with fail
        go_ret
        exact ⟨ret_int (unhide hfin).symm,unhide B3⟩
    · obtain rfl : k = n := by omega
      have hfin : Hid (R = 0) := by
        show _ = _
        rw [unhide hlab,List.drop_of_length_le (by rw [<- unhide HN]; exact Nat.le_refl _)]; rfl
      go_wp2_with fail
      go_ret
      exact ⟨ret_int (unhide hfin).symm,unhide hbel⟩
end Go.Proofs.YtfpfdnapamdhjaaGreatDoor.Ta

/- Layer 5: contracts of the program's Check and CheckTols. -/
namespace Go.Proofs.YtfpfdnapamdhjaaGreatDoor.Ta
open Go.RowKit Suf Go.Proofs.YtfpfdnapamdhjaaGreatDoor.Val Go.Proofs.YtfpfdnapamdhjaaGreatDoor.Ta.Val

set_option maxRecDepth 100000 in
set_option maxHeartbeats 8000000 in
theorem ptols_any (v : Value) (l : List VTol) (w : World) (hL : Laid w) (hv : Tols w v l) :
    Calls Tryz.prog 108 #[v] w fun e w' => e = .returned (.int .i64 (tolsR l)) /\ Below w.heap.size w w' := by
  have HL := hide hL
  have HV := hide hv
  have hlen := hv.len
  obtain ⟨a,c,rfl⟩ := hv.val
  have hcap := hv.cap
  clear hL hv
  obtain ⟨n,hn⟩ : ∃ n,n = l.length := ⟨_,rfl⟩
  rw [<- hn] at HV hlen hcap ⊢
  have HN := hide hn
  clear hn
  obtain ⟨R,hR⟩ : ∃ R,R = tolsR l := ⟨_,rfl⟩
  rw [<- hR]
  have HR := hide hR
  clear hR
  by_cases h4 : 4 < n
  · have hfin : Hid (R = 3) := by show _ = _; rw [unhide HR]; unfold tolsR; rw [if_pos (by rw [<- unhide HN]; exact h4)]
    go_enter Tryz.func108,Tryz.ntmps108
    go_wp2_with fail
    go_ret
    exact ⟨ret_int (unhide hfin).symm,Below.refl _ _⟩
  have HF : Hid (R = tolF (l.take 0) (l.drop 0)) := by show _ = _; rw [unhide HR]; unfold tolsR; rw [if_neg (by rw [<- unhide HN]; exact h4)]; rfl
  go_enter Tryz.func108,Tryz.ntmps108
  go_wp2_with fail
  go_loopw [10] (fun i W => ∃ k : Nat,k <= n /\ i = .int .i64 k /\ Hid (R = tolF (l.take k) (l.drop k)) /\ Hid (Below w.heap.size w W)) (fun i _ => n - (intOf i).toNat)
  case atStart => exact ⟨0,Nat.zero_le _,rfl,HF,Below.refl _ _⟩
  case round =>
    obtain ⟨k,hk,rfl,hlab,hbel⟩ := hrel
    by_cases hlt : k < n
    · have hlk : k < l.length := by rw [<- unhide HN]; exact hlt
      obtain ⟨b,o,rfl,h0,h1,h2,hs0,hs1⟩ := ((unhide HV).below (unhide hbel)).at hlk
      have hst := hide (tol_step hlk)
      obtain ⟨y,hy⟩ : ∃ y,y = l[k] := ⟨_,rfl⟩
      rw [<- hy] at h0 h1 h2 hs0 hs1 hst
      have HS0 := hide hs0
      have HS1 := hide hs1
      clear hs0 hs1 hy hlk
      obtain ⟨q0,hq0⟩ : ∃ q,q = nameB y.1 := ⟨_,rfl⟩
      obtain ⟨q1,hq1⟩ : ∃ q,q = formedB y := ⟨_,rfl⟩
      rw [<- hq0,<- hq1] at hst
      have GQ0 := hide hq0
      clear hq0
      have hform := hide (fun W h => formed_any y W h (unhide HS1))
      have hcont := hide (fun W h => contains_tol y (.slice (some ⟨b,o,none⟩) k c) (l.take k) W h)
      rw [<- hq1] at hform
      clear hq1
      have hnm := hide (fun W => name_any (bytesT y.1) W (short_max (unhide HS0)))
      rw [bytesT_list,<- unhide GQ0] at hnm
      clear GQ0 HS0 HS1
      obtain ⟨q2,hq2⟩ : ∃ q,q = (l.take k).any (isTol y) := ⟨_,rfl⟩
      rw [<- hq2] at hcont
      have GQ2 : Hid ((l.take k).any (fun x => x == y) = q2) := hq2.symm
      clear hq2
      unfold tolV at hform hcont
      obtain ⟨Y0,hY0⟩ : ∃ X,X = bytesT y.1 := ⟨_,rfl⟩
      obtain ⟨Y1,hY1⟩ : ∃ X,X = bytesT y.2.1 := ⟨_,rfl⟩
      obtain ⟨Y2,hY2⟩ : ∃ X,X = y.2.2 := ⟨_,rfl⟩
      rw [<- hY0] at h0 hnm
      rw [<- hY1] at h1
      rw [<- hY2] at h2
      rw [<- hY0,<- hY1,<- hY2] at hform hcont
      clear hY0 hY1 hY2
      obtain ⟨W0,hW0⟩ : ∃ W,W = wr.alloc (.cells #[.string Y0,.string Y1,.bool Y2] 112) := ⟨_,rfl⟩
      have B0 : Hid (Below wr.heap.size wr W0) := by rw [hW0]; exact box_below _
      obtain ⟨c0,c1,c2⟩ : Three W0 wr.heap.size (.string Y0) (.string Y1) (.bool Y2) := by rw [hW0]; exact three_new _ _ _ _ _
      have GW0 := hide hW0
      clear hW0
      go_wp2_with fail
      rw [<- unhide GW0]
      clear h0 h1 h2
      refine (unhide hnm _).mono ?_
      rintro e w1 ⟨rfl,hw1⟩
      obtain rfl := hw1.symm
      clear hw1
      cases q0
      · have hfin : Hid (R = 7) := by show _ = _; rw [unhide hlab,unhide hst]; simp
        go_wp2_with fail
        go_ret
        exact ⟨ret_int (unhide hfin).symm,chain (unhide hbel) (unhide B0)⟩
      go_wp2_with fail
      refine (unhide hform _ ((unhide HL).below (chain (unhide hbel) (unhide B0)))).mono ?_
      rintro e w2 ⟨rfl,hw2⟩
      have B2 := hide (chain (chain (unhide hbel) (unhide B0)) hw2)
      have d0 := cell_kept hw2 c0
      have d1 := cell_kept hw2 c1
      have d2 := cell_kept hw2 c2
      clear hw2 c0 c1 c2
      cases q1
      · have hfin : Hid (R = 20) := by show _ = _; rw [unhide hlab,unhide hst]; simp
        go_wp2_with fail
        go_ret
        exact ⟨ret_int (unhide hfin).symm,unhide B2⟩
      have i0 : (0 : Int) <= (k : Int) := by omega
      have i1 : (k : Int) <= (c : Int) := by omega
      have hS := And.intro (show Hid (Below w2.heap.size w2 w2) from Below.refl _ _) (And.intro d0 (And.intro d1 d2))
      have cH : Hid (∀ W,Hid (Below w2.heap.size w2 W) /\ W.cell? ⟨wr.heap.size,0,none⟩ = some (.string Y0) /\ W.cell? ⟨wr.heap.size,1,none⟩ = some (.string Y1) /\ W.cell? ⟨wr.heap.size,2,none⟩ = some (.bool Y2) -> Calls Tryz.prog 147 #[.slice (some ⟨b,o,none⟩) k c,.agg #[.string Y0,.string Y1,.bool Y2]] W fun e w' => e = .returned (.bool q2) /\ Below W.heap.size W w') := fun W hs =>
        unhide hcont W (((unhide HV).below (chain (unhide B2) (unhide hs.1))).take (by rw [<- unhide HN]; exact hk))
      clear d0 d1 d2
      go_wp2_with fail
      go_region_held3 (fun W => Hid (Below w2.heap.size w2 W) /\ W.cell? ⟨wr.heap.size,0,none⟩ = some (.string Y0) /\ W.cell? ⟨wr.heap.size,1,none⟩ = some (.string Y1) /\ W.cell? ⟨wr.heap.size,2,none⟩ = some (.bool Y2))
        (first | (with_reducible exact hS) | (with_reducible assumption) | (with_reducible refine c3_drew ?_; with_reducible assumption) | (with_reducible refine c3_next ?_ hw; with_reducible assumption))
        (first | (go_at_call 147; with_reducible refine (unhide cH _ ?_).mono ?_; with_reducible assumption; rintro e w4 ⟨rfl,hw⟩))
      rename_i hH
      have B3 := hide (chain (unhide B2) (unhide hH.1))
      clear hH hS hw cH
      cases q2
      · have hn2 : Hid (R = tolF (l.take (k + 1)) (l.drop (k + 1))) := by
          show _ = _
          rw [unhide hlab,unhide hst,unhide GQ2]; simp
        go_wp2_with fail
        go_roundw
        case rel => exact ⟨k + 1,by omega,by go_num,hn2,B3⟩
        case measure => simp [intOf]; omega
      · have hfin : Hid (R = 6) := by
          show _ = _
          rw [unhide hlab,unhide hst,unhide GQ2]; simp
        go_wp2_with fail
        go_ret
        exact ⟨ret_int (unhide hfin).symm,unhide B3⟩
    · obtain rfl : k = n := by omega
      have hfin : Hid (R = 0) := by
        show _ = _
        rw [unhide hlab,List.drop_of_length_le (by rw [<- unhide HN]; exact Nat.le_refl _)]; rfl
      go_wp2_with fail
      go_ret
      exact ⟨ret_int (unhide hfin).symm,unhide hbel⟩
end Go.Proofs.YtfpfdnapamdhjaaGreatDoor.Ta

/- Layer 5: contracts of the document's Check and CheckTols. -/
namespace Go.Proofs.YtfpfdnapamdhjaaGreatDoor.Ta
open Go.RowKit Suf Go.Proofs.YtfpfdnapamdhjaaGreatDoor.Val Go.Proofs.YtfpfdnapamdhjaaGreatDoor.Ta.Val
theorem c2_drew {V W : World} {p0 p1 : Addr} {v0 v1 : Value} (h : Hid (Below V.heap.size V W) /\ W.cell? p0 = some v0 /\ W.cell? p1 = some v1) : Hid (Below V.heap.size V W.drew) /\ W.drew.cell? p0 = some v0 /\ W.drew.cell? p1 = some v1 :=
  ⟨(unhide h.1).drew,h.2.1,h.2.2⟩

set_option maxRecDepth 100000 in
set_option maxHeartbeats 8000000 in
theorem rcheck_any (v : Value) (l : List Lab) (w : World) (hv : Labs w v l) :
    Calls Tryz.prog 91 #[v] w fun e w' => e = .returned (.int .i64 (taintR l)) /\ Below w.heap.size w w' := by
  have HV := hide hv
  have hlen := hv.len
  obtain ⟨a,c,rfl⟩ := hv.val
  clear hv
  obtain ⟨n,hn⟩ : ∃ n,n = l.length := ⟨_,rfl⟩
  rw [<- hn] at HV hlen ⊢
  have HN := hide hn
  clear hn
  obtain ⟨R,hR⟩ : ∃ R,R = taintR l := ⟨_,rfl⟩
  rw [<- hR]
  have HR := hide hR
  clear hR
  by_cases h4 : 4 < n
  · have hfin : Hid (R = 3) := by show _ = _; rw [unhide HR]; unfold taintR; rw [if_pos (by rw [<- unhide HN]; exact h4)]
    go_enter Tryz.func91,Tryz.ntmps91
    go_wp2_with fail
    go_ret
    exact ⟨ret_int (unhide hfin).symm,Below.refl _ _⟩
  have HF : Hid (R = taintF (l.take 0) (l.drop 0)) := by show _ = _; rw [unhide HR]; unfold taintR; rw [if_neg (by rw [<- unhide HN]; exact h4)]; rfl
  go_enter Tryz.func91,Tryz.ntmps91
  go_wp2_with fail
  go_loopw [3] (fun i W => ∃ k : Nat,k <= n /\ i = .int .i64 k /\ Hid (R = taintF (l.take k) (l.drop k)) /\ Hid (Below w.heap.size w W)) (fun i _ => n - (intOf i).toNat)
  case atStart => exact ⟨0,Nat.zero_le _,rfl,HF,Below.refl _ _⟩
  case round =>
    obtain ⟨k,hk,rfl,hlab,hbel⟩ := hrel
    by_cases hlt : k < n
    · have hlk : k < l.length := by rw [<- unhide HN]; exact hlt
      obtain ⟨b,o,rfl,h0,h1,hs0,hs1⟩ := ((unhide HV).below (unhide hbel)).at hlk
      have hst := hide (taint_step hlk)
      obtain ⟨y,hy⟩ : ∃ y,y = l[k] := ⟨_,rfl⟩
      rw [<- hy] at h0 h1 hs0 hs1 hst
      obtain ⟨q0,hq0⟩ : ∃ q,q = nameB y.1 := ⟨_,rfl⟩
      obtain ⟨q1,hq1⟩ : ∃ q,q = valueB y.2 := ⟨_,rfl⟩
      have hnm := hide (fun W => rname_any (bytesT y.1) W (short_max hs0))
      have hvl := hide (fun W => rvalue_any (bytesT y.2) W (short_size hs1))
      rw [bytesT_list,<- hq0] at hnm
      rw [bytesT_list,<- hq1] at hvl
      rw [<- hq0,<- hq1] at hst
      clear hs0 hs1 hy hlk hq0 hq1
      have HQ := hide (fun x : Lab => txt_beq x.1 y.1)
      obtain ⟨Y0,hY0⟩ : ∃ X,X = bytesT y.1 := ⟨_,rfl⟩
      obtain ⟨Y1,hY1⟩ : ∃ X,X = bytesT y.2 := ⟨_,rfl⟩
      rw [<- hY0] at h0 hnm HQ
      rw [<- hY1] at h1 hvl
      clear hY0 hY1
      go_wp2_with fail
      refine (unhide hnm _).mono ?_
      rintro e w1 ⟨rfl,hw1⟩
      obtain rfl := hw1.symm
      clear hw1
      cases q0
      · have hfin : Hid (R = 7) := by show _ = _; rw [unhide hlab,unhide hst]; simp
        go_wp2_with fail
        go_ret
        exact ⟨ret_int (unhide hfin).symm,unhide hbel⟩
      go_wp2_with fail
      refine (unhide hvl _).mono ?_
      rintro e w2 ⟨rfl,hw2⟩
      have B2 := hide (chain (unhide hbel) hw2)
      have H0 := hide (cell_kept hw2 h0)
      clear hw2 h0 h1
      cases q1
      · have hfin : Hid (R = 20) := by show _ = _; rw [unhide hlab,unhide hst]; simp
        go_wp2_with fail
        go_ret
        exact ⟨ret_int (unhide hfin).symm,unhide B2⟩
      have hst2 : Hid ((l.take k).any (sameKey y) = true -> R = 6) := fun h => by
        have h3 : (l.take k).any (fun z => z.1 == y.1) = true := h
        rw [unhide hlab,unhide hst,h3]; simp
      have hst3 : Hid ((l.take k).any (sameKey y) = false -> R = taintF (l.take (k + 1)) (l.drop (k + 1))) := fun h => by
        have h3 : (l.take k).any (fun z => z.1 == y.1) = false := h
        rw [unhide hlab,unhide hst,h3]; simp
      clear hst hlab
      go_wp2_with fail
      go_loopw [6] (fun i W => ∃ m : Nat,m <= k /\ i = .int .i64 m /\ Hid ((l.take m).any (sameKey y) = false) /\ Hid (Below w2.heap.size w2 W)) (fun i _ => k - (intOf i).toNat)
      case atStart => exact ⟨0,Nat.zero_le _,rfl,rfl,Below.refl _ _⟩
      case round =>
        obtain ⟨m,hm,rfl,hnone,hbel3⟩ := hrel
        by_cases hmk : m < k
        · have hlm : m < l.length := by rw [<- unhide HN]; omega
          obtain ⟨b',o',eb,hat⟩ := ((unhide HV).below (chain (unhide B2) (unhide hbel3))).at hlm
          obtain ⟨rfl,rfl⟩ : b = b' /\ o = o' := by injection eb with eb; injection eb with e1 e2 _; exact ⟨e1,e2⟩
          have hnx := hide (any_next (p := sameKey y) l m hlm)
          have hmem : Hid (l[m] ∈ l.take k) := List.mem_take_iff_getElem.2 ⟨m,by omega,rfl⟩
          obtain ⟨x,hx⟩ : ∃ x,x = l[m] := ⟨_,rfl⟩
          rw [<- hx] at hat hnx hmem
          obtain ⟨q,hq⟩ : ∃ q,q = sameKey y x := ⟨_,rfl⟩
          rw [<- hq] at hnx
          have hyes : Hid (q = true -> (l.take k).any (sameKey y) = true) := fun h => List.any_eq_true.2 ⟨x,unhide hmem,hq.symm.trans h⟩
          have hqq := (unhide HQ x).trans hq.symm
          clear hq hx hlm eb hmem
          have i0 : (0 : Int) <= (m : Int) := by omega
          have i1 : (m : Int) < (n : Int) := by omega
          have i2 : (0 : Int) <= (k : Int) := by omega
          have i3 : (k : Int) < (n : Int) := by omega
          have g1 := cell_kept (unhide hbel3) (unhide H0)
          obtain ⟨g0,hz0,hz1,hz2⟩ := hat
          obtain ⟨X,hX⟩ : ∃ X,X = bytesT x.1 := ⟨_,rfl⟩
          rw [<- hX] at g0 hqq
          have hS := And.intro (show Hid (Below wr.heap.size wr wr) from Below.refl _ _) (And.intro g0 g1)
          clear g0 g1 hX hz0 hz1 hz2
          go_wp2_with fail
          go_region_held3 (fun W => Hid (Below wr.heap.size wr W) /\ W.cell? ⟨b,o + m * 2,none⟩ = some (.string X) /\ W.cell? ⟨b,o + k * 2,none⟩ = some (.string Y0))
            (first | (with_reducible exact hS) | (with_reducible assumption) | (with_reducible refine c2_drew ?_; with_reducible assumption))
            (fail)
          rename_i hH
          have B6 := hide (chain (unhide hbel3) (unhide hH.1))
          clear hH hS
          cases q
          · have hn2 : Hid ((l.take (m + 1)).any (sameKey y) = false) := by show _ = _; rw [unhide hnx,unhide hnone]; rfl
            go_wp2_with fail
            go_roundw
            case rel => exact ⟨m + 1,by omega,by go_num,hn2,B6⟩
            case measure => simp [intOf]; omega
          · have hfin : Hid (R = 6) := unhide hst2 (unhide hyes rfl)
            go_wp2_with fail
            go_ret
            exact ⟨ret_int (unhide hfin).symm,chain (unhide B2) (unhide B6)⟩
        · obtain rfl : m = k := by omega
          have hnx : Hid (R = taintF (l.take (m + 1)) (l.drop (m + 1))) := unhide hst3 (unhide hnone)
          have B6 := hide (chain (unhide B2) (unhide hbel3))
          go_wp2_with fail
          go_roundw
          case rel => exact ⟨m + 1,by omega,by go_num,hnx,B6⟩
          case measure => simp [intOf]; omega
    · obtain rfl : k = n := by omega
      have hfin : Hid (R = 0) := by
        show _ = _
        rw [unhide hlab,List.drop_eq_nil_of_le (by rw [<- unhide HN]; exact Nat.le_refl _)]; rfl
      go_wp2_with fail
      go_ret
      exact ⟨ret_int (unhide hfin).symm,unhide hbel⟩
end Go.Proofs.YtfpfdnapamdhjaaGreatDoor.Ta

/- Layer 5: contracts of the document's Check and CheckTols. -/
namespace Go.Proofs.YtfpfdnapamdhjaaGreatDoor.Ta
open Go.RowKit Suf Go.Proofs.YtfpfdnapamdhjaaGreatDoor.Val Go.Proofs.YtfpfdnapamdhjaaGreatDoor.Ta.Val

set_option maxRecDepth 100000 in
set_option maxHeartbeats 8000000 in
theorem rtols_any (v : Value) (l : List VTol) (w : World) (hv : Tols w v l) :
    Calls Tryz.prog 88 #[v] w fun e w' => e = .returned (.int .i64 (tolsR l)) /\ Below w.heap.size w w' := by
  have HV := hide hv
  have hlen := hv.len
  obtain ⟨a,c,rfl⟩ := hv.val
  clear hv
  obtain ⟨n,hn⟩ : ∃ n,n = l.length := ⟨_,rfl⟩
  rw [<- hn] at HV hlen ⊢
  have HN := hide hn
  clear hn
  obtain ⟨R,hR⟩ : ∃ R,R = tolsR l := ⟨_,rfl⟩
  rw [<- hR]
  have HR := hide hR
  clear hR
  by_cases h4 : 4 < n
  · have hfin : Hid (R = 3) := by show _ = _; rw [unhide HR]; unfold tolsR; rw [if_pos (by rw [<- unhide HN]; exact h4)]
    go_enter Tryz.func88,Tryz.ntmps88
    go_wp2_with fail
    go_ret
    exact ⟨ret_int (unhide hfin).symm,Below.refl _ _⟩
  have HF : Hid (R = tolF (l.take 0) (l.drop 0)) := by show _ = _; rw [unhide HR]; unfold tolsR; rw [if_neg (by rw [<- unhide HN]; exact h4)]; rfl
  go_enter Tryz.func88,Tryz.ntmps88
  go_wp2_with fail
  go_loopw [3] (fun i W => ∃ k : Nat,k <= n /\ i = .int .i64 k /\ Hid (R = tolF (l.take k) (l.drop k)) /\ Hid (Below w.heap.size w W)) (fun i _ => n - (intOf i).toNat)
  case atStart => exact ⟨0,Nat.zero_le _,rfl,HF,Below.refl _ _⟩
  case round =>
    obtain ⟨k,hk,rfl,hlab,hbel⟩ := hrel
    by_cases hlt : k < n
    · have hlk : k < l.length := by rw [<- unhide HN]; exact hlt
      obtain ⟨b,o,rfl,h0,h1,h2,hs0,hs1⟩ := ((unhide HV).below (unhide hbel)).at hlk
      have hst := hide (tol_step hlk)
      obtain ⟨y,hy⟩ : ∃ y,y = l[k] := ⟨_,rfl⟩
      rw [<- hy] at h0 h1 h2 hs0 hs1 hst
      obtain ⟨q0,hq0⟩ : ∃ q,q = nameB y.1 := ⟨_,rfl⟩
      obtain ⟨q1,hq1⟩ : ∃ q,q = valueB y.2.1 := ⟨_,rfl⟩
      have hnm := hide (fun W => rname_any (bytesT y.1) W (short_max hs0))
      have hvl := hide (fun W => rvalue_any (bytesT y.2.1) W (short_size hs1))
      rw [bytesT_list,<- hq0] at hnm
      rw [bytesT_list,<- hq1] at hvl
      have hfm : formedB y = if y.2.2 = true then (y.2.1 == []) else q1 := by
        unfold formedB; rw [hq1]
        by_cases h : y.2.2 = true
        · rw [if_pos h,if_pos h,Bool.eq_iff_iff]; simp
        · rw [if_neg h,if_neg h]
      rw [<- hq0,hfm] at hst
      have hem := (txt_beq y.2.1 []).symm
      obtain ⟨q3,hq3⟩ : ∃ q,q = (y.2.1 == ([] : Txt)) := ⟨_,rfl⟩
      rw [<- hq3] at hst hem
      clear hs0 hs1 hy hlk hq0 hq1 hfm hq3
      have HQ := hide (fun x : VTol => tol_beq x y)
      obtain ⟨Y0,hY0⟩ : ∃ X,X = bytesT y.1 := ⟨_,rfl⟩
      obtain ⟨Y1,hY1⟩ : ∃ X,X = bytesT y.2.1 := ⟨_,rfl⟩
      obtain ⟨Y2,hY2⟩ : ∃ X,X = y.2.2 := ⟨_,rfl⟩
      rw [<- hY0] at h0 hnm
      rw [<- hY1] at h1 hvl hem
      rw [<- hY2] at h2 hst
      rw [<- hY0,<- hY1,<- hY2] at HQ
      have hem2 : Y1.toList.isEmpty = q3 := by
        rw [hem,show (bytesT ([] : Txt)).toList = [] by rw [Lib.toList_data]; rfl]
        cases Y1.toList with
        | nil => rfl
        | cons a l => rfl
      clear hY0 hY1 hY2 hem
      go_wp2_with fail
      refine (unhide hnm _).mono ?_
      rintro e w1 ⟨rfl,hw1⟩
      obtain rfl := hw1.symm
      clear hw1
      cases q0
      · have hfin : Hid (R = 7) := by show _ = _; rw [unhide hlab,unhide hst]; simp
        go_wp2_with fail
        go_ret
        exact ⟨ret_int (unhide hfin).symm,unhide hbel⟩
      go_wp2_with fail
      refine (unhide hvl _).mono ?_
      rintro e w2 ⟨rfl,hw2⟩
      have B2 := hide (chain (unhide hbel) hw2)
      replace h0 := cell_kept hw2 h0
      replace h1 := cell_kept hw2 h1
      replace h2 := cell_kept hw2 h2
      clear hw2
      obtain ⟨q1',hq1'⟩ : ∃ q,q = (if Y2 = true then q3 else q1) := ⟨_,rfl⟩
      rw [<- hq1'] at hst
      have HQ1 := hide hq1'
      clear hq1'
      have i2 : (0 : Int) <= (k : Int) := by omega
      have i3 : (k : Int) < (n : Int) := by omega
      by_cases hbad : q1' = false
      · have hfin : Hid (R = 20) := by show _ = _; rw [unhide hlab,unhide hst,hbad]; simp
        rw [hbad] at HQ1
        clear hbad hst
        cases Y2 <;> cases q3 <;> cases q1 <;> first | (have h := unhide HQ1; simp at h; done) | skip
        all_goals
          go_wp2_with fail
          go_ret
          exact ⟨ret_int (unhide hfin).symm,unhide B2⟩
      have hgood : q1' = true := by cases q1' <;> simp_all
      rw [hgood] at hst HQ1
      clear hbad hgood
      have H0 := hide h0
      have H1 := hide h1
      have H2 := hide h2
      obtain ⟨YB,hYB⟩ : ∃ b,b = Y2 := ⟨_,rfl⟩
      rw [<- hYB] at H2 HQ
      clear hYB
      have hst2 : Hid ((l.take k).any (isTol y) = true -> R = 6) := fun h => by
        have h3 : (l.take k).any (fun z => z == y) = true := h
        rw [unhide hlab,unhide hst,h3]; simp
      have hst3 : Hid ((l.take k).any (isTol y) = false -> R = tolF (l.take (k + 1)) (l.drop (k + 1))) := fun h => by
        have h3 : (l.take k).any (fun z => z == y) = false := h
        rw [unhide hlab,unhide hst,h3]; simp
      clear hst hlab
      cases Y2 <;> cases q3 <;> cases q1 <;> first | (have h := unhide HQ1; simp at h; done) | skip
      all_goals
        clear HQ1
        go_wp2_with fail
        go_loopw [6] (fun i W => ∃ m : Nat,m <= k /\ i = .int .i64 m /\ Hid ((l.take m).any (isTol y) = false) /\ Hid (Below w2.heap.size w2 W)) (fun i _ => k - (intOf i).toNat)
        case atStart => exact ⟨0,Nat.zero_le _,rfl,rfl,Below.refl _ _⟩
        case round =>
          obtain ⟨m,hm,rfl,hnone,hbel3⟩ := hrel
          by_cases hmk : m < k
          · have hlm : m < l.length := by rw [<- unhide HN]; omega
            obtain ⟨b',o',eb,hat⟩ := ((unhide HV).below (chain (unhide B2) (unhide hbel3))).at hlm
            obtain ⟨rfl,rfl⟩ : b = b' /\ o = o' := by injection eb with eb; injection eb with e1 e2 _; exact ⟨e1,e2⟩
            have hnx := hide (any_next (p := isTol y) l m hlm)
            have hmem : Hid (l[m] ∈ l.take k) := List.mem_take_iff_getElem.2 ⟨m,by omega,rfl⟩
            obtain ⟨x,hx⟩ : ∃ x,x = l[m] := ⟨_,rfl⟩
            rw [<- hx] at hat hnx hmem
            obtain ⟨q,hq⟩ : ∃ q,q = isTol y x := ⟨_,rfl⟩
            rw [<- hq] at hnx
            have hyes : Hid (q = true -> (l.take k).any (isTol y) = true) := fun h => List.any_eq_true.2 ⟨x,unhide hmem,hq.symm.trans h⟩
            have hqq := (unhide HQ x).trans hq.symm
            clear hq hx hlm eb hmem
            have i0 : (0 : Int) <= (m : Int) := by omega
            have i1 : (m : Int) < (n : Int) := by omega
            have i2 : (0 : Int) <= (k : Int) := by omega
            have i3 : (k : Int) < (n : Int) := by omega
            have t0 := cell_kept (unhide hbel3) (unhide H0)
            have t1 := cell_kept (unhide hbel3) (unhide H1)
            have t2 := cell_kept (unhide hbel3) (unhide H2)
            obtain ⟨s0,s1,s2,hz1,hz2⟩ := hat
            obtain ⟨X0,hX0⟩ : ∃ X,X = bytesT x.1 := ⟨_,rfl⟩
            obtain ⟨X1,hX1⟩ : ∃ X,X = bytesT x.2.1 := ⟨_,rfl⟩
            obtain ⟨X2,hX2⟩ : ∃ X,X = x.2.2 := ⟨_,rfl⟩
            rw [<- hX0] at hqq s0
            rw [<- hX1] at hqq s1
            rw [<- hX2] at hqq s2
            have qT : ∀ W,(binOp .eql 112 (.agg #[.string X0,.string X1,.bool X2]) (.agg #[.string Y0,.string Y1,.bool YB])).run Tryz.prog W = .ok (.bool q) W := fun W => by rw [eqlTol,hqq]
            have qG := tolGuard
            have hS := And.intro (show Hid (Below wr.heap.size wr wr) from Below.refl _ _) (And.intro s0 (And.intro s1 (And.intro s2 (And.intro t0 (And.intro t1 t2)))))
            clear hqq s0 s1 s2 t0 t1 t2 hX0 hX1 hX2 hz1 hz2
            go_wp2_with fail
            go_region_held3 (fun W => Hid (Below wr.heap.size wr W) /\ W.cell? ⟨b,o + m * 3,none⟩ = some (.string X0) /\ W.cell? ⟨b,o + m * 3 + 1,none⟩ = some (.string X1) /\ W.cell? ⟨b,o + m * 3 + 2,none⟩ = some (.bool X2) /\ W.cell? ⟨b,o + k * 3,none⟩ = some (.string Y0) /\ W.cell? ⟨b,o + k * 3 + 1,none⟩ = some (.string Y1) /\ W.cell? ⟨b,o + k * 3 + 2,none⟩ = some (.bool YB))
              (first | (with_reducible exact hS) | (with_reducible assumption) | (with_reducible refine c6_drew ?_; with_reducible assumption))
              (fail)
            clear qT qG
            rename_i hH
            have B6 := hide (chain (unhide hbel3) (unhide hH.1))
            clear hH hS
            cases q
            · have hn2 : Hid ((l.take (m + 1)).any (isTol y) = false) := by show _ = _; rw [unhide hnx,unhide hnone]; rfl
              go_wp2_with fail
              go_roundw
              case rel => exact ⟨m + 1,by omega,by go_num,hn2,B6⟩
              case measure => simp [intOf]; omega
            · have hfin : Hid (R = 6) := unhide hst2 (unhide hyes rfl)
              go_wp2_with fail
              go_ret
              exact ⟨ret_int (unhide hfin).symm,chain (unhide B2) (unhide B6)⟩
          · obtain rfl : m = k := by omega
            have hnx : Hid (R = tolF (l.take (m + 1)) (l.drop (m + 1))) := unhide hst3 (unhide hnone)
            have B6 := hide (chain (unhide B2) (unhide hbel3))
            go_wp2_with fail
            go_roundw
            case rel => exact ⟨m + 1,by omega,by go_num,hnx,B6⟩
            case measure => simp [intOf]; omega
    · obtain rfl : k = n := by omega
      have hfin : Hid (R = 0) := by
        show _ = _
        rw [unhide hlab,List.drop_eq_nil_of_le (by rw [<- unhide HN]; exact Nat.le_refl _)]; rfl
      go_wp2_with fail
      go_ret
      exact ⟨ret_int (unhide hfin).symm,unhide hbel⟩
end Go.Proofs.YtfpfdnapamdhjaaGreatDoor.Ta
