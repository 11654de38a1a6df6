/- Layer 8: cmp.Or of errors,unless,between,time,names: contracts. -/
import Derived.Test.YtfpfdnapamdhjaaGreatDoorO8AGZ
import Derived.Test.YtfpfdnapamdhjaaGreatDoorC8DGZ
namespace Go.Proofs.YtfpfdnapamdhjaaGreatDoor
open Go.RowKit Suf Val

set_option maxHeartbeats 4000000 in
theorem or8_any (v : Value) (l : List Int) (w : World) (hv : Lst intK w v l) : Calls Tryz.prog 102 #[v] w fun e w' => e = .returned (.int .i64 (orE l)) /\ w' = w := by
  have HV := hide hv
  have hlen := hv.len
  obtain ⟨a,c,rfl⟩ := hv.val
  clear hv
  obtain ⟨n,hn⟩ : ∃ n,n = l.length := ⟨_,rfl⟩
  rw [<- hn] at HV hlen ⊢
  have HN := hide hn
  clear hn
  obtain ⟨R,hR⟩ : ∃ R,R = orE l := ⟨_,rfl⟩
  rw [<- hR]
  have HR := hide hR
  clear hR
  go_enter Tryz.func102,Tryz.ntmps102
  go_wp2_with fail
  go_loopw [8] (fun i W => ∃ k : Nat,k <= n /\ i = .int .i64 k /\ Hid (R = orE (l.drop k)) /\ W = w) (fun i _ => n - (intOf i).toNat)
  case atStart => exact ⟨0,Nat.zero_le _,rfl,unhide HR,rfl⟩
  case round =>
    obtain ⟨k,hk,rfl,hor,rfl⟩ := hrel
    by_cases hlt : k < n
    · have hlk : k < l.length := by rw [<- unhide HN]; exact hlt
      obtain ⟨b,o,rfl,hat⟩ := (unhide HV).at hlk
      have hst := hide (ore_step hlk)
      rw [<- unhide hor] at hst
      obtain ⟨z,hz⟩ : ∃ z,z = l[k] := ⟨_,rfl⟩
      rw [<- hz] at hat hst
      have h0 := at_int.1 hat
      rw [show intK.size = 1 from rfl,Nat.mul_one] at h0
      clear hat hz hlk
      by_cases hz0 : z = 0
      · subst hz0
        have hnx : Hid (R = orE (l.drop (k + 1))) := by show _ = _; rw [unhide hst]; simp
        go_wp2_with fail
        exact ⟨⟨k + 1,by omega,by go_num,hnx,trivial⟩,by simp [intOf]; omega⟩
      · have hb := nz hz0
        have hfin : Hid (R = z) := by show _ = _; rw [unhide hst]; simp [hz0]
        clear hz0
        go_wp2_with fail
        go_ret
        exact ⟨ret_int (unhide hfin).symm,rfl⟩
    · obtain rfl : k = n := by omega
      have hfin : Hid (R = 0) := by
        show _ = _
        rw [unhide hor,List.drop_eq_nil_of_le (by rw [<- unhide HN]; exact Nat.le_refl _)]; rfl
      go_wp2_with fail
      go_ret
      exact ⟨ret_int (unhide hfin).symm,rfl⟩
theorem unless_any (b : Bool) (e : Int) (w : World) : Calls Tryz.prog 103 #[.bool b,.int .i64 e] w fun r w' => r = .returned (.int .i64 (unl b e)) /\ w' = w := by
  cases b <;>
  (go_enter Tryz.func103,Tryz.ntmps103
   go_wp2_with fail
   go_ret
   exact ⟨rfl,rfl⟩)
theorem btw_any (lo n hi : Int) (w : World) : Calls Tryz.prog 106 #[.int .i64 lo,.int .i64 n,.int .i64 hi] w fun r w' => r = .returned (.bool (btwB lo n hi)) /\ w' = w := by
  unfold btwB
  by_cases h : lo <= n
  · have d : decide (lo <= n) = true := decide_eq_true h
    go_enter Tryz.func106,Tryz.ntmps106
    go_wp2_with fail
    go_ret
    exact ⟨by first | rfl | (rw [d]; rfl),rfl⟩
  · have d : decide (lo <= n) = false := decide_eq_false h
    have h' : n < lo := by omega
    go_enter Tryz.func106,Tryz.ntmps106
    go_wp2_with fail
    go_ret
    exact ⟨by first | rfl | (rw [d]; rfl),rfl⟩
theorem btw64_any (lo n hi : Int) (w : World) : Calls Tryz.prog 114 #[.int .i64 lo,.int .i64 n,.int .i64 hi] w fun r w' => r = .returned (.bool (btwB lo n hi)) /\ w' = w := by
  unfold btwB
  by_cases h : lo <= n
  · have d : decide (lo <= n) = true := decide_eq_true h
    go_enter Tryz.func114,Tryz.ntmps114
    go_wp2_with fail
    go_ret
    exact ⟨by first | rfl | (rw [d]; rfl),rfl⟩
  · have d : decide (lo <= n) = false := decide_eq_false h
    have h' : n < lo := by omega
    go_enter Tryz.func114,Tryz.ntmps114
    go_wp2_with fail
    go_ret
    exact ⟨by first | rfl | (rw [d]; rfl),rfl⟩
/-- The document's between: the number comes first. -/
theorem rbtw_any (n lo hi : Int) (w : World) : Calls Tryz.prog 90 #[.int .i64 n,.int .i64 lo,.int .i64 hi] w fun r w' => r = .returned (.bool (btwB lo n hi)) /\ w' = w := by
  unfold btwB
  by_cases h : lo <= n
  · have d : decide (lo <= n) = true := decide_eq_true h
    go_enter Tryz.func90,Tryz.ntmps90
    go_wp2_with fail
    go_ret
    exact ⟨by first | rfl | (rw [d]; rfl),rfl⟩
  · have d : decide (lo <= n) = false := decide_eq_false h
    have h' : n < lo := by omega
    go_enter Tryz.func90,Tryz.ntmps90
    go_wp2_with fail
    go_ret
    exact ⟨by first | rfl | (rw [d]; rfl),rfl⟩
theorem time_any (n : Int) (w : World) : Calls Tryz.prog 111 #[.int .i64 n] w fun r w' => r = .returned (.bool (timeB n)) /\ w' = w := by
  have hc := hide (btw64_any 0 n 1099511627776)
  have he := hide (show btwB 0 n 1099511627776 = timeB n from rfl)
  obtain ⟨q,hq⟩ : ∃ q,q = btwB 0 n 1099511627776 := ⟨_,rfl⟩
  rw [<- hq] at hc he
  rw [<- unhide he]
  clear hq he
  go_enter Tryz.func111,Tryz.ntmps111
  go_wp2_with fail
  refine (unhide hc _).mono ?_
  rintro e w1 ⟨rfl,rfl⟩
  go_wp2_with fail
  go_ret
  exact ⟨rfl,rfl⟩
theorem name8 (t : Txt) (ht : short t) (w : World) : Calls Tryz.prog 144 #[.string (bytesT t)] w fun e w' => e = .returned (.bool (nameB t)) /\ w' = w := name_any (bytesT t) w (short_max ht)
theorem rname8 (t : Txt) (ht : short t) (w : World) : Calls Tryz.prog 85 #[.string (bytesT t)] w fun e w' => e = .returned (.bool (nameB t)) /\ w' = w := rname_any (bytesT t) w (short_max ht)
theorem nil_is (t : Txt) : ((bytesT t).toList == ([] : List UInt8)) = (t == []) := by rw [Lib.toList_data]; rfl
theorem onone_any (t : Txt) (ht : short t) (w : World) : Calls Tryz.prog 112 #[.string (bytesT t)] w fun e w' => e = .returned (.bool (onB t)) /\ w' = w := by
  have hc := hide (name8 t ht)
  have g := nil_is t
  have he : Hid (onB t = ((t == []) || nameB t)) := rfl
  obtain ⟨q,hq⟩ : ∃ q,q = nameB t := ⟨_,rfl⟩
  obtain ⟨p,hp⟩ : ∃ p,p = (t == []) := ⟨_,rfl⟩
  rw [<- hq] at hc he
  rw [<- hp] at g he
  rw [unhide he]
  obtain ⟨X,hX⟩ : ∃ X,X = bytesT t := ⟨_,rfl⟩
  rw [<- hX] at hc g ⊢
  clear hq hp hX he ht
  cases p
  · go_enter Tryz.func112,Tryz.ntmps112
    go_wp2_with fail
    refine (unhide hc _).mono ?_
    rintro e w1 ⟨rfl,rfl⟩
    go_wp2_with fail
    go_ret
    exact ⟨rfl,rfl⟩
  · go_enter Tryz.func112,Tryz.ntmps112
    go_wp2_with fail
    go_ret
    exact ⟨rfl,rfl⟩
theorem clos_nm (t : Txt) (ht : short t) (w : World) : Calls Tryz.prog 143 #[.string (bytesT t)] w fun e w' => e = .returned (.bool (!nameB t)) /\ w' = w := by
  have hc := hide (name8 t ht)
  obtain ⟨q,hq⟩ : ∃ q,q = nameB t := ⟨_,rfl⟩
  rw [<- hq] at hc ⊢
  obtain ⟨X,hX⟩ : ∃ X,X = bytesT t := ⟨_,rfl⟩
  rw [<- hX] at hc ⊢
  clear hq hX ht
  go_enter Tryz.func143,Tryz.ntmps143
  go_wp2_with fail
  refine (unhide hc _).mono ?_
  rintro e w1 ⟨rfl,rfl⟩
  go_wp2_with fail
  go_ret
  exact ⟨by first | rfl | (cases q <;> rfl),rfl⟩
theorem enters_nm : ∀ args w,(callFunc 143 args).run Tryz.prog w = .ok (.enter 143 args) w := enters_of Tryz.func143 (by kernel_rfl) rfl
set_option maxRecDepth 100000 in
set_option maxHeartbeats 8000000 in
theorem index_nm (v : Value) (l : List Txt) (w : World) (hv : Lst strK w v l) :
    Calls Tryz.prog 159 #[v,.func (.func 143) #[] #[]] w fun e w' => e = .returned (.int .i64 (idxI (fun s => !nameB s) l)) /\ w' = w := by
  have HV := hide hv
  have hlen := hv.len
  obtain ⟨a,c,rfl⟩ := hv.val
  obtain ⟨n,hn⟩ : ∃ n,n = l.length := ⟨_,rfl⟩
  rw [<- hn] at HV hlen ⊢
  have HN := hide hn
  clear hv hn
  obtain ⟨p,hp⟩ : ∃ p : Txt -> Bool,p = fun s => !nameB s := ⟨_,rfl⟩
  rw [<- hp]
  have HC : Hid (∀ (t : Txt),short t -> ∀ W,Calls Tryz.prog 143 #[.string (bytesT t)] W fun e w' => e = .returned (.bool (p t)) /\ w' = W) := fun t ht W => by rw [hp]; exact clos_nm t ht W
  clear hp
  obtain ⟨R,hR⟩ : ∃ R,R = idxI p l := ⟨_,rfl⟩
  rw [<- hR]
  have HR := hide hR
  clear hR
  have eg := enters_nm
  go_enter Tryz.func159,Tryz.ntmps159
  go_wp2_with fail
  go_loopw [8] (fun i W => ∃ k : Nat,k <= n /\ i = .int .i64 k /\ Hid ((l.take k).any p = false) /\ W = w) (fun i _ => n - (intOf i).toNat)
  case atStart => exact ⟨0,Nat.zero_le _,rfl,rfl,rfl⟩
  case round =>
    obtain ⟨k,hk,rfl,hany,rfl⟩ := hrel
    by_cases hlt : k < n
    · have hlk : k < l.length := by rw [<- unhide HN]; exact hlt
      obtain ⟨b,o,rfl,hat⟩ := (unhide HV).at hlk
      have hnx := hide (any_next6 (p := p) l k hlk)
      have hys := hide (fun hp => idx_at (p := p) hlk (unhide hany) hp)
      obtain ⟨x,hx⟩ : ∃ x,x = l[k] := ⟨_,rfl⟩
      rw [<- hx] at hat hnx hys
      obtain ⟨q,hq⟩ : ∃ q,q = p x := ⟨_,rfl⟩
      rw [<- hq] at hnx hys
      obtain ⟨s0,hs0⟩ := at_str.1 hat
      have hcl := hide (unhide HC x hs0)
      rw [<- hq] at hcl
      clear hq hx hlk hat hs0
      rw [show strK.size = 1 from rfl,Nat.mul_one] at s0
      cases q
      · have hn2 : Hid ((l.take (k + 1)).any p = false) := by show _ = _; rw [unhide hnx,unhide hany]; rfl
        go_wp2_with (go_at_fn 143; refine (unhide hcl _).mono ?_; rintro e w2 ⟨rfl,rfl⟩; clear s0)
        exact ⟨⟨k + 1,by omega,by go_num,hn2,trivial⟩,by simp [intOf]; omega⟩
      · have hfin : Hid (R = (k : Int)) := by show _ = _; rw [unhide HR]; exact unhide hys rfl
        go_wp2_with (go_at_fn 143; refine (unhide hcl _).mono ?_; rintro e w2 ⟨rfl,rfl⟩; clear s0)
        go_ret
        exact ⟨ret_int (unhide hfin).symm,rfl⟩
    · obtain rfl : k = n := by omega
      have hfin : Hid (R = -1) := by
        show _ = _
        have := unhide hany
        rw [List.take_of_length_le (by rw [<- unhide HN]; exact Nat.le_refl _)] at this
        rw [unhide HR,idx_none this]
      go_wp2_with fail
      go_ret
      exact ⟨ret_int (unhide hfin).symm,rfl⟩
theorem contains_nm (v : Value) (l : List Txt) (w : World) (hv : Lst strK w v l) :
    Calls Tryz.prog 142 #[v,.func (.func 143) #[] #[]] w fun e w' => e = .returned (.bool (l.any fun s => !nameB s)) /\ w' = w := by
  have hcon := hide (index_nm v l w hv)
  have hid := hide (idx_any (fun s => !nameB s) l)
  obtain ⟨a,c,rfl⟩ := hv.val
  obtain ⟨n,hn⟩ : ∃ n,n = l.length := ⟨_,rfl⟩
  rw [<- hn] at hcon ⊢
  clear hv hn
  obtain ⟨R,hR⟩ : ∃ R,R = l.any fun s => !nameB s := ⟨_,rfl⟩
  obtain ⟨z,hz⟩ : ∃ z,z = idxI (fun s => !nameB s) l := ⟨_,rfl⟩
  rw [<- hR] at hid ⊢
  rw [<- hz] at hid hcon
  clear hR hz
  go_enter Tryz.func142,Tryz.ntmps142
  go_wp2_with fail
  refine (unhide hcon).mono ?_
  rintro e w1 ⟨rfl,rfl⟩
  go_wp2_with fail
  go_ret
  exact ⟨ret_bool (unhide hid),rfl⟩
theorem all_names (l : List Txt) : (!(l.any fun s => !nameB s)) = l.all nameB := by induction l with
  | nil => rfl
  | cons x l ih => rw [List.any_cons,List.all_cons,<- ih]; cases nameB x <;> rfl
theorem names_any (v : Value) (l : List Txt) (w : World) (hv : Lst strK w v l) :
    Calls Tryz.prog 104 #[v] w fun e w' => e = .returned (.bool (l.all nameB)) /\ w' = w := by
  have hcon := hide (contains_nm v l w hv)
  have hid := hide (all_names l)
  obtain ⟨a,c,rfl⟩ := hv.val
  obtain ⟨n,hn⟩ : ∃ n,n = l.length := ⟨_,rfl⟩
  rw [<- hn] at hcon ⊢
  clear hv hn
  obtain ⟨R,hR⟩ : ∃ R,R = l.all nameB := ⟨_,rfl⟩
  obtain ⟨q,hq⟩ : ∃ z,z = l.any fun s => !nameB s := ⟨_,rfl⟩
  rw [<- hR] at hid ⊢
  rw [<- hq] at hid hcon
  clear hR hq
  go_enter Tryz.func104,Tryz.ntmps104
  go_wp2_with fail
  refine (unhide hcon).mono ?_
  rintro e w1 ⟨rfl,rfl⟩
  go_wp2_with fail
  go_ret
  exact ⟨ret_bool (unhide hid),rfl⟩
end Go.Proofs.YtfpfdnapamdhjaaGreatDoor

/- Layer 8: an offer's names,lists of offers: the program's and the document's. -/
namespace Go.Proofs.YtfpfdnapamdhjaaGreatDoor
open Go.RowKit Suf Val

def OBox (w : World) (B : Nat) (a b c : ByteArray) : Prop := w.cell? ⟨B,0,none⟩ = some (.string a) /\ w.cell? ⟨B,1,none⟩ = some (.string b) /\ w.cell? ⟨B,2,none⟩ = some (.string c)
theorem OBox.below {w w' : World} {B : Nat} {a b c : ByteArray} (h : OBox w B a b c) (hb : Below w.heap.size w w') : OBox w' B a b c := ⟨cell_kept hb h.1,cell_kept hb h.2.1,cell_kept hb h.2.2⟩
theorem obox_new (w : World) (a b c : ByteArray) (t : TypeId) : OBox (w.alloc (.cells #[.string a,.string b,.string c] t)) w.heap.size a b c := by refine ⟨?_,?_,?_⟩ <;> simp [go_sem]
theorem strs3 {V : World} {B : Nat} {a b d : Txt} (ha : short a) (hb : short b) (hd : short d) (h : OBox V B (bytesT a) (bytesT b) (bytesT d)) : Lst strK V (.slice (some ⟨B,0,none⟩) 3 3) [a,b,d] :=
  ⟨_,_,rfl,fun j hj => ⟨B,0,rfl,by
    match j,hj with
    | 0,_ => exact at_str.2 ⟨by simpa using h.1,ha⟩
    | 1,_ => exact at_str.2 ⟨by simpa [strK] using h.2.1,hb⟩
    | 2,_ => exact at_str.2 ⟨by simpa [strK] using h.2.2,hd⟩⟩,by simp,by simp⟩
theorem named_all (x : VOff) : [x.1,x.2.1,x.2.2].all nameB = namedO x := by unfold namedO; simp
set_option maxRecDepth 100000 in
set_option maxHeartbeats 8000000 in
theorem poffer_any (x : VOff) (w : World) (hx : okO x) :
    Calls Tryz.prog 115 #[offA x] w fun e w' => e = .returned (.bool (namedO x)) /\ Below w.heap.size w w' := by
  have hc : Hid (∀ V B,OBox V B (bytesT x.1) (bytesT x.2.1) (bytesT x.2.2) -> Calls Tryz.prog 104 #[.slice (some ⟨B,0,none⟩) 3 3] V fun e w' => e = .returned (.bool (namedO x)) /\ w' = V) := fun V B h => named_all x ▸ names_any _ [x.1,x.2.1,x.2.2] V (strs3 hx.1 hx.2.1 hx.2.2 h)
  obtain ⟨R,hR⟩ : ∃ R,R = namedO x := ⟨_,rfl⟩
  rw [<- hR] at hc ⊢
  unfold offA
  obtain ⟨s0,hs0⟩ : ∃ X,X = bytesT x.1 := ⟨_,rfl⟩
  obtain ⟨s1,hs1⟩ : ∃ X,X = bytesT x.2.1 := ⟨_,rfl⟩
  obtain ⟨s2,hs2⟩ : ∃ X,X = bytesT x.2.2 := ⟨_,rfl⟩
  rw [<- hs0,<- hs1,<- hs2] at hc ⊢
  clear hR hs0 hs1 hs2 hx
  go_enter Tryz.func115,Tryz.ntmps115
  go_wp2_with fail
  refine (unhide hc _ _ ⟨by simp [go_sem],by simp [go_sem],by simp [go_sem]⟩).mono ?_
  rintro e w1 ⟨rfl,rfl⟩
  go_wp2_with fail
  go_ret
  exact ⟨rfl,chain (boxb _) (boxb _)⟩
set_option maxHeartbeats 8000000 in
theorem rnames8_any (x : VOff) (w : World) (hx : okO x) :
    Calls Tryz.prog 92 #[offA x] w fun e w' => e = .returned (.bool (namedO x)) /\ Below w.heap.size w w' := by
  obtain ⟨h0,h1,h2⟩ := hx
  have he : Hid (namedO x = (nameB x.1 && (nameB x.2.1 && nameB x.2.2))) := rfl
  have n0 := hide (rname8 x.1 h0)
  have n1 := hide (rname8 x.2.1 h1)
  have n2 := hide (rname8 x.2.2 h2)
  obtain ⟨q0,hq0⟩ : ∃ q,q = nameB x.1 := ⟨_,rfl⟩
  obtain ⟨q1,hq1⟩ : ∃ q,q = nameB x.2.1 := ⟨_,rfl⟩
  obtain ⟨q2,hq2⟩ : ∃ q,q = nameB x.2.2 := ⟨_,rfl⟩
  rw [<- hq0] at n0 he
  rw [<- hq1] at n1 he
  rw [<- hq2] at n2 he
  rw [unhide he]
  unfold offA
  obtain ⟨s0,hs0⟩ : ∃ X,X = bytesT x.1 := ⟨_,rfl⟩
  obtain ⟨s1,hs1⟩ : ∃ X,X = bytesT x.2.1 := ⟨_,rfl⟩
  obtain ⟨s2,hs2⟩ : ∃ X,X = bytesT x.2.2 := ⟨_,rfl⟩
  rw [<- hs0] at n0 ⊢
  rw [<- hs1] at n1 ⊢
  rw [<- hs2] at n2 ⊢
  clear h0 h1 h2 hq0 hq1 hq2 hs0 hs1 hs2 he
  have B : Hid (Below w.heap.size w (w.alloc (.cells #[.string s0,.string s1,.string s2] 34))) := boxb _
  go_enter Tryz.func92,Tryz.ntmps92
  go_wp2_with fail
  refine (unhide n0 _).mono ?_
  rintro e w1 ⟨rfl,rfl⟩
  cases q0
  · go_wp2_with fail
    go_ret
    exact ⟨ret_bool (by simp),unhide B⟩
  go_wp2_with fail
  refine (unhide n1 _).mono ?_
  rintro e w1 ⟨rfl,rfl⟩
  cases q1
  · go_wp2_with fail
    go_ret
    exact ⟨ret_bool (by simp),unhide B⟩
  go_wp2_with fail
  refine (unhide n2 _).mono ?_
  rintro e w1 ⟨rfl,rfl⟩
  go_wp2_with fail
  go_ret
  exact ⟨ret_bool (by simp),unhide B⟩

theorem off_comm (y x : VOff) : (y == x) = (x == y) := by rw [Bool.eq_iff_iff,beq_iff_eq,beq_iff_eq]; exact eq_comm
theorem any_yes8 {α : Type} {p : α -> Bool} (l : List α) (k : Nat) (h : k < l.length) (hp : p l[k] = true) : l.any p = true := List.any_eq_true.2 ⟨l[k],List.getElem_mem h,hp⟩
set_option maxRecDepth 100000 in
set_option maxHeartbeats 8000000 in
theorem index_off (y : VOff) (v : Value) (l : List VOff) (w : World) (hv : Lst offK w v l) :
    Calls Tryz.prog 166 #[v,offA y] w fun e w' => (∃ z,e = .returned (.int .i64 z) /\ decide (0 <= z) = l.any (fun x => x == y)) /\ Below w.heap.size w w' := by
  have HV := hide hv
  have hlen := hv.len
  obtain ⟨a,c,rfl⟩ := hv.val
  obtain ⟨n,hn⟩ : ∃ n,n = l.length := ⟨_,rfl⟩
  rw [<- hn] at HV hlen ⊢
  have HN := hide hn
  clear hv hn
  obtain ⟨p,hp⟩ : ∃ p : VOff -> Bool,p = fun x => x == y := ⟨_,rfl⟩
  rw [<- hp]
  obtain ⟨R,hR⟩ : ∃ R,R = l.any p := ⟨_,rfl⟩
  rw [<- hR]
  have HR := hide hR
  clear hR
  have HB : Hid (∀ x : VOff,(((bytesT y.1).toList == (bytesT x.1).toList) && (((bytesT y.2.1).toList == (bytesT x.2.1).toList) && ((bytesT y.2.2).toList == (bytesT x.2.2).toList))) = p x) := fun x => by rw [hp]; exact (off_beq y x).trans (off_comm y x)
  clear hp
  unfold offA
  obtain ⟨Y0,hY0⟩ : ∃ X,X = bytesT y.1 := ⟨_,rfl⟩
  obtain ⟨Y1,hY1⟩ : ∃ X,X = bytesT y.2.1 := ⟨_,rfl⟩
  obtain ⟨Y2,hY2⟩ : ∃ X,X = bytesT y.2.2 := ⟨_,rfl⟩
  rw [<- hY0,<- hY1,<- hY2] at HB ⊢
  clear hY0 hY1 hY2
  obtain ⟨W0,hW0⟩ : ∃ W,W = w.alloc (.cells #[.string Y0,.string Y1,.string Y2] 34) := ⟨_,rfl⟩
  have B0 : Hid (Below w.heap.size w W0) := by rw [hW0]; exact boxb _
  have F0 : Hid (OBox W0 w.heap.size Y0 Y1 Y2) := by rw [hW0]; exact obox_new _ _ _ _ _
  have GW0 := hide hW0
  clear hW0
  go_enter Tryz.func166,Tryz.ntmps166
  go_wp2_with fail
  rw [<- unhide GW0]
  go_loopw [8] (fun i W => ∃ k : Nat,k <= n /\ i = .int .i64 k /\ Hid ((l.take k).any p = false) /\ Hid (Below W0.heap.size W0 W)) (fun i _ => n - (intOf i).toNat)
  case atStart => exact ⟨0,Nat.zero_le _,rfl,rfl,Below.refl _ _⟩
  case round =>
    obtain ⟨k,hk,rfl,hany,hbel⟩ := hrel
    by_cases hlt : k < n
    · have hlk : k < l.length := by rw [<- unhide HN]; exact hlt
      obtain ⟨b,o,rfl,hat⟩ := ((unhide HV).below (chain (unhide B0) (unhide hbel))).at hlk
      obtain ⟨t0,t1,t2⟩ := (unhide F0).below (unhide hbel)
      have hnx := hide (any_next6 (p := p) l k hlk)
      have hys := hide (any_yes8 (p := p) l k hlk)
      obtain ⟨x,hx⟩ : ∃ x,x = l[k] := ⟨_,rfl⟩
      rw [<- hx] at hat hnx hys
      obtain ⟨⟨s0,_⟩,⟨s1,_⟩,s2,_⟩ := off_at.1 hat
      rw [show offK.size = 3 from rfl] at s0 s1 s2
      have hqq := unhide HB x
      obtain ⟨q,hq⟩ : ∃ q,q = p x := ⟨_,rfl⟩
      rw [<- hq] at hnx hys hqq
      obtain ⟨X0,hX0⟩ : ∃ X,X = bytesT x.1 := ⟨_,rfl⟩
      obtain ⟨X1,hX1⟩ : ∃ X,X = bytesT x.2.1 := ⟨_,rfl⟩
      obtain ⟨X2,hX2⟩ : ∃ X,X = bytesT x.2.2 := ⟨_,rfl⟩
      rw [<- hX0] at hqq s0
      rw [<- hX1] at hqq s1
      rw [<- hX2] at hqq s2
      have qT : ∀ W,(binOp .eql 34 (.agg #[.string Y0,.string Y1,.string Y2]) (.agg #[.string X0,.string X1,.string X2])).run Tryz.prog W = .ok (.bool q) W := fun W => by rw [eqlOff,hqq]
      have qG := offGuard
      clear hq hx hlk hqq hX0 hX1 hX2 hat
      have hS := And.intro (show Hid (Below wr.heap.size wr wr) from Below.refl _ _) (And.intro s0 (And.intro s1 (And.intro s2 (And.intro t0 (And.intro t1 t2)))))
      have i0 : (0 : Int) <= (k : Int) := by omega
      have i1 : (k : Int) < (n : Int) := by omega
      clear s0 s1 s2 t0 t1 t2
      go_wp2_with fail
      go_region_held3 (fun W => Hid (Below wr.heap.size wr W) /\ W.cell? ⟨b,o + k * 3,none⟩ = some (.string X0) /\ W.cell? ⟨b,o + k * 3 + 1,none⟩ = some (.string X1) /\ W.cell? ⟨b,o + k * 3 + 2,none⟩ = some (.string X2) /\ W.cell? ⟨w.heap.size,0,none⟩ = some (.string Y0) /\ W.cell? ⟨w.heap.size,1,none⟩ = some (.string Y1) /\ W.cell? ⟨w.heap.size,2,none⟩ = some (.string Y2))
        (first | (with_reducible exact hS) | (with_reducible assumption) | (with_reducible refine c6_drew7 ?_; with_reducible assumption))
        (fail)
      rename_i hH
      have B2 := hide (chain (unhide hbel) (unhide hH.1))
      clear hH hS qT qG
      cases q
      · have hn2 : Hid ((l.take (k + 1)).any p = false) := by show _ = _; rw [unhide hnx,unhide hany]; rfl
        go_wp2_with fail
        go_roundw
        case rel => exact ⟨k + 1,by omega,by go_num,hn2,B2⟩
        case measure => simp [intOf]; omega
      · have hfin : Hid (R = true) := by show _ = _; rw [unhide HR]; exact unhide hys rfl
        go_wp2_with fail
        go_ret
        exact ⟨⟨(k : Int),rfl,by rw [unhide hfin]; simp⟩,chain (unhide B0) (unhide B2)⟩
    · obtain rfl : k = n := by omega
      have hfin : Hid (R = false) := by
        show _ = _
        have := unhide hany
        rw [List.take_of_length_le (by rw [<- unhide HN]; exact Nat.le_refl _)] at this
        rw [unhide HR,this]
      go_wp2_with fail
      go_ret
      exact ⟨⟨-1,rfl,by rw [unhide hfin]; rfl⟩,chain (unhide B0) (unhide hbel)⟩
set_option maxHeartbeats 4000000 in
theorem contains_off (y : VOff) (v : Value) (l : List VOff) (w : World) (hv : Lst offK w v l) :
    Calls Tryz.prog 152 #[v,offA y] w fun e w' => e = .returned (.bool (l.any fun x => x == y)) /\ Below w.heap.size w w' := by
  have HV := hide hv
  obtain ⟨a,c,rfl⟩ := hv.val
  obtain ⟨n,hn⟩ : ∃ n,n = l.length := ⟨_,rfl⟩
  rw [<- hn] at HV ⊢
  clear hv hn
  have hcon := hide (fun W => index_off y (.slice a n c) l W)
  obtain ⟨R,hR⟩ : ∃ R,R = l.any fun x => x == y := ⟨_,rfl⟩
  rw [<- hR] at hcon ⊢
  clear hR
  unfold offA at hcon ⊢
  obtain ⟨Y0,hY0⟩ : ∃ X,X = bytesT y.1 := ⟨_,rfl⟩
  obtain ⟨Y1,hY1⟩ : ∃ X,X = bytesT y.2.1 := ⟨_,rfl⟩
  obtain ⟨Y2,hY2⟩ : ∃ X,X = bytesT y.2.2 := ⟨_,rfl⟩
  rw [<- hY0,<- hY1,<- hY2] at hcon ⊢
  clear hY0 hY1 hY2
  have B0 := hide (boxb (w := w) (.cells #[.string Y0,.string Y1,.string Y2] 34))
  go_enter Tryz.func152,Tryz.ntmps152
  go_wp2_with fail
  refine (unhide hcon _ ((unhide HV).below (unhide B0))).mono ?_
  rintro e w1 ⟨⟨z,rfl,hz⟩,hw1⟩
  have HZ := hide hz
  have B1 := hide (chain (unhide B0) hw1)
  clear hz hw1
  go_wp2_with fail
  go_ret
  exact ⟨ret_bool (unhide HZ),unhide B1⟩
end Go.Proofs.YtfpfdnapamdhjaaGreatDoor

/- Layer 8: lists of offers that may be: the program's and the document's. -/
namespace Go.Proofs.YtfpfdnapamdhjaaGreatDoor
open Go.RowKit Suf Val

theorem c3_next8 {V W W' : World} {p0 p1 p2 : Addr} {v0 v1 v2 : Value} (h : Hid (Below V.heap.size V W) /\ W.cell? p0 = some v0 /\ W.cell? p1 = some v1 /\ W.cell? p2 = some v2) (hb : Below W.heap.size W W') : Hid (Below V.heap.size V W') /\ W'.cell? p0 = some v0 /\ W'.cell? p1 = some v1 /\ W'.cell? p2 = some v2 :=
  ⟨chain (unhide h.1) hb,cell_kept hb h.2.1,cell_kept hb h.2.2.1,cell_kept hb h.2.2.2⟩
set_option maxRecDepth 100000 in
set_option maxHeartbeats 8000000 in
theorem poffers_any (v : Value) (l : List VOff) (w : World) (hv : Lst offK w v l) :
    Calls Tryz.prog 117 #[v] w fun e w' => e = .returned (.int .i64 (offsR8 l)) /\ Below w.heap.size w w' := by
  have HV := hide hv
  have hlen := hv.len
  obtain ⟨a,c,rfl⟩ := hv.val
  have hcap := hv.cap.2
  clear hv
  obtain ⟨n,hn⟩ : ∃ n,n = l.length := ⟨_,rfl⟩
  rw [<- hn] at HV hlen hcap ⊢
  have HN := hide hn
  clear hn
  obtain ⟨R,hR⟩ : ∃ R,R = offsR8 l := ⟨_,rfl⟩
  rw [<- hR]
  have HR := hide hR
  clear hR
  by_cases h4 : 72 < n
  · have hfin : Hid (R = 3) := by show _ = _; rw [unhide HR]; unfold offsR8; rw [if_pos (by rw [<- unhide HN]; exact h4)]
    go_enter Tryz.func117,Tryz.ntmps117
    go_wp2_with fail
    go_ret
    exact ⟨ret_int (unhide hfin).symm,Below.refl _ _⟩
  have HF : Hid (R = offF (l.take 0) (l.drop 0)) := by show _ = _; rw [unhide HR]; unfold offsR8; rw [if_neg (by rw [<- unhide HN]; exact h4)]; rfl
  go_enter Tryz.func117,Tryz.ntmps117
  go_wp2_with fail
  go_loopw [10] (fun i W => ∃ k : Nat,k <= n /\ i = .int .i64 k /\ Hid (R = offF (l.take k) (l.drop k)) /\ Hid (Below w.heap.size w W)) (fun i _ => n - (intOf i).toNat)
  case atStart => exact ⟨0,Nat.zero_le _,rfl,HF,Below.refl _ _⟩
  case round =>
    obtain ⟨k,hk,rfl,hlab,hbel⟩ := hrel
    by_cases hlt : k < n
    · have hlk : k < l.length := by rw [<- unhide HN]; exact hlt
      obtain ⟨b,o,rfl,hat⟩ := ((unhide HV).below (unhide hbel)).at hlk
      have hst := hide (off_step hlk)
      obtain ⟨y,hy⟩ : ∃ y,y = l[k] := ⟨_,rfl⟩
      rw [<- hy] at hat hst
      obtain ⟨⟨h0,hs0⟩,⟨h1,hs1⟩,h2,hs2⟩ := off_at.1 hat
      rw [show offK.size = 3 from rfl] at h0 h1 h2
      have hnm := hide (fun W => poffer_any y W ⟨hs0,hs1,hs2⟩)
      have hcont := hide (fun W h => contains_off y (.slice (some ⟨b,o,none⟩) k c) (l.take k) W h)
      clear hy hlk hat hs0 hs1 hs2
      obtain ⟨q0,hq0⟩ : ∃ q,q = namedO y := ⟨_,rfl⟩
      obtain ⟨q2,hq2⟩ : ∃ q,q = (l.take k).any (fun x => x == y) := ⟨_,rfl⟩
      rw [<- hq0] at hst hnm
      rw [<- hq2] at hcont hst
      clear hq0 hq2
      unfold offA at hnm hcont
      obtain ⟨Y0,hY0⟩ : ∃ X,X = bytesT y.1 := ⟨_,rfl⟩
      obtain ⟨Y1,hY1⟩ : ∃ X,X = bytesT y.2.1 := ⟨_,rfl⟩
      obtain ⟨Y2,hY2⟩ : ∃ X,X = bytesT y.2.2 := ⟨_,rfl⟩
      rw [<- hY0] at h0
      rw [<- hY1] at h1
      rw [<- hY2] at h2
      rw [<- hY0,<- hY1,<- hY2] at hnm hcont
      clear hY0 hY1 hY2
      obtain ⟨W0,hW0⟩ : ∃ W,W = wr.alloc (.cells #[.string Y0,.string Y1,.string Y2] 34) := ⟨_,rfl⟩
      have B0 : Hid (Below wr.heap.size wr W0) := by rw [hW0]; exact boxb _
      obtain ⟨c0,c1,c2⟩ : OBox W0 wr.heap.size Y0 Y1 Y2 := by rw [hW0]; exact obox_new _ _ _ _ _
      have GW0 := hide hW0
      clear hW0
      go_wp2_with fail
      rw [<- unhide GW0]
      clear h0 h1 h2
      refine (unhide hnm _).mono ?_
      rintro e w2 ⟨rfl,hw2⟩
      have B2 := hide (chain (chain (unhide hbel) (unhide B0)) hw2)
      have d0 := cell_kept hw2 c0
      have d1 := cell_kept hw2 c1
      have d2 := cell_kept hw2 c2
      clear hw2 c0 c1 c2
      cases q0
      · have hfin : Hid (R = 7) := by show _ = _; rw [unhide hlab,unhide hst]; simp
        go_wp2_with fail
        go_ret
        exact ⟨ret_int (unhide hfin).symm,unhide B2⟩
      have i0 : (0 : Int) <= (k : Int) := by omega
      have i1 : (k : Int) <= (c : Int) := by omega
      have hS := And.intro (show Hid (Below w2.heap.size w2 w2) from Below.refl _ _) (And.intro d0 (And.intro d1 d2))
      have cH : Hid (∀ W,Hid (Below w2.heap.size w2 W) /\ W.cell? ⟨wr.heap.size,0,none⟩ = some (.string Y0) /\ W.cell? ⟨wr.heap.size,1,none⟩ = some (.string Y1) /\ W.cell? ⟨wr.heap.size,2,none⟩ = some (.string Y2) -> Calls Tryz.prog 152 #[.slice (some ⟨b,o,none⟩) k c,.agg #[.string Y0,.string Y1,.string Y2]] W fun e w' => e = .returned (.bool q2) /\ Below W.heap.size W w') := fun W hs =>
        unhide hcont W (((unhide HV).below (chain (unhide B2) (unhide hs.1))).take (by rw [<- unhide HN]; exact hk))
      clear d0 d1 d2
      go_wp2_with fail
      go_region_held3 (fun W => Hid (Below w2.heap.size w2 W) /\ W.cell? ⟨wr.heap.size,0,none⟩ = some (.string Y0) /\ W.cell? ⟨wr.heap.size,1,none⟩ = some (.string Y1) /\ W.cell? ⟨wr.heap.size,2,none⟩ = some (.string Y2))
        (first | (with_reducible exact hS) | (with_reducible assumption) | (with_reducible refine c3_drew7 ?_; with_reducible assumption) | (with_reducible refine c3_next8 ?_ hw; with_reducible assumption))
        (first | (go_at_call 152; with_reducible refine (unhide cH _ ?_).mono ?_; with_reducible assumption; rintro e w4 ⟨rfl,hw⟩))
      rename_i hH
      have B3 := hide (chain (unhide B2) (unhide hH.1))
      clear hH hS hw cH
      cases q2
      · have hn2 : Hid (R = offF (l.take (k + 1)) (l.drop (k + 1))) := by
          show _ = _
          rw [unhide hlab,unhide hst]; simp
        go_wp2_with fail
        go_roundw
        case rel => exact ⟨k + 1,by omega,by go_num,hn2,B3⟩
        case measure => simp [intOf]; omega
      · have hfin : Hid (R = 6) := by
          show _ = _
          rw [unhide hlab,unhide hst]; simp
        go_wp2_with fail
        go_ret
        exact ⟨ret_int (unhide hfin).symm,unhide B3⟩
    · obtain rfl : k = n := by omega
      have hfin : Hid (R = 0) := by
        show _ = _
        rw [unhide hlab,List.drop_of_length_le (by rw [<- unhide HN]; exact Nat.le_refl _)]; rfl
      go_wp2_with fail
      go_ret
      exact ⟨ret_int (unhide hfin).symm,unhide hbel⟩
set_option maxRecDepth 100000 in
set_option maxHeartbeats 8000000 in
theorem roffers_any (v : Value) (l : List VOff) (w : World) (hv : Lst offK w v l) :
    Calls Tryz.prog 94 #[v] w fun e w' => e = .returned (.int .i64 (offsR8 l)) /\ Below w.heap.size w w' := by
  have HV := hide hv
  have hlen := hv.len
  obtain ⟨a,c,rfl⟩ := hv.val
  have hcap := hv.cap.2
  clear hv
  obtain ⟨n,hn⟩ : ∃ n,n = l.length := ⟨_,rfl⟩
  rw [<- hn] at HV hlen hcap ⊢
  have HN := hide hn
  clear hn
  obtain ⟨R,hR⟩ : ∃ R,R = offsR8 l := ⟨_,rfl⟩
  rw [<- hR]
  have HR := hide hR
  clear hR
  by_cases h4 : 72 < n
  · have hfin : Hid (R = 3) := by show _ = _; rw [unhide HR]; unfold offsR8; rw [if_pos (by rw [<- unhide HN]; exact h4)]
    go_enter Tryz.func94,Tryz.ntmps94
    go_wp2_with fail
    go_ret
    exact ⟨ret_int (unhide hfin).symm,Below.refl _ _⟩
  have HF : Hid (R = offF (l.take 0) (l.drop 0)) := by show _ = _; rw [unhide HR]; unfold offsR8; rw [if_neg (by rw [<- unhide HN]; exact h4)]; rfl
  go_enter Tryz.func94,Tryz.ntmps94
  go_wp2_with fail
  go_loopw [12] (fun i W => ∃ k : Nat,k <= n /\ i = .int .i64 k /\ Hid (R = offF (l.take k) (l.drop k)) /\ Hid (Below w.heap.size w W)) (fun i _ => n - (intOf i).toNat)
  case atStart => exact ⟨0,Nat.zero_le _,rfl,HF,Below.refl _ _⟩
  case round =>
    obtain ⟨k,hk,rfl,hlab,hbel⟩ := hrel
    by_cases hlt : k < n
    · have hlk : k < l.length := by rw [<- unhide HN]; exact hlt
      obtain ⟨b,o,rfl,hat⟩ := ((unhide HV).below (unhide hbel)).at hlk
      have hst := hide (off_step hlk)
      obtain ⟨y,hy⟩ : ∃ y,y = l[k] := ⟨_,rfl⟩
      rw [<- hy] at hat hst
      obtain ⟨⟨h0,hs0⟩,⟨h1,hs1⟩,h2,hs2⟩ := off_at.1 hat
      rw [show offK.size = 3 from rfl] at h0 h1 h2
      have hnm := hide (fun W => rnames8_any y W ⟨hs0,hs1,hs2⟩)
      clear hy hlk hat hs0 hs1 hs2
      obtain ⟨q0,hq0⟩ : ∃ q,q = namedO y := ⟨_,rfl⟩
      rw [<- hq0] at hst hnm
      clear hq0
      unfold offA at hnm
      have HB := hide (fun x : VOff => off_beq x y)
      obtain ⟨p,hp⟩ : ∃ p : VOff -> Bool,p = fun x => x == y := ⟨_,rfl⟩
      have hpx : Hid (∀ x : VOff,(((bytesT x.1).toList == (bytesT y.1).toList) && (((bytesT x.2.1).toList == (bytesT y.2.1).toList) && ((bytesT x.2.2).toList == (bytesT y.2.2).toList))) = p x) := fun x => by rw [hp]; exact off_beq x y
      rw [<- hp] at hst
      clear hp HB
      obtain ⟨Y0,hY0⟩ : ∃ X,X = bytesT y.1 := ⟨_,rfl⟩
      obtain ⟨Y1,hY1⟩ : ∃ X,X = bytesT y.2.1 := ⟨_,rfl⟩
      obtain ⟨Y2,hY2⟩ : ∃ X,X = bytesT y.2.2 := ⟨_,rfl⟩
      rw [<- hY0] at h0
      rw [<- hY1] at h1
      rw [<- hY2] at h2
      rw [<- hY0,<- hY1,<- hY2] at hnm hpx
      clear hY0 hY1 hY2
      obtain ⟨W0,hW0⟩ : ∃ W,W = wr.alloc (.cells #[.string Y0,.string Y1,.string Y2] 34) := ⟨_,rfl⟩
      have B0 : Hid (Below wr.heap.size wr W0) := by rw [hW0]; exact boxb _
      obtain ⟨c0,c1,c2⟩ : OBox W0 wr.heap.size Y0 Y1 Y2 := by rw [hW0]; exact obox_new _ _ _ _ _
      have GW0 := hide hW0
      clear hW0
      go_wp2_with fail
      rw [<- unhide GW0]
      clear h0 h1 h2
      refine (unhide hnm _).mono ?_
      rintro e w2 ⟨rfl,hw2⟩
      have B2 := hide (chain (chain (unhide hbel) (unhide B0)) hw2)
      have H0 := hide (cell_kept hw2 c0)
      have H1 := hide (cell_kept hw2 c1)
      have H2 := hide (cell_kept hw2 c2)
      clear hw2 c0 c1 c2
      cases q0
      · have hfin : Hid (R = 7) := by show _ = _; rw [unhide hlab,unhide hst]; simp
        go_wp2_with fail
        go_ret
        exact ⟨ret_int (unhide hfin).symm,unhide B2⟩
      have i0 : (0 : Int) <= (k : Int) := by omega
      have i1 : (k : Int) <= (c : Int) := by omega
      have hst2 : Hid ((l.take k).any p = true -> R = 6) := fun h => by rw [unhide hlab,unhide hst,h]; simp
      have hst3 : Hid ((l.take k).any p = false -> R = offF (l.take (k + 1)) (l.drop (k + 1))) := fun h => by rw [unhide hlab,unhide hst,h]; simp
      clear hst hlab
      go_wp2_with fail
      go_loopw [24] (fun i W => ∃ m : Nat,m <= k /\ i = .int .i64 m /\ Hid ((l.take m).any p = false) /\ Hid (Below w2.heap.size w2 W)) (fun i _ => k - (intOf i).toNat)
      case atStart => exact ⟨0,Nat.zero_le _,rfl,rfl,Below.refl _ _⟩
      case round =>
        obtain ⟨m,hm,rfl,hnone,hbel3⟩ := hrel
        by_cases hmk : m < k
        · have hlm : m < l.length := by rw [<- unhide HN]; omega
          obtain ⟨b',o',eb,hat⟩ := ((unhide HV).below (chain (unhide B2) (unhide hbel3))).at hlm
          obtain ⟨rfl,rfl⟩ : b = b' /\ o = o' := by injection eb with eb; injection eb with e1 e2 _; exact ⟨e1,e2⟩
          have hnx := hide (any_next6 (p := p) l m hlm)
          have hmem : Hid (l[m] ∈ l.take k) := List.mem_take_iff_getElem.2 ⟨m,by omega,rfl⟩
          obtain ⟨x,hx⟩ : ∃ x,x = l[m] := ⟨_,rfl⟩
          rw [<- hx] at hat hnx hmem
          obtain ⟨q,hq⟩ : ∃ q,q = p x := ⟨_,rfl⟩
          rw [<- hq] at hnx
          have hyes : Hid (q = true -> (l.take k).any p = true) := fun h => List.any_eq_true.2 ⟨x,unhide hmem,hq.symm.trans h⟩
          have hqq := (unhide hpx x).trans hq.symm
          clear hq hx hlm eb hmem
          obtain ⟨⟨s0,_⟩,⟨s1,_⟩,s2,_⟩ := off_at.1 hat
          rw [show offK.size = 3 from rfl] at s0 s1 s2
          have t0 := cell_kept (unhide hbel3) (unhide H0)
          have t1 := cell_kept (unhide hbel3) (unhide H1)
          have t2 := cell_kept (unhide hbel3) (unhide H2)
          obtain ⟨X0,hX0⟩ : ∃ X,X = bytesT x.1 := ⟨_,rfl⟩
          obtain ⟨X1,hX1⟩ : ∃ X,X = bytesT x.2.1 := ⟨_,rfl⟩
          obtain ⟨X2,hX2⟩ : ∃ X,X = bytesT x.2.2 := ⟨_,rfl⟩
          rw [<- hX0] at hqq s0
          rw [<- hX1] at hqq s1
          rw [<- hX2] at hqq s2
          have qT : ∀ W,(binOp .eql 34 (.agg #[.string X0,.string X1,.string X2]) (.agg #[.string Y0,.string Y1,.string Y2])).run Tryz.prog W = .ok (.bool q) W := fun W => by rw [eqlOff,hqq]
          have qG := offGuard
          clear hqq hX0 hX1 hX2 hat
          replace t0 := cell_box6 (.cells #[.string X0,.string X1,.string X2] 34) t0
          replace t1 := cell_box6 (.cells #[.string X0,.string X1,.string X2] 34) t1
          replace t2 := cell_box6 (.cells #[.string X0,.string X1,.string X2] 34) t2
          have i4 : (0 : Int) <= (m : Int) := by omega
          have i5 : (m : Int) < (k : Int) := by omega
          have B6 := hide (chain (unhide hbel3) (boxb (.cells #[.string X0,.string X1,.string X2] 34)))
          cases q
          · have hn2 : Hid ((l.take (m + 1)).any p = false) := by show _ = _; rw [unhide hnx,unhide hnone]; rfl
            go_wp2_with fail
            go_roundw
            case rel => exact ⟨m + 1,by omega,by go_num,hn2,B6⟩
            case measure => simp [intOf]; omega
          · have hfin : Hid (R = 6) := unhide hst2 (unhide hyes rfl)
            go_wp2_with fail
            go_ret
            exact ⟨ret_int (unhide hfin).symm,chain (unhide B2) (unhide B6)⟩
        · obtain rfl : m = k := by omega
          have hnx : Hid (R = offF (l.take (m + 1)) (l.drop (m + 1))) := unhide hst3 (unhide hnone)
          have B6 := hide (chain (unhide B2) (unhide hbel3))
          go_wp2_with fail
          go_roundw
          case rel => exact ⟨m + 1,by omega,by go_num,hnx,B6⟩
          case measure => simp [intOf]; omega
    · obtain rfl : k = n := by omega
      have hfin : Hid (R = 0) := by
        show _ = _
        rw [unhide hlab,List.drop_of_length_le (by rw [<- unhide HN]; exact Nat.le_refl _)]; rfl
      go_wp2_with fail
      go_ret
      exact ⟨ret_int (unhide hfin).symm,unhide hbel⟩
end Go.Proofs.YtfpfdnapamdhjaaGreatDoor
