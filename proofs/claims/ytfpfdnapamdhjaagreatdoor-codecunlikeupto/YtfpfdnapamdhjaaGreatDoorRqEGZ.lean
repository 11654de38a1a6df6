/- Layer 4: contracts of the document's first,more,Check,Labels,admits,Admits. -/
import Derived.Test.YtfpfdnapamdhjaaGreatDoorRqCGZ
import Derived.Test.YtfpfdnapamdhjaaGreatDoorV3WRGZ
import Derived.Test.YtfpfdnapamdhjaaGreatDoorV3NUGZ
namespace Go.Proofs.YtfpfdnapamdhjaaGreatDoor
open Go.RowKit Suf Val Go.Maps

set_option maxRecDepth 100000 in
set_option maxHeartbeats 8000000 in
theorem rfirst_any (v : Value) (l : List VReq) (w : World) (hv : Reqs w v l) (h16 : l.length <= 16) :
    Calls Tryz.prog 122 #[v] w fun e w' => e = .returned (.int .i64 (firstR l)) /\ Below w.heap.size w w' := by
  have HV := hide hv
  obtain ⟨a,c,rfl⟩ := hv.val
  clear hv
  obtain ⟨n,hn⟩ : ∃ n,n = l.length := ⟨_,rfl⟩
  rw [<- hn] at HV h16 ⊢
  have HN := hide hn
  clear hn
  obtain ⟨R,hR⟩ : ∃ R,R = firstR l := ⟨_,rfl⟩
  rw [<- hR]
  have HR := hide hR
  clear hR
  go_enter Tryz.func122,Tryz.ntmps122
  go_wp2_with fail
  go_loopw [3] (fun i W => ∃ k : Nat,k <= n /\ i = .int .i64 k /\ Hid (∀ r ∈ l.take k,wrongR r = 0) /\ Hid (Below w.heap.size w W)) (fun i _ => n - (intOf i).toNat)
  case atStart => exact ⟨0,Nat.zero_le _,rfl,fun r hr => (by cases hr),Below.refl _ _⟩
  case round =>
    obtain ⟨k,hk,rfl,hok,hbel⟩ := hrel
    by_cases hlt : k < n
    · have hlk : k < l.length := by rw [<- unhide HN]; exact hlt
      obtain ⟨b,o,u,rfl,hreq⟩ := ((unhide HV).below (unhide hbel)).at hlk
      have htk := hide (take_nextG l k hlk)
      have hft := hide (first_take hlk (unhide hok))
      obtain ⟨r,hr⟩ : ∃ r,r = l[k] := ⟨_,rfl⟩
      rw [<- hr] at hreq htk hft
      obtain ⟨h0,h1,h2,h3,hstr,hsh,hcp⟩ := hreq
      have hST := hide hstr
      have hSH := hide hsh
      have hCP := hide hcp
      obtain ⟨ua,uc,hue⟩ := hstr.val
      subst hue
      clear hstr hsh hr hlk hcp
      obtain ⟨un,hun⟩ : ∃ x,x = r.vals.length := ⟨_,rfl⟩
      rw [<- hun] at h2 hST hCP
      clear hun
      go_wp2_with fail
      clear h0 h1 h2 h3
      refine (rof_any (bytesT r.key) r.op _ r.vals r.n _ (unhide hST) (unhide hCP) (short_max (unhide hSH))).mono ?_
      rintro e w1 ⟨x1,y1,he,ho1,hw1⟩
      have hof : ofR ⟨(bytesT r.key).data.toList,r.op,r.vals,r.n⟩ = ofR r := rfl
      rw [hof] at he ho1
      clear hof ho1
      unfold tells at he
      obtain ⟨z,hz⟩ : ∃ z,z = (ofR r).2 := ⟨_,rfl⟩
      obtain ⟨s,hs⟩ : ∃ s,s = (ofR r).1 := ⟨_,rfl⟩
      rw [<- hz,<- hs] at he
      obtain ⟨sn,hsn⟩ : ∃ x,x = s.vals.length := ⟨_,rfl⟩
      rw [<- hsn] at he
      subst he
      have hzw : Hid (z = wrongR r) := by
        show _ = _
        rw [hz]
        by_cases hw : wrongR r = 0
        · rw [ofR_good hw,hw]
        · rw [ofR_bad hw]
      have B1 := hide (chain (chain (unhide hbel) hw1) (box_below (.cells #[.bool s.miss,.bool s.no,.bool s.num,.slice x1 sn y1,.int .i64 s.lo,.int .i64 s.hi] 199)))
      clear hz hs hsn hw1
      by_cases hz0 : z = 0
      · subst hz0
        have hn2 : Hid (∀ r' ∈ l.take (k + 1),wrongR r' = 0) := fun r' hr' => by
          rw [unhide htk] at hr'
          rcases List.mem_append.1 hr' with h | h
          · exact unhide hok r' h
          · rw [List.mem_singleton] at h; rw [h]; exact (unhide hzw).symm
        go_wp2_with fail
        go_roundw
        case rel => exact ⟨k + 1,by omega,by go_num,hn2,B1⟩
        case measure => simp [intOf]; omega
      · have ht : (z != 0) = true := bne_iff_ne.2 hz0
        have hfin : Hid (R = z) := by
          show _ = _
          rw [unhide HR,unhide hzw]
          exact unhide hft (by rw [<- unhide hzw]; exact hz0)
        clear hz0
        go_wp2_with fail
        go_ret
        exact ⟨ret_int (unhide hfin).symm,unhide B1⟩
    · obtain rfl : k = n := by omega
      have hfin : Hid (R = 0) := by
        show _ = _
        rw [unhide HR,first_ok]
        have := unhide hok
        rw [List.take_of_length_le (by rw [<- unhide HN]; exact Nat.le_refl _)] at this
        exact this
      go_wp2_with fail
      go_ret
      exact ⟨ret_int (unhide hfin).symm,unhide hbel⟩

set_option maxRecDepth 100000 in
set_option maxHeartbeats 4000000 in
theorem rcheck4_any (v : Value) (l : List VReq) (w : World) (hv : Reqs w v l) :
    Calls Tryz.prog 87 #[v] w fun e w' => e = .returned (.int .i64 (moreR 8 l)) /\ Below w.heap.size w w' := by
  have HV := hide hv
  have hlen := hv.len
  obtain ⟨a,c,rfl⟩ := hv.val
  clear hv
  obtain ⟨n,hn⟩ : ∃ n,n = l.length := ⟨_,rfl⟩
  rw [<- hn] at HV hlen ⊢
  have HN := hide hn
  clear hn
  obtain ⟨R,hR⟩ : ∃ R,R = moreR 8 l := ⟨_,rfl⟩
  rw [<- hR]
  have HR := hide hR
  clear hR
  by_cases hb : 8 < n
  · have hfin : Hid (R = 3) := by show _ = _; rw [unhide HR]; unfold moreR; rw [<- unhide HN,if_pos hb]
    go_enter Tryz.func87,Tryz.ntmps87
    go_wp2_with fail
    go_ret
    exact ⟨ret_int (unhide hfin).symm,Below.refl _ _⟩
  · have hfin : Hid (R = firstR l) := by show _ = _; rw [unhide HR]; unfold moreR; rw [<- unhide HN,if_neg hb]
    have hl16 : Hid (l.length <= 16) := by show _ <= _; rw [<- unhide HN]; omega
    go_enter Tryz.func87,Tryz.ntmps87
    go_wp2_with fail
    refine (rfirst_any _ l _ (unhide HV) (unhide hl16)).mono ?_
    rintro e w1 ⟨he,hw1⟩
    rw [<- unhide hfin] at he
    subst he
    have B1 := hide hw1
    clear hw1
    go_wp2_with fail
    go_ret
    exact ⟨rfl,unhide B1⟩

theorem c2_drew {V W : World} {p0 p1 : Addr} {v0 v1 : Value} (h : Hid (Below V.heap.size V W) /\ W.cell? p0 = some v0 /\ W.cell? p1 = some v1) : Hid (Below V.heap.size V W.drew) /\ W.drew.cell? p0 = some v0 /\ W.drew.cell? p1 = some v1 :=
  ⟨(unhide h.1).drew,h.2.1,h.2.2⟩

end Go.Proofs.YtfpfdnapamdhjaaGreatDoor
