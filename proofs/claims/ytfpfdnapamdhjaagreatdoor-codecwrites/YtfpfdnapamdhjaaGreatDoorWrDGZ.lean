/- Layer 9: the document's writers -/
import Derived.Test.YtfpfdnapamdhjaaGreatDoorWrNGZ
import Derived.Test.YtfpfdnapamdhjaaGreatDoorO8AGZ
import Derived.Test.YtfpfdnapamdhjaaGreatDoorO8RGZ
import Derived.Deep.MidRow
import Derived.Laws.Rows
namespace Go.Proofs.YtfpfdnapamdhjaaGreatDoor
open Go.RowKit Suf Val

section
variable {W0 w : World} {B : Nat} {xs : Txt} {cs : List (Addr × Value)}
set_option maxRecDepth 100000 in
set_option maxHeartbeats 16000000 in
theorem dw_off (y : VOff) (h : Wr W0 B xs cs w) (hl : Room (xs ++ offC.w y)) :
    Calls Tryz.prog 22 #[.pointer (some ⟨B,0,none⟩),.agg #[.string (bytesT y.1),.string (bytesT y.2.1),.string (bytesT y.2.2)]] w fun e w' => e = .returned (.tuple #[]) /\ Wr W0 B (xs ++ offC.w y) cs w' := by
  have HE : Hid (xs ++ txtC.w y.1 ++ txtC.w y.2.1 ++ txtC.w y.2.2 = xs ++ offC.w y) := by show _ = _; simp only [List.append_assoc]; rfl
  have HL : Hid (Room (xs ++ txtC.w y.1 ++ txtC.w y.2.1 ++ txtC.w y.2.2)) := by show Room _; rw [unhide HE]; exact hl
  have H0 := hide (h.box [.string (bytesT y.1),.string (bytesT y.2.1),.string (bytesT y.2.2)] 34)
  clear h hl
  go_enter Tryz.func22,Tryz.ntmps22
  go_wp2_with fail
  refine (dw_text y.1 (unhide H0) (room_pre (room_pre (unhide HL)))).mono ?_
  rintro e w1 ⟨rfl,hw⟩
  have c1 : w1.cell? ⟨w.heap.size,1,none⟩ = some (.string (bytesT y.2.1)) := hw.at 1 rfl
  have H1 := hide hw
  clear hw H0
  go_wp2_with fail
  refine (dw_text y.2.1 (unhide H1) (room_pre (unhide HL))).mono ?_
  rintro e w2 ⟨rfl,hw⟩
  have c2 : w2.cell? ⟨w.heap.size,2,none⟩ = some (.string (bytesT y.2.2)) := hw.at 2 rfl
  have H2 := hide hw
  clear hw H1 c1
  go_wp2_with fail
  refine (dw_text y.2.2 (unhide H2) (unhide HL)).mono ?_
  rintro e w3 ⟨rfl,hw⟩
  have hz := hide hw
  clear hw c2
  go_wp2_with fail
  go_end0
  exact ⟨rfl,by rw [<- unhide HE]; exact (unhide hz).drop⟩
set_option maxRecDepth 100000 in
set_option maxHeartbeats 16000000 in
theorem dw_Lstr (l : List (Txt)) (u : Value) (hu : Lst strK W0 u l) (h : Wr W0 B xs cs w) (hl : Room (xs ++ (listC txtC).w l)) :
    Calls Tryz.prog 50 #[.pointer (some ⟨B,0,none⟩),u] w fun e w' => e = .returned (.tuple #[]) /\ Wr W0 B (xs ++ (listC txtC).w l) cs w' := by
  have HU := hide hu
  have hlen := hu.len
  obtain ⟨a,c,rfl⟩ := hu.val
  clear hu
  obtain ⟨n,hn⟩ : ∃ n,n = l.length := ⟨_,rfl⟩
  rw [<- hn] at HU hlen ⊢
  have HN := hide hn
  have HE : Hid (xs ++ [UInt8.ofNat n] ++ manyW txtC l = xs ++ (listC txtC).w l) := by show _ = _; rw [List.append_assoc,hn]; rfl
  have HL : Hid (Room (xs ++ [UInt8.ofNat n] ++ manyW txtC l)) := by show Room _; rw [unhide HE]; exact hl
  have H := hide h
  clear h hl hn
  go_enter Tryz.func50,Tryz.ntmps50
  go_wp2_with fail
  refine (dw_len n (unhide H) (room_pre (unhide HL))).mono ?_
  rintro e w1 ⟨rfl,hw⟩
  have H1 := hide hw
  clear hw H
  go_wp2_with fail
  go_loopw [12] (fun i W => ∃ k : Nat,k <= n /\ i = .int .i64 k /\ Hid (Wr W0 B (xs ++ [UInt8.ofNat n] ++ manyW txtC (l.take k)) (cs) W)) (fun i _ => n - (intOf i).toNat)
  case atStart => exact ⟨0,Nat.zero_le _,rfl,by show Wr _ _ _ _ _; rw [List.take_zero]; show Wr _ _ (xs ++ [UInt8.ofNat n] ++ []) _ _; rw [List.append_nil]; exact unhide H1⟩
  case round =>
    clear H1
    obtain ⟨k,hk,rfl,hW⟩ := hrel
    by_cases hlt : k < n
    · have hlk : k < l.length := by rw [<- unhide HN]; exact hlt
      obtain ⟨b,o,rfl,hat⟩ := (unhide HU).at hlk
      have hnx : Hid (manyW txtC (l.take (k + 1)) = manyW txtC (l.take k) ++ txtC.w l[k]) := many_next _ hlk
      have HLk : Hid (Room (xs ++ [UInt8.ofNat n] ++ manyW txtC (l.take k) ++ txtC.w l[k])) := many_room hlk (unhide HL)
      obtain ⟨z,hz⟩ : ∃ z,z = l[k] := ⟨_,rfl⟩
      rw [<- hz] at hat hnx HLk
      obtain ⟨h0,_⟩ := at_str.1 hat
      rw [show strK.size = 1 from rfl,Nat.mul_one] at h0
      replace h0 := cell_kept (unhide hW).gr h0
      clear hz hat
      go_wp2_with fail
      refine (dw_text z (unhide hW) (unhide HLk)).mono ?_
      rintro e w9 ⟨rfl,hw⟩
      rw [List.append_assoc,<- unhide hnx] at hw
      have Hn := hide hw
      clear hw
      go_wp2_with fail
      exact ⟨⟨k + 1,by omega,by go_num,Hn⟩,by simp [intOf]; omega⟩
    · obtain rfl : n = k := by omega
      have hf : Hid (Wr W0 B (xs ++ [UInt8.ofNat n] ++ manyW txtC l) (cs) wr) := by show Wr _ _ _ _ _; have := unhide hW; rwa [show l.take n = l from List.take_of_length_le (by rw [<- unhide HN]; exact Nat.le_refl _)] at this
      clear hW
      go_wp2_with fail
      go_end0
      exact ⟨rfl,by rw [<- unhide HE]; exact unhide hf⟩
set_option maxRecDepth 100000 in
set_option maxHeartbeats 16000000 in
theorem dw_Loff (l : List (VOff)) (u : Value) (hu : Lst offK W0 u l) (h : Wr W0 B xs cs w) (hl : Room (xs ++ (listC offC).w l)) :
    Calls Tryz.prog 49 #[.pointer (some ⟨B,0,none⟩),u] w fun e w' => e = .returned (.tuple #[]) /\ Wr W0 B (xs ++ (listC offC).w l) cs w' := by
  have HU := hide hu
  have hlen := hu.len
  obtain ⟨a,c,rfl⟩ := hu.val
  clear hu
  obtain ⟨n,hn⟩ : ∃ n,n = l.length := ⟨_,rfl⟩
  rw [<- hn] at HU hlen ⊢
  have HN := hide hn
  have HE : Hid (xs ++ [UInt8.ofNat n] ++ manyW offC l = xs ++ (listC offC).w l) := by show _ = _; rw [List.append_assoc,hn]; rfl
  have HL : Hid (Room (xs ++ [UInt8.ofNat n] ++ manyW offC l)) := by show Room _; rw [unhide HE]; exact hl
  have H := hide h
  clear h hl hn
  go_enter Tryz.func49,Tryz.ntmps49
  go_wp2_with fail
  refine (dw_len n (unhide H) (room_pre (unhide HL))).mono ?_
  rintro e w1 ⟨rfl,hw⟩
  have H1 := hide hw
  clear hw H
  go_wp2_with fail
  go_loopw [12] (fun i W => ∃ k : Nat,k <= n /\ i = .int .i64 k /\ Hid (Wr W0 B (xs ++ [UInt8.ofNat n] ++ manyW offC (l.take k)) (cs) W)) (fun i _ => n - (intOf i).toNat)
  case atStart => exact ⟨0,Nat.zero_le _,rfl,by show Wr _ _ _ _ _; rw [List.take_zero]; show Wr _ _ (xs ++ [UInt8.ofNat n] ++ []) _ _; rw [List.append_nil]; exact unhide H1⟩
  case round =>
    clear H1
    obtain ⟨k,hk,rfl,hW⟩ := hrel
    by_cases hlt : k < n
    · have hlk : k < l.length := by rw [<- unhide HN]; exact hlt
      obtain ⟨b,o,rfl,hat⟩ := (unhide HU).at hlk
      have hnx : Hid (manyW offC (l.take (k + 1)) = manyW offC (l.take k) ++ offC.w l[k]) := many_next _ hlk
      have HLk : Hid (Room (xs ++ [UInt8.ofNat n] ++ manyW offC (l.take k) ++ offC.w l[k])) := many_room hlk (unhide HL)
      obtain ⟨z,hz⟩ : ∃ z,z = l[k] := ⟨_,rfl⟩
      rw [<- hz] at hat hnx HLk
      obtain ⟨⟨h0,_⟩,⟨h1,_⟩,h2,_⟩ := off_at.1 hat
      rw [show offK.size = 3 from rfl] at h0 h1 h2
      replace h0 := cell_kept (unhide hW).gr h0
      replace h1 := cell_kept (unhide hW).gr h1
      replace h2 := cell_kept (unhide hW).gr h2
      have Hb := hide ((unhide hW).box [.string (bytesT z.1),.string (bytesT z.2.1),.string (bytesT z.2.2)] 34)
      clear hz hat
      go_wp2_with fail
      refine (dw_off z (unhide Hb) (unhide HLk)).mono ?_
      rintro e w9 ⟨rfl,hw⟩
      clear Hb
      replace hw := hw.drop
      rw [List.append_assoc,<- unhide hnx] at hw
      have Hn := hide hw
      clear hw
      go_wp2_with fail
      exact ⟨⟨k + 1,by omega,by go_num,Hn⟩,by simp [intOf]; omega⟩
    · obtain rfl : n = k := by omega
      have hf : Hid (Wr W0 B (xs ++ [UInt8.ofNat n] ++ manyW offC l) (cs) wr) := by show Wr _ _ _ _ _; have := unhide hW; rwa [show l.take n = l from List.take_of_length_le (by rw [<- unhide HN]; exact Nat.le_refl _)] at this
      clear hW
      go_wp2_with fail
      go_end0
      exact ⟨rfl,by rw [<- unhide HE]; exact unhide hf⟩
set_option maxRecDepth 100000 in
set_option maxHeartbeats 16000000 in
theorem dw_Lreq (l : List (VReq)) (u : Value) (hu : Lst reqK W0 u l) (h : Wr W0 B xs cs w) (hl : Room (xs ++ (listC reqC).w l)) :
    Calls Tryz.prog 45 #[.pointer (some ⟨B,0,none⟩),u] w fun e w' => e = .returned (.tuple #[]) /\ Wr W0 B (xs ++ (listC reqC).w l) cs w' := by
  have HU := hide hu
  have hlen := hu.len
  obtain ⟨a,c,rfl⟩ := hu.val
  clear hu
  obtain ⟨n,hn⟩ : ∃ n,n = l.length := ⟨_,rfl⟩
  rw [<- hn] at HU hlen ⊢
  have HN := hide hn
  have HE : Hid (xs ++ [UInt8.ofNat n] ++ manyW reqC l = xs ++ (listC reqC).w l) := by show _ = _; rw [List.append_assoc,hn]; rfl
  have HL : Hid (Room (xs ++ [UInt8.ofNat n] ++ manyW reqC l)) := by show Room _; rw [unhide HE]; exact hl
  have H := hide h
  clear h hl hn
  go_enter Tryz.func45,Tryz.ntmps45
  go_wp2_with fail
  refine (dw_len n (unhide H) (room_pre (unhide HL))).mono ?_
  rintro e w1 ⟨rfl,hw⟩
  have H1 := hide hw
  clear hw H
  go_wp2_with fail
  go_loopw [12] (fun i W => ∃ k : Nat,k <= n /\ i = .int .i64 k /\ Hid (Wr W0 B (xs ++ [UInt8.ofNat n] ++ manyW reqC (l.take k)) (cs) W)) (fun i _ => n - (intOf i).toNat)
  case atStart => exact ⟨0,Nat.zero_le _,rfl,by show Wr _ _ _ _ _; rw [List.take_zero]; show Wr _ _ (xs ++ [UInt8.ofNat n] ++ []) _ _; rw [List.append_nil]; exact unhide H1⟩
  case round =>
    clear H1
    obtain ⟨k,hk,rfl,hW⟩ := hrel
    by_cases hlt : k < n
    · have hlk : k < l.length := by rw [<- unhide HN]; exact hlt
      obtain ⟨b,o,rfl,hat⟩ := (unhide HU).at hlk
      have hnx : Hid (manyW reqC (l.take (k + 1)) = manyW reqC (l.take k) ++ reqC.w l[k]) := many_next _ hlk
      have HLk : Hid (Room (xs ++ [UInt8.ofNat n] ++ manyW reqC (l.take k) ++ reqC.w l[k])) := many_room hlk (unhide HL)
      obtain ⟨z,hz⟩ : ∃ z,z = l[k] := ⟨_,rfl⟩
      rw [<- hz] at hat hnx HLk
      obtain ⟨⟨h0,_⟩,h1,⟨u0,h2,hu0⟩,h3⟩ := req_at.1 hat
      rw [show reqK.size = 4 from rfl] at h0 h1 h2 h3
      replace h0 := cell_kept (unhide hW).gr h0
      replace h1 := cell_kept (unhide hW).gr h1
      replace h2 := cell_kept (unhide hW).gr h2
      replace h3 := cell_kept (unhide hW).gr h3
      obtain ⟨a0,d0,rfl⟩ := hu0.val
      have HU1 := hide hu0
      clear hu0
      have Hb := hide ((unhide hW).box [.string (bytesT z.key),.int .i64 z.op,(.slice a0 z.vals.length d0),.int .i64 z.n] 138)
      clear hz hat
      go_wp2_with fail
      have HF : Hid ((xs ++ [UInt8.ofNat n] ++ manyW reqC (l.take k)) ++ txtC.w z.key ++ numC.w z.op ++ (listC txtC).w z.vals ++ numC.w z.n = (xs ++ [UInt8.ofNat n] ++ manyW reqC (l.take k)) ++ reqC.w z) := by show _ = _; simp only [List.append_assoc]; rfl
      have HG : Hid (Room ((xs ++ [UInt8.ofNat n] ++ manyW reqC (l.take k)) ++ txtC.w z.key ++ numC.w z.op ++ (listC txtC).w z.vals ++ numC.w z.n)) := by show Room _; rw [unhide HF]; exact unhide HLk
      refine (dw_text z.key (unhide Hb) (room_pre (room_pre (room_pre (unhide HG))))).mono ?_
      rintro e v1 ⟨rfl,hw⟩
      have g1 : v1.cell? ⟨wr.heap.size,1,none⟩ = some (.int .i64 z.op) := hw.at 1 rfl
      have Hb1 := hide hw
      clear hw Hb
      go_wp2_with fail
      refine (dw_num z.op (unhide Hb1) (room_pre (room_pre (unhide HG)))).mono ?_
      rintro e v2 ⟨rfl,hw⟩
      have g2 : v2.cell? ⟨wr.heap.size,2,none⟩ = some ((.slice a0 z.vals.length d0)) := hw.at 2 rfl
      have Hb2 := hide hw
      clear hw Hb1 g1
      go_wp2_with fail
      refine (dw_Lstr z.vals _ (unhide HU1) (unhide Hb2) (room_pre (unhide HG))).mono ?_
      rintro e v3 ⟨rfl,hw⟩
      have g3 : v3.cell? ⟨wr.heap.size,3,none⟩ = some (.int .i64 z.n) := hw.at 3 rfl
      have Hb3 := hide hw
      clear hw Hb2 g2
      go_wp2_with fail
      refine (dw_num z.n (unhide Hb3) (unhide HG)).mono ?_
      rintro e v4 ⟨rfl,hw⟩
      rw [unhide HF] at hw
      clear HF HG Hb3 g3
      replace hw := hw.drop
      rw [List.append_assoc,<- unhide hnx] at hw
      have Hn := hide hw
      clear hw
      go_wp2_with fail
      exact ⟨⟨k + 1,by omega,by go_num,Hn⟩,by simp [intOf]; omega⟩
    · obtain rfl : n = k := by omega
      have hf : Hid (Wr W0 B (xs ++ [UInt8.ofNat n] ++ manyW reqC l) (cs) wr) := by show Wr _ _ _ _ _; have := unhide hW; rwa [show l.take n = l from List.take_of_length_le (by rw [<- unhide HN]; exact Nat.le_refl _)] at this
      clear hW
      go_wp2_with fail
      go_end0
      exact ⟨rfl,by rw [<- unhide HE]; exact unhide hf⟩
set_option maxRecDepth 100000 in
set_option maxHeartbeats 16000000 in
theorem dw_Ltrm (l : List (VTerm)) (u : Value) (hu : Lst trmK W0 u l) (h : Wr W0 B xs cs w) (hl : Room (xs ++ (listC labC).w l)) :
    Calls Tryz.prog 48 #[.pointer (some ⟨B,0,none⟩),u] w fun e w' => e = .returned (.tuple #[]) /\ Wr W0 B (xs ++ (listC labC).w l) cs w' := by
  have HU := hide hu
  have hlen := hu.len
  obtain ⟨a,c,rfl⟩ := hu.val
  clear hu
  obtain ⟨n,hn⟩ : ∃ n,n = l.length := ⟨_,rfl⟩
  rw [<- hn] at HU hlen ⊢
  have HN := hide hn
  have HE : Hid (xs ++ [UInt8.ofNat n] ++ manyW labC l = xs ++ (listC labC).w l) := by show _ = _; rw [List.append_assoc,hn]; rfl
  have HL : Hid (Room (xs ++ [UInt8.ofNat n] ++ manyW labC l)) := by show Room _; rw [unhide HE]; exact hl
  have H := hide h
  clear h hl hn
  go_enter Tryz.func48,Tryz.ntmps48
  go_wp2_with fail
  refine (dw_len n (unhide H) (room_pre (unhide HL))).mono ?_
  rintro e w1 ⟨rfl,hw⟩
  have H1 := hide hw
  clear hw H
  go_wp2_with fail
  go_loopw [12] (fun i W => ∃ k : Nat,k <= n /\ i = .int .i64 k /\ Hid (Wr W0 B (xs ++ [UInt8.ofNat n] ++ manyW labC (l.take k)) (cs) W)) (fun i _ => n - (intOf i).toNat)
  case atStart => exact ⟨0,Nat.zero_le _,rfl,by show Wr _ _ _ _ _; rw [List.take_zero]; show Wr _ _ (xs ++ [UInt8.ofNat n] ++ []) _ _; rw [List.append_nil]; exact unhide H1⟩
  case round =>
    clear H1
    obtain ⟨k,hk,rfl,hW⟩ := hrel
    by_cases hlt : k < n
    · have hlk : k < l.length := by rw [<- unhide HN]; exact hlt
      obtain ⟨b,o,rfl,hat⟩ := (unhide HU).at hlk
      have hnx : Hid (manyW labC (l.take (k + 1)) = manyW labC (l.take k) ++ labC.w l[k]) := many_next _ hlk
      have HLk : Hid (Room (xs ++ [UInt8.ofNat n] ++ manyW labC (l.take k) ++ labC.w l[k])) := many_room hlk (unhide HL)
      obtain ⟨z,hz⟩ : ∃ z,z = l[k] := ⟨_,rfl⟩
      rw [<- hz] at hat hnx HLk
      obtain ⟨⟨h0,_⟩,h1,_⟩ := trm_at.1 hat
      rw [show trmK.size = 2 from rfl] at h0 h1
      replace h0 := cell_kept (unhide hW).gr h0
      replace h1 := cell_kept (unhide hW).gr h1
      have Hb := hide ((unhide hW).box [.string (bytesT z.1),.string (bytesT z.2)] 146)
      clear hz hat
      go_wp2_with fail
      have HF : Hid ((xs ++ [UInt8.ofNat n] ++ manyW labC (l.take k)) ++ txtC.w z.1 ++ txtC.w z.2 = (xs ++ [UInt8.ofNat n] ++ manyW labC (l.take k)) ++ labC.w z) := by show _ = _; simp only [List.append_assoc]; rfl
      have HG : Hid (Room ((xs ++ [UInt8.ofNat n] ++ manyW labC (l.take k)) ++ txtC.w z.1 ++ txtC.w z.2)) := by show Room _; rw [unhide HF]; exact unhide HLk
      refine (dw_text z.1 (unhide Hb) (room_pre (unhide HG))).mono ?_
      rintro e v1 ⟨rfl,hw⟩
      have g1 : v1.cell? ⟨wr.heap.size,1,none⟩ = some (.string (bytesT z.2)) := hw.at 1 rfl
      have Hb1 := hide hw
      clear hw Hb
      go_wp2_with fail
      refine (dw_text z.2 (unhide Hb1) (unhide HG)).mono ?_
      rintro e v2 ⟨rfl,hw⟩
      rw [unhide HF] at hw
      clear HF HG Hb1 g1
      replace hw := hw.drop
      rw [List.append_assoc,<- unhide hnx] at hw
      have Hn := hide hw
      clear hw
      go_wp2_with fail
      exact ⟨⟨k + 1,by omega,by go_num,Hn⟩,by simp [intOf]; omega⟩
    · obtain rfl : n = k := by omega
      have hf : Hid (Wr W0 B (xs ++ [UInt8.ofNat n] ++ manyW labC l) (cs) wr) := by show Wr _ _ _ _ _; have := unhide hW; rwa [show l.take n = l from List.take_of_length_le (by rw [<- unhide HN]; exact Nat.le_refl _)] at this
      clear hW
      go_wp2_with fail
      go_end0
      exact ⟨rfl,by rw [<- unhide HE]; exact unhide hf⟩
set_option maxRecDepth 100000 in
set_option maxHeartbeats 16000000 in
theorem dw_cmd (y : VCmd) (u0 : Value) (hu0 : Lst strK W0 u0 y.nodes) (u1 : Value) (hu1 : Lst offK W0 u1 y.opts) (h : Wr W0 B xs cs w) (hl : Room (xs ++ cmdC.w y)) :
    Calls Tryz.prog 21 #[.pointer (some ⟨B,0,none⟩),.agg #[.int .i64 y.cause,u0,.int .i64 y.step,.int .i64 y.til,.string (bytesT y.fresh),.string (bytesT y.pool),u1,.bool y.made]] w fun e w' => e = .returned (.tuple #[]) /\ Wr W0 B (xs ++ cmdC.w y) cs w' := by
  have HE : Hid (xs ++ numC.w y.cause ++ (listC txtC).w y.nodes ++ numC.w y.step ++ numC.w y.til ++ txtC.w y.fresh ++ txtC.w y.pool ++ (listC offC).w y.opts ++ truthC.w y.made = xs ++ cmdC.w y) := by show _ = _; simp only [List.append_assoc]; rfl
  have HL : Hid (Room (xs ++ numC.w y.cause ++ (listC txtC).w y.nodes ++ numC.w y.step ++ numC.w y.til ++ txtC.w y.fresh ++ txtC.w y.pool ++ (listC offC).w y.opts ++ truthC.w y.made)) := by show Room _; rw [unhide HE]; exact hl
  have H0 := hide (h.box [.int .i64 y.cause,u0,.int .i64 y.step,.int .i64 y.til,.string (bytesT y.fresh),.string (bytesT y.pool),u1,.bool y.made] 40)
  have HUu0 := hide hu0
  have HUu1 := hide hu1
  clear h hl hu0 hu1
  go_enter Tryz.func21,Tryz.ntmps21
  go_wp2_with fail
  refine (dw_num y.cause (unhide H0) (room_pre (room_pre (room_pre (room_pre (room_pre (room_pre (room_pre (unhide HL))))))))).mono ?_
  rintro e w1 ⟨rfl,hw⟩
  have c1 : w1.cell? ⟨w.heap.size,1,none⟩ = some (u0) := hw.at 1 rfl
  have H1 := hide hw
  clear hw H0
  go_wp2_with fail
  refine (dw_Lstr y.nodes u0 (unhide HUu0) (unhide H1) (room_pre (room_pre (room_pre (room_pre (room_pre (room_pre (unhide HL)))))))).mono ?_
  rintro e w2 ⟨rfl,hw⟩
  have c2 : w2.cell? ⟨w.heap.size,2,none⟩ = some (.int .i64 y.step) := hw.at 2 rfl
  have H2 := hide hw
  clear hw H1 c1
  go_wp2_with fail
  refine (dw_num y.step (unhide H2) (room_pre (room_pre (room_pre (room_pre (room_pre (unhide HL))))))).mono ?_
  rintro e w3 ⟨rfl,hw⟩
  have c3 : w3.cell? ⟨w.heap.size,3,none⟩ = some (.int .i64 y.til) := hw.at 3 rfl
  have H3 := hide hw
  clear hw H2 c2
  go_wp2_with fail
  refine (dw_num y.til (unhide H3) (room_pre (room_pre (room_pre (room_pre (unhide HL)))))).mono ?_
  rintro e w4 ⟨rfl,hw⟩
  have c4 : w4.cell? ⟨w.heap.size,4,none⟩ = some (.string (bytesT y.fresh)) := hw.at 4 rfl
  have H4 := hide hw
  clear hw H3 c3
  go_wp2_with fail
  refine (dw_text y.fresh (unhide H4) (room_pre (room_pre (room_pre (unhide HL))))).mono ?_
  rintro e w5 ⟨rfl,hw⟩
  have c5 : w5.cell? ⟨w.heap.size,5,none⟩ = some (.string (bytesT y.pool)) := hw.at 5 rfl
  have H5 := hide hw
  clear hw H4 c4
  go_wp2_with fail
  refine (dw_text y.pool (unhide H5) (room_pre (room_pre (unhide HL)))).mono ?_
  rintro e w6 ⟨rfl,hw⟩
  have c6 : w6.cell? ⟨w.heap.size,6,none⟩ = some (u1) := hw.at 6 rfl
  have H6 := hide hw
  clear hw H5 c5
  go_wp2_with fail
  refine (dw_Loff y.opts u1 (unhide HUu1) (unhide H6) (room_pre (unhide HL))).mono ?_
  rintro e w7 ⟨rfl,hw⟩
  have c7 : w7.cell? ⟨w.heap.size,7,none⟩ = some (.bool y.made) := hw.at 7 rfl
  have H7 := hide hw
  clear hw H6 c6
  go_wp2_with fail
  refine (dw_truth y.made (unhide H7) (unhide HL)).mono ?_
  rintro e w8 ⟨rfl,hw⟩
  have hz := hide hw
  clear hw c7
  go_wp2_with fail
  go_end0
  exact ⟨rfl,by rw [<- unhide HE]; exact (unhide hz).drop⟩
set_option maxRecDepth 100000 in
set_option maxHeartbeats 16000000 in
theorem dw_clm (y : VClaim) (u0 : Value) (hu0 : Lst offK W0 u0 y.opts) (h : Wr W0 B xs cs w) (hl : Room (xs ++ clmC.w y)) :
    Calls Tryz.prog 20 #[.pointer (some ⟨B,0,none⟩),.agg #[.string (bytesT y.name),.string (bytesT y.pool),.int .i64 y.gen,.string (bytesT y.offer.1),.string (bytesT y.offer.2.1),.string (bytesT y.offer.2.2),.int .i64 y.price,.int .i64 y.cap.1,.int .i64 y.cap.2,u0,.int .i64 y.tryN,.string (bytesT y.id),.int .i64 y.phase,.int .i64 y.born,.bool y.marked]] w fun e w' => e = .returned (.tuple #[]) /\ Wr W0 B (xs ++ clmC.w y) cs w' := by
  have HE : Hid (xs ++ txtC.w y.name ++ txtC.w y.pool ++ numC.w y.gen ++ offC.w y.offer ++ numC.w y.price ++ amtC.w y.cap ++ (listC offC).w y.opts ++ numC.w y.tryN ++ txtC.w y.id ++ numC.w y.phase ++ numC.w y.born ++ truthC.w y.marked = xs ++ clmC.w y) := by show _ = _; simp only [List.append_assoc]; rfl
  have HL : Hid (Room (xs ++ txtC.w y.name ++ txtC.w y.pool ++ numC.w y.gen ++ offC.w y.offer ++ numC.w y.price ++ amtC.w y.cap ++ (listC offC).w y.opts ++ numC.w y.tryN ++ txtC.w y.id ++ numC.w y.phase ++ numC.w y.born ++ truthC.w y.marked)) := by show Room _; rw [unhide HE]; exact hl
  have H0 := hide (h.box [.string (bytesT y.name),.string (bytesT y.pool),.int .i64 y.gen,.string (bytesT y.offer.1),.string (bytesT y.offer.2.1),.string (bytesT y.offer.2.2),.int .i64 y.price,.int .i64 y.cap.1,.int .i64 y.cap.2,u0,.int .i64 y.tryN,.string (bytesT y.id),.int .i64 y.phase,.int .i64 y.born,.bool y.marked] 37)
  have HUu0 := hide hu0
  clear h hl hu0
  go_enter Tryz.func20,Tryz.ntmps20
  go_wp2_with fail
  refine (dw_text y.name (unhide H0) (room_pre (room_pre (room_pre (room_pre (room_pre (room_pre (room_pre (room_pre (room_pre (room_pre (room_pre (unhide HL))))))))))))).mono ?_
  rintro e w1 ⟨rfl,hw⟩
  have c1 : w1.cell? ⟨w.heap.size,1,none⟩ = some (.string (bytesT y.pool)) := hw.at 1 rfl
  have H1 := hide hw
  clear hw H0
  go_wp2_with fail
  refine (dw_text y.pool (unhide H1) (room_pre (room_pre (room_pre (room_pre (room_pre (room_pre (room_pre (room_pre (room_pre (room_pre (unhide HL)))))))))))).mono ?_
  rintro e w2 ⟨rfl,hw⟩
  have c2 : w2.cell? ⟨w.heap.size,2,none⟩ = some (.int .i64 y.gen) := hw.at 2 rfl
  have H2 := hide hw
  clear hw H1 c1
  go_wp2_with fail
  refine (dw_num y.gen (unhide H2) (room_pre (room_pre (room_pre (room_pre (room_pre (room_pre (room_pre (room_pre (room_pre (unhide HL))))))))))).mono ?_
  rintro e w3 ⟨rfl,hw⟩
  have c3 : w3.cell? ⟨w.heap.size,3,none⟩ = some (.string (bytesT y.offer.1)) := hw.at 3 rfl
  have c4 : w3.cell? ⟨w.heap.size,4,none⟩ = some (.string (bytesT y.offer.2.1)) := hw.at 4 rfl
  have c5 : w3.cell? ⟨w.heap.size,5,none⟩ = some (.string (bytesT y.offer.2.2)) := hw.at 5 rfl
  have H3 := hide hw
  clear hw H2 c2
  go_wp2_with fail
  refine (dw_off y.offer (unhide H3) (room_pre (room_pre (room_pre (room_pre (room_pre (room_pre (room_pre (room_pre (unhide HL)))))))))).mono ?_
  rintro e w4 ⟨rfl,hw⟩
  have c6 : w4.cell? ⟨w.heap.size,6,none⟩ = some (.int .i64 y.price) := hw.at 6 rfl
  have H4 := hide hw
  clear hw H3 c3 c4 c5
  go_wp2_with fail
  refine (dw_num y.price (unhide H4) (room_pre (room_pre (room_pre (room_pre (room_pre (room_pre (room_pre (unhide HL))))))))).mono ?_
  rintro e w5 ⟨rfl,hw⟩
  have c7 : w5.cell? ⟨w.heap.size,7,none⟩ = some (.int .i64 y.cap.1) := hw.at 7 rfl
  have c8 : w5.cell? ⟨w.heap.size,8,none⟩ = some (.int .i64 y.cap.2) := hw.at 8 rfl
  have H5 := hide hw
  clear hw H4 c6
  go_wp2_with fail
  refine (dw_amt y.cap (unhide H5) (room_pre (room_pre (room_pre (room_pre (room_pre (room_pre (unhide HL)))))))).mono ?_
  rintro e w6 ⟨rfl,hw⟩
  have c9 : w6.cell? ⟨w.heap.size,9,none⟩ = some (u0) := hw.at 9 rfl
  have H6 := hide hw
  clear hw H5 c7 c8
  go_wp2_with fail
  refine (dw_Loff y.opts u0 (unhide HUu0) (unhide H6) (room_pre (room_pre (room_pre (room_pre (room_pre (unhide HL))))))).mono ?_
  rintro e w7 ⟨rfl,hw⟩
  have c10 : w7.cell? ⟨w.heap.size,10,none⟩ = some (.int .i64 y.tryN) := hw.at 10 rfl
  have H7 := hide hw
  clear hw H6 c9
  go_wp2_with fail
  refine (dw_num y.tryN (unhide H7) (room_pre (room_pre (room_pre (room_pre (unhide HL)))))).mono ?_
  rintro e w8 ⟨rfl,hw⟩
  have c11 : w8.cell? ⟨w.heap.size,11,none⟩ = some (.string (bytesT y.id)) := hw.at 11 rfl
  have H8 := hide hw
  clear hw H7 c10
  go_wp2_with fail
  refine (dw_text y.id (unhide H8) (room_pre (room_pre (room_pre (unhide HL))))).mono ?_
  rintro e w9 ⟨rfl,hw⟩
  have c12 : w9.cell? ⟨w.heap.size,12,none⟩ = some (.int .i64 y.phase) := hw.at 12 rfl
  have H9 := hide hw
  clear hw H8 c11
  go_wp2_with fail
  refine (dw_num y.phase (unhide H9) (room_pre (room_pre (unhide HL)))).mono ?_
  rintro e w10 ⟨rfl,hw⟩
  have c13 : w10.cell? ⟨w.heap.size,13,none⟩ = some (.int .i64 y.born) := hw.at 13 rfl
  have H10 := hide hw
  clear hw H9 c12
  go_wp2_with fail
  refine (dw_num y.born (unhide H10) (room_pre (unhide HL))).mono ?_
  rintro e w11 ⟨rfl,hw⟩
  have c14 : w11.cell? ⟨w.heap.size,14,none⟩ = some (.bool y.marked) := hw.at 14 rfl
  have H11 := hide hw
  clear hw H10 c13
  go_wp2_with fail
  refine (dw_truth y.marked (unhide H11) (unhide HL)).mono ?_
  rintro e w12 ⟨rfl,hw⟩
  have hz := hide hw
  clear hw c14
  go_wp2_with fail
  go_end0
  exact ⟨rfl,by rw [<- unhide HE]; exact (unhide hz).drop⟩
set_option maxRecDepth 100000 in
set_option maxHeartbeats 16000000 in
theorem dw_pol (y : VPool) (u0 : Value) (hu0 : Lst reqK W0 u0 y.reqs) (u1 : Value) (hu1 : Lst labK W0 u1 y.taints) (h : Wr W0 B xs cs w) (hl : Room (xs ++ polC.w y)) :
    Calls Tryz.prog 19 #[.pointer (some ⟨B,0,none⟩),.agg #[.string (bytesT y.name),.int .i64 y.weight,.int .i64 y.limit.1,.int .i64 y.limit.2,u0,u1,.int .i64 y.gen,.int .i64 y.expire,.int .i64 y.budget,.int .i64 y.merge]] w fun e w' => e = .returned (.tuple #[]) /\ Wr W0 B (xs ++ polC.w y) cs w' := by
  have HE : Hid (xs ++ txtC.w y.name ++ numC.w y.weight ++ amtC.w y.limit ++ (listC reqC).w y.reqs ++ [UInt8.ofNat y.taints.length] ++ manyW labC y.taints ++ numC.w y.gen ++ numC.w y.expire ++ numC.w y.budget ++ numC.w y.merge = xs ++ polC.w y) := by show _ = _; simp only [List.append_assoc]; rfl
  have HL : Hid (Room (xs ++ txtC.w y.name ++ numC.w y.weight ++ amtC.w y.limit ++ (listC reqC).w y.reqs ++ [UInt8.ofNat y.taints.length] ++ manyW labC y.taints ++ numC.w y.gen ++ numC.w y.expire ++ numC.w y.budget ++ numC.w y.merge)) := by show Room _; rw [unhide HE]; exact hl
  have HUu0 := hide hu0
  have HUu1 := hide hu1
  have hlen4 := hu1.len
  obtain ⟨a4,q4,rfl⟩ := hu1.val
  obtain ⟨n4,hn4⟩ : ∃ n,n = y.taints.length := ⟨_,rfl⟩
  rw [<- hn4] at HE HL HUu1 hlen4 hu1 ⊢
  have HN4 := hide hn4
  clear hn4
  have H0 := hide (h.box [.string (bytesT y.name),.int .i64 y.weight,.int .i64 y.limit.1,.int .i64 y.limit.2,u0,.slice a4 n4 q4,.int .i64 y.gen,.int .i64 y.expire,.int .i64 y.budget,.int .i64 y.merge] 32)
  clear h hl hu0 hu1
  go_enter Tryz.func19,Tryz.ntmps19
  go_wp2_with fail
  refine (dw_text y.name (unhide H0) (room_pre (room_pre (room_pre (room_pre (room_pre (room_pre (room_pre (room_pre (room_pre (unhide HL))))))))))).mono ?_
  rintro e w1 ⟨rfl,hw⟩
  have c1 : w1.cell? ⟨w.heap.size,1,none⟩ = some (.int .i64 y.weight) := hw.at 1 rfl
  have H1 := hide hw
  clear hw H0
  go_wp2_with fail
  refine (dw_num y.weight (unhide H1) (room_pre (room_pre (room_pre (room_pre (room_pre (room_pre (room_pre (room_pre (unhide HL)))))))))).mono ?_
  rintro e w2 ⟨rfl,hw⟩
  clear c1
  have c2 : w2.cell? ⟨w.heap.size,2,none⟩ = some (.int .i64 y.limit.1) := hw.at 2 rfl
  have c3 : w2.cell? ⟨w.heap.size,3,none⟩ = some (.int .i64 y.limit.2) := hw.at 3 rfl
  have H2 := hide hw
  clear hw H1
  go_wp2_with fail
  refine (dw_amt y.limit (unhide H2) (room_pre (room_pre (room_pre (room_pre (room_pre (room_pre (room_pre (unhide HL))))))))).mono ?_
  rintro e w3 ⟨rfl,hw⟩
  clear c2 c3
  have c4 : w3.cell? ⟨w.heap.size,4,none⟩ = some (u0) := hw.at 4 rfl
  have H3 := hide hw
  clear hw H2
  go_wp2_with fail
  refine (dw_Lreq y.reqs u0 (unhide HUu0) (unhide H3) (room_pre (room_pre (room_pre (room_pre (room_pre (room_pre (unhide HL)))))))).mono ?_
  rintro e w4 ⟨rfl,hw⟩
  clear c4
  have c5 : w4.cell? ⟨w.heap.size,5,none⟩ = some (.slice a4 n4 q4) := hw.at 5 rfl
  have H4 := hide hw
  clear hw H3
  go_wp2_with fail
  refine (dw_len n4 (unhide H4) (room_pre (room_pre (room_pre (room_pre (room_pre (unhide HL))))))).mono ?_
  rintro e w5 ⟨rfl,hw⟩
  clear c5
  have c5 : w5.cell? ⟨w.heap.size,5,none⟩ = some (.slice a4 n4 q4) := hw.at 5 rfl
  have H5 := hide hw
  clear hw H4
  go_wp2_with fail
  clear c5
  go_loopw [30] (fun i W => ∃ k : Nat,k <= n4 /\ i = .int .i64 k /\ Hid (Wr W0 B (xs ++ txtC.w y.name ++ numC.w y.weight ++ amtC.w y.limit ++ (listC reqC).w y.reqs ++ [UInt8.ofNat n4] ++ manyW labC (y.taints.take k)) (boxC w.heap.size 0 [.string (bytesT y.name),.int .i64 y.weight,.int .i64 y.limit.1,.int .i64 y.limit.2,u0,.slice a4 n4 q4,.int .i64 y.gen,.int .i64 y.expire,.int .i64 y.budget,.int .i64 y.merge] ++ cs) W)) (fun i _ => n4 - (intOf i).toNat)
  case atStart => exact ⟨0,Nat.zero_le _,rfl,by show Wr _ _ _ _ _; rw [List.take_zero]; show Wr _ _ (xs ++ txtC.w y.name ++ numC.w y.weight ++ amtC.w y.limit ++ (listC reqC).w y.reqs ++ [UInt8.ofNat n4] ++ []) _ _; rw [List.append_nil]; exact unhide H5⟩
  case round =>
    clear H5
    obtain ⟨k,hk,rfl,hW⟩ := hrel
    by_cases hlt : k < n4
    · have hlk : k < y.taints.length := by rw [<- unhide HN4]; exact hlt
      obtain ⟨b,o,rfl,hat⟩ := (unhide HUu1).at hlk
      have hnx : Hid (manyW labC (y.taints.take (k + 1)) = manyW labC (y.taints.take k) ++ labC.w y.taints[k]) := many_next _ hlk
      have HLk : Hid (Room (xs ++ txtC.w y.name ++ numC.w y.weight ++ amtC.w y.limit ++ (listC reqC).w y.reqs ++ [UInt8.ofNat n4] ++ manyW labC (y.taints.take k) ++ labC.w y.taints[k])) := many_room hlk (room_pre (room_pre (room_pre (room_pre (unhide HL)))))
      obtain ⟨z,hz⟩ : ∃ z,z = y.taints[k] := ⟨_,rfl⟩
      rw [<- hz] at hat hnx HLk
      obtain ⟨⟨h0,_⟩,h1,_⟩ := lab_at.1 hat
      rw [show labK.size = 2 from rfl] at h0 h1
      replace h0 := cell_kept (unhide hW).gr h0
      replace h1 := cell_kept (unhide hW).gr h1
      have Hb := hide ((unhide hW).box [.string (bytesT z.1),.string (bytesT z.2)] 118)
      clear hz hat
      go_wp2_with fail
      have HF : Hid ((xs ++ txtC.w y.name ++ numC.w y.weight ++ amtC.w y.limit ++ (listC reqC).w y.reqs ++ [UInt8.ofNat n4] ++ manyW labC (y.taints.take k)) ++ txtC.w z.1 ++ txtC.w z.2 = (xs ++ txtC.w y.name ++ numC.w y.weight ++ amtC.w y.limit ++ (listC reqC).w y.reqs ++ [UInt8.ofNat n4] ++ manyW labC (y.taints.take k)) ++ labC.w z) := by show _ = _; simp only [List.append_assoc]; rfl
      have HG : Hid (Room ((xs ++ txtC.w y.name ++ numC.w y.weight ++ amtC.w y.limit ++ (listC reqC).w y.reqs ++ [UInt8.ofNat n4] ++ manyW labC (y.taints.take k)) ++ txtC.w z.1 ++ txtC.w z.2)) := by show Room _; rw [unhide HF]; exact unhide HLk
      refine (dw_text z.1 (unhide Hb) (room_pre (unhide HG))).mono ?_
      rintro e v1 ⟨rfl,hw⟩
      have g1 : v1.cell? ⟨wr.heap.size,1,none⟩ = some (.string (bytesT z.2)) := hw.at 1 rfl
      have Hb1 := hide hw
      clear hw Hb
      go_wp2_with fail
      refine (dw_text z.2 (unhide Hb1) (unhide HG)).mono ?_
      rintro e v2 ⟨rfl,hw⟩
      rw [unhide HF] at hw
      clear HF HG Hb1 g1
      replace hw := hw.drop
      rw [List.append_assoc,<- unhide hnx] at hw
      have Hn := hide hw
      clear hw
      go_wp2_with fail
      exact ⟨⟨k + 1,by omega,by go_num,Hn⟩,by simp [intOf]; omega⟩
    · obtain rfl : n4 = k := by omega
      have hf : Hid (Wr W0 B (xs ++ txtC.w y.name ++ numC.w y.weight ++ amtC.w y.limit ++ (listC reqC).w y.reqs ++ [UInt8.ofNat n4] ++ manyW labC y.taints) (boxC w.heap.size 0 [.string (bytesT y.name),.int .i64 y.weight,.int .i64 y.limit.1,.int .i64 y.limit.2,u0,.slice a4 n4 q4,.int .i64 y.gen,.int .i64 y.expire,.int .i64 y.budget,.int .i64 y.merge] ++ cs) wr) := by show Wr _ _ _ _ _; have := unhide hW; rwa [show y.taints.take n4 = y.taints from List.take_of_length_le (by rw [<- unhide HN4]; exact Nat.le_refl _)] at this
      clear hW
      have c6 : wr.cell? ⟨w.heap.size,6,none⟩ = some (.int .i64 y.gen) := (unhide hf).at 6 rfl
      have H6 := hf
      clear hf
      go_wp2_with fail
      refine (dw_num y.gen (unhide H6) (room_pre (room_pre (room_pre (unhide HL))))).mono ?_
      rintro e w7 ⟨rfl,hw⟩
      clear c6
      have c7 : w7.cell? ⟨w.heap.size,7,none⟩ = some (.int .i64 y.expire) := hw.at 7 rfl
      have H7 := hide hw
      clear hw H6
      go_wp2_with fail
      refine (dw_num y.expire (unhide H7) (room_pre (room_pre (unhide HL)))).mono ?_
      rintro e w8 ⟨rfl,hw⟩
      clear c7
      have c8 : w8.cell? ⟨w.heap.size,8,none⟩ = some (.int .i64 y.budget) := hw.at 8 rfl
      have H8 := hide hw
      clear hw H7
      go_wp2_with fail
      refine (dw_num y.budget (unhide H8) (room_pre (unhide HL))).mono ?_
      rintro e w9 ⟨rfl,hw⟩
      clear c8
      have c9 : w9.cell? ⟨w.heap.size,9,none⟩ = some (.int .i64 y.merge) := hw.at 9 rfl
      have H9 := hide hw
      clear hw H8
      go_wp2_with fail
      refine (dw_num y.merge (unhide H9) (unhide HL)).mono ?_
      rintro e w10 ⟨rfl,hw⟩
      have hz := hide hw
      clear hw c9
      go_wp2_with fail
      go_end0
      exact ⟨rfl,by rw [<- unhide HE]; exact (unhide hz).drop⟩
set_option maxRecDepth 100000 in
set_option maxHeartbeats 16000000 in
theorem dw_pod (y : VPod) (u0 : Value) (hu0 : Lst reqK W0 u0 y.reqs) (u1 : Value) (hu1 : Lst tolK W0 u1 y.tols) (u2 : Value) (hu2 : Lst sprK W0 u2 y.spread) (u3 : Value) (hu3 : Lst trmK W0 u3 y.near) (u4 : Value) (hu4 : Lst trmK W0 u4 y.apart) (h : Wr W0 B xs cs w) (hl : Room (xs ++ podC.w y)) :
    Calls Tryz.prog 18 #[.pointer (some ⟨B,0,none⟩),.agg #[.string (bytesT y.name),.string (bytesT y.app),.int .i64 y.need.1,.int .i64 y.need.2,.int .i64 y.prio,u0,u1,u2,u3,u4,.int .i64 y.since,.string (bytesT y.on)]] w fun e w' => e = .returned (.tuple #[]) /\ Wr W0 B (xs ++ podC.w y) cs w' := by
  have HE : Hid (xs ++ txtC.w y.name ++ txtC.w y.app ++ amtC.w y.need ++ numC.w y.prio ++ (listC reqC).w y.reqs ++ [UInt8.ofNat y.tols.length] ++ manyW tolC y.tols ++ [UInt8.ofNat y.spread.length] ++ manyW sprC y.spread ++ (listC labC).w y.near ++ (listC labC).w y.apart ++ numC.w y.since ++ txtC.w y.on = xs ++ podC.w y) := by show _ = _; simp only [List.append_assoc]; rfl
  have HL : Hid (Room (xs ++ txtC.w y.name ++ txtC.w y.app ++ amtC.w y.need ++ numC.w y.prio ++ (listC reqC).w y.reqs ++ [UInt8.ofNat y.tols.length] ++ manyW tolC y.tols ++ [UInt8.ofNat y.spread.length] ++ manyW sprC y.spread ++ (listC labC).w y.near ++ (listC labC).w y.apart ++ numC.w y.since ++ txtC.w y.on)) := by show Room _; rw [unhide HE]; exact hl
  have HUu0 := hide hu0
  have HUu1 := hide hu1
  have HUu2 := hide hu2
  have HUu3 := hide hu3
  have HUu4 := hide hu4
  have hlen5 := hu1.len
  obtain ⟨a5,q5,rfl⟩ := hu1.val
  obtain ⟨n5,hn5⟩ : ∃ n,n = y.tols.length := ⟨_,rfl⟩
  rw [<- hn5] at HE HL HUu1 hlen5 hu1 ⊢
  have HN5 := hide hn5
  clear hn5
  have hlen6 := hu2.len
  obtain ⟨a6,q6,rfl⟩ := hu2.val
  obtain ⟨n6,hn6⟩ : ∃ n,n = y.spread.length := ⟨_,rfl⟩
  rw [<- hn6] at HE HL HUu2 hlen6 hu2 ⊢
  have HN6 := hide hn6
  clear hn6
  have H0 := hide (h.box [.string (bytesT y.name),.string (bytesT y.app),.int .i64 y.need.1,.int .i64 y.need.2,.int .i64 y.prio,u0,.slice a5 n5 q5,.slice a6 n6 q6,u3,u4,.int .i64 y.since,.string (bytesT y.on)] 29)
  clear h hl hu0 hu1 hu2 hu3 hu4
  go_enter Tryz.func18,Tryz.ntmps18
  go_wp2_with fail
  refine (dw_text y.name (unhide H0) (room_pre (room_pre (room_pre (room_pre (room_pre (room_pre (room_pre (room_pre (room_pre (room_pre (room_pre (room_pre (unhide HL)))))))))))))).mono ?_
  rintro e w1 ⟨rfl,hw⟩
  have c1 : w1.cell? ⟨w.heap.size,1,none⟩ = some (.string (bytesT y.app)) := hw.at 1 rfl
  have H1 := hide hw
  clear hw H0
  go_wp2_with fail
  refine (dw_text y.app (unhide H1) (room_pre (room_pre (room_pre (room_pre (room_pre (room_pre (room_pre (room_pre (room_pre (room_pre (room_pre (unhide HL))))))))))))).mono ?_
  rintro e w2 ⟨rfl,hw⟩
  clear c1
  have c2 : w2.cell? ⟨w.heap.size,2,none⟩ = some (.int .i64 y.need.1) := hw.at 2 rfl
  have c3 : w2.cell? ⟨w.heap.size,3,none⟩ = some (.int .i64 y.need.2) := hw.at 3 rfl
  have H2 := hide hw
  clear hw H1
  go_wp2_with fail
  refine (dw_amt y.need (unhide H2) (room_pre (room_pre (room_pre (room_pre (room_pre (room_pre (room_pre (room_pre (room_pre (room_pre (unhide HL)))))))))))).mono ?_
  rintro e w3 ⟨rfl,hw⟩
  clear c2 c3
  have c4 : w3.cell? ⟨w.heap.size,4,none⟩ = some (.int .i64 y.prio) := hw.at 4 rfl
  have H3 := hide hw
  clear hw H2
  go_wp2_with fail
  refine (dw_num y.prio (unhide H3) (room_pre (room_pre (room_pre (room_pre (room_pre (room_pre (room_pre (room_pre (room_pre (unhide HL))))))))))).mono ?_
  rintro e w4 ⟨rfl,hw⟩
  clear c4
  have c5 : w4.cell? ⟨w.heap.size,5,none⟩ = some (u0) := hw.at 5 rfl
  have H4 := hide hw
  clear hw H3
  go_wp2_with fail
  refine (dw_Lreq y.reqs u0 (unhide HUu0) (unhide H4) (room_pre (room_pre (room_pre (room_pre (room_pre (room_pre (room_pre (room_pre (unhide HL)))))))))).mono ?_
  rintro e w5 ⟨rfl,hw⟩
  clear c5
  have c6 : w5.cell? ⟨w.heap.size,6,none⟩ = some (.slice a5 n5 q5) := hw.at 6 rfl
  have H5 := hide hw
  clear hw H4
  go_wp2_with fail
  refine (dw_len n5 (unhide H5) (room_pre (room_pre (room_pre (room_pre (room_pre (room_pre (room_pre (unhide HL))))))))).mono ?_
  rintro e w6 ⟨rfl,hw⟩
  clear c6
  have c6 : w6.cell? ⟨w.heap.size,6,none⟩ = some (.slice a5 n5 q5) := hw.at 6 rfl
  have H6 := hide hw
  clear hw H5
  go_wp2_with fail
  clear c6
  go_loopw [36] (fun i W => ∃ k : Nat,k <= n5 /\ i = .int .i64 k /\ Hid (Wr W0 B (xs ++ txtC.w y.name ++ txtC.w y.app ++ amtC.w y.need ++ numC.w y.prio ++ (listC reqC).w y.reqs ++ [UInt8.ofNat n5] ++ manyW tolC (y.tols.take k)) (boxC w.heap.size 0 [.string (bytesT y.name),.string (bytesT y.app),.int .i64 y.need.1,.int .i64 y.need.2,.int .i64 y.prio,u0,.slice a5 n5 q5,.slice a6 n6 q6,u3,u4,.int .i64 y.since,.string (bytesT y.on)] ++ cs) W)) (fun i _ => n5 - (intOf i).toNat)
  case atStart => exact ⟨0,Nat.zero_le _,rfl,by show Wr _ _ _ _ _; rw [List.take_zero]; show Wr _ _ (xs ++ txtC.w y.name ++ txtC.w y.app ++ amtC.w y.need ++ numC.w y.prio ++ (listC reqC).w y.reqs ++ [UInt8.ofNat n5] ++ []) _ _; rw [List.append_nil]; exact unhide H6⟩
  case round =>
    clear H6
    obtain ⟨k,hk,rfl,hW⟩ := hrel
    by_cases hlt : k < n5
    · have hlk : k < y.tols.length := by rw [<- unhide HN5]; exact hlt
      obtain ⟨b,o,rfl,hat⟩ := (unhide HUu1).at hlk
      have hnx : Hid (manyW tolC (y.tols.take (k + 1)) = manyW tolC (y.tols.take k) ++ tolC.w y.tols[k]) := many_next _ hlk
      have HLk : Hid (Room (xs ++ txtC.w y.name ++ txtC.w y.app ++ amtC.w y.need ++ numC.w y.prio ++ (listC reqC).w y.reqs ++ [UInt8.ofNat n5] ++ manyW tolC (y.tols.take k) ++ tolC.w y.tols[k])) := many_room hlk (room_pre (room_pre (room_pre (room_pre (room_pre (room_pre (unhide HL)))))))
      obtain ⟨z,hz⟩ : ∃ z,z = y.tols[k] := ⟨_,rfl⟩
      rw [<- hz] at hat hnx HLk
      obtain ⟨⟨h0,_⟩,⟨h1,_⟩,h2⟩ := tol_at.1 hat
      rw [show tolK.size = 3 from rfl] at h0 h1 h2
      replace h0 := cell_kept (unhide hW).gr h0
      replace h1 := cell_kept (unhide hW).gr h1
      replace h2 := cell_kept (unhide hW).gr h2
      have Hb := hide ((unhide hW).box [.string (bytesT z.1),.string (bytesT z.2.1),.bool z.2.2] 112)
      clear hz hat
      go_wp2_with fail
      have HF : Hid ((xs ++ txtC.w y.name ++ txtC.w y.app ++ amtC.w y.need ++ numC.w y.prio ++ (listC reqC).w y.reqs ++ [UInt8.ofNat n5] ++ manyW tolC (y.tols.take k)) ++ txtC.w z.1 ++ txtC.w z.2.1 ++ truthC.w z.2.2 = (xs ++ txtC.w y.name ++ txtC.w y.app ++ amtC.w y.need ++ numC.w y.prio ++ (listC reqC).w y.reqs ++ [UInt8.ofNat n5] ++ manyW tolC (y.tols.take k)) ++ tolC.w z) := by show _ = _; simp only [List.append_assoc]; rfl
      have HG : Hid (Room ((xs ++ txtC.w y.name ++ txtC.w y.app ++ amtC.w y.need ++ numC.w y.prio ++ (listC reqC).w y.reqs ++ [UInt8.ofNat n5] ++ manyW tolC (y.tols.take k)) ++ txtC.w z.1 ++ txtC.w z.2.1 ++ truthC.w z.2.2)) := by show Room _; rw [unhide HF]; exact unhide HLk
      refine (dw_text z.1 (unhide Hb) (room_pre (room_pre (unhide HG)))).mono ?_
      rintro e v1 ⟨rfl,hw⟩
      have g1 : v1.cell? ⟨wr.heap.size,1,none⟩ = some (.string (bytesT z.2.1)) := hw.at 1 rfl
      have Hb1 := hide hw
      clear hw Hb
      go_wp2_with fail
      refine (dw_text z.2.1 (unhide Hb1) (room_pre (unhide HG))).mono ?_
      rintro e v2 ⟨rfl,hw⟩
      have g2 : v2.cell? ⟨wr.heap.size,2,none⟩ = some (.bool z.2.2) := hw.at 2 rfl
      have Hb2 := hide hw
      clear hw Hb1 g1
      go_wp2_with fail
      refine (dw_truth z.2.2 (unhide Hb2) (unhide HG)).mono ?_
      rintro e v3 ⟨rfl,hw⟩
      rw [unhide HF] at hw
      clear HF HG Hb2 g2
      replace hw := hw.drop
      rw [List.append_assoc,<- unhide hnx] at hw
      have Hn := hide hw
      clear hw
      go_wp2_with fail
      exact ⟨⟨k + 1,by omega,by go_num,Hn⟩,by simp [intOf]; omega⟩
    · obtain rfl : n5 = k := by omega
      have hf : Hid (Wr W0 B (xs ++ txtC.w y.name ++ txtC.w y.app ++ amtC.w y.need ++ numC.w y.prio ++ (listC reqC).w y.reqs ++ [UInt8.ofNat n5] ++ manyW tolC y.tols) (boxC w.heap.size 0 [.string (bytesT y.name),.string (bytesT y.app),.int .i64 y.need.1,.int .i64 y.need.2,.int .i64 y.prio,u0,.slice a5 n5 q5,.slice a6 n6 q6,u3,u4,.int .i64 y.since,.string (bytesT y.on)] ++ cs) wr) := by show Wr _ _ _ _ _; have := unhide hW; rwa [show y.tols.take n5 = y.tols from List.take_of_length_le (by rw [<- unhide HN5]; exact Nat.le_refl _)] at this
      clear hW
      have c7 : wr.cell? ⟨w.heap.size,7,none⟩ = some (.slice a6 n6 q6) := (unhide hf).at 7 rfl
      have H7 := hf
      clear hf
      go_wp2_with fail
      refine (dw_len n6 (unhide H7) (room_pre (room_pre (room_pre (room_pre (room_pre (unhide HL))))))).mono ?_
      rintro e w8 ⟨rfl,hw⟩
      clear c7
      have c7 : w8.cell? ⟨w.heap.size,7,none⟩ = some (.slice a6 n6 q6) := hw.at 7 rfl
      have H8 := hide hw
      clear hw H7
      go_wp2_with fail
      clear c7
      go_loopw [61] (fun i W => ∃ k : Nat,k <= n6 /\ i = .int .i64 k /\ Hid (Wr W0 B (xs ++ txtC.w y.name ++ txtC.w y.app ++ amtC.w y.need ++ numC.w y.prio ++ (listC reqC).w y.reqs ++ [UInt8.ofNat n5] ++ manyW tolC y.tols ++ [UInt8.ofNat n6] ++ manyW sprC (y.spread.take k)) (boxC w.heap.size 0 [.string (bytesT y.name),.string (bytesT y.app),.int .i64 y.need.1,.int .i64 y.need.2,.int .i64 y.prio,u0,.slice a5 n5 q5,.slice a6 n6 q6,u3,u4,.int .i64 y.since,.string (bytesT y.on)] ++ cs) W)) (fun i _ => n6 - (intOf i).toNat)
      case atStart => exact ⟨0,Nat.zero_le _,rfl,by show Wr _ _ _ _ _; rw [List.take_zero]; show Wr _ _ (xs ++ txtC.w y.name ++ txtC.w y.app ++ amtC.w y.need ++ numC.w y.prio ++ (listC reqC).w y.reqs ++ [UInt8.ofNat n5] ++ manyW tolC y.tols ++ [UInt8.ofNat n6] ++ []) _ _; rw [List.append_nil]; exact unhide H8⟩
      case round =>
        clear H8
        obtain ⟨k,hk,rfl,hW⟩ := hrel
        by_cases hlt : k < n6
        · have hlk : k < y.spread.length := by rw [<- unhide HN6]; exact hlt
          obtain ⟨b,o,rfl,hat⟩ := (unhide HUu2).at hlk
          have hnx : Hid (manyW sprC (y.spread.take (k + 1)) = manyW sprC (y.spread.take k) ++ sprC.w y.spread[k]) := many_next _ hlk
          have HLk : Hid (Room (xs ++ txtC.w y.name ++ txtC.w y.app ++ amtC.w y.need ++ numC.w y.prio ++ (listC reqC).w y.reqs ++ [UInt8.ofNat n5] ++ manyW tolC y.tols ++ [UInt8.ofNat n6] ++ manyW sprC (y.spread.take k) ++ sprC.w y.spread[k])) := many_room hlk (room_pre (room_pre (room_pre (room_pre (unhide HL)))))
          obtain ⟨z,hz⟩ : ∃ z,z = y.spread[k] := ⟨_,rfl⟩
          rw [<- hz] at hat hnx HLk
          obtain ⟨⟨h0,_⟩,⟨h1,_⟩,h2⟩ := spr_at.1 hat
          rw [show sprK.size = 3 from rfl] at h0 h1 h2
          replace h0 := cell_kept (unhide hW).gr h0
          replace h1 := cell_kept (unhide hW).gr h1
          replace h2 := cell_kept (unhide hW).gr h2
          have Hb := hide ((unhide hW).box [.string (bytesT z.1),.string (bytesT z.2.1),.int .i64 z.2.2] 115)
          clear hz hat
          go_wp2_with fail
          have HF : Hid ((xs ++ txtC.w y.name ++ txtC.w y.app ++ amtC.w y.need ++ numC.w y.prio ++ (listC reqC).w y.reqs ++ [UInt8.ofNat n5] ++ manyW tolC y.tols ++ [UInt8.ofNat n6] ++ manyW sprC (y.spread.take k)) ++ txtC.w z.1 ++ txtC.w z.2.1 ++ numC.w z.2.2 = (xs ++ txtC.w y.name ++ txtC.w y.app ++ amtC.w y.need ++ numC.w y.prio ++ (listC reqC).w y.reqs ++ [UInt8.ofNat n5] ++ manyW tolC y.tols ++ [UInt8.ofNat n6] ++ manyW sprC (y.spread.take k)) ++ sprC.w z) := by show _ = _; simp only [List.append_assoc]; rfl
          have HG : Hid (Room ((xs ++ txtC.w y.name ++ txtC.w y.app ++ amtC.w y.need ++ numC.w y.prio ++ (listC reqC).w y.reqs ++ [UInt8.ofNat n5] ++ manyW tolC y.tols ++ [UInt8.ofNat n6] ++ manyW sprC (y.spread.take k)) ++ txtC.w z.1 ++ txtC.w z.2.1 ++ numC.w z.2.2)) := by show Room _; rw [unhide HF]; exact unhide HLk
          refine (dw_text z.1 (unhide Hb) (room_pre (room_pre (unhide HG)))).mono ?_
          rintro e v1 ⟨rfl,hw⟩
          have g1 : v1.cell? ⟨wr.heap.size,1,none⟩ = some (.string (bytesT z.2.1)) := hw.at 1 rfl
          have Hb1 := hide hw
          clear hw Hb
          go_wp2_with fail
          refine (dw_text z.2.1 (unhide Hb1) (room_pre (unhide HG))).mono ?_
          rintro e v2 ⟨rfl,hw⟩
          have g2 : v2.cell? ⟨wr.heap.size,2,none⟩ = some (.int .i64 z.2.2) := hw.at 2 rfl
          have Hb2 := hide hw
          clear hw Hb1 g1
          go_wp2_with fail
          refine (dw_num z.2.2 (unhide Hb2) (unhide HG)).mono ?_
          rintro e v3 ⟨rfl,hw⟩
          rw [unhide HF] at hw
          clear HF HG Hb2 g2
          replace hw := hw.drop
          rw [List.append_assoc,<- unhide hnx] at hw
          have Hn := hide hw
          clear hw
          go_wp2_with fail
          exact ⟨⟨k + 1,by omega,by go_num,Hn⟩,by simp [intOf]; omega⟩
        · obtain rfl : n6 = k := by omega
          have hf : Hid (Wr W0 B (xs ++ txtC.w y.name ++ txtC.w y.app ++ amtC.w y.need ++ numC.w y.prio ++ (listC reqC).w y.reqs ++ [UInt8.ofNat n5] ++ manyW tolC y.tols ++ [UInt8.ofNat n6] ++ manyW sprC y.spread) (boxC w.heap.size 0 [.string (bytesT y.name),.string (bytesT y.app),.int .i64 y.need.1,.int .i64 y.need.2,.int .i64 y.prio,u0,.slice a5 n5 q5,.slice a6 n6 q6,u3,u4,.int .i64 y.since,.string (bytesT y.on)] ++ cs) wr) := by show Wr _ _ _ _ _; have := unhide hW; rwa [show y.spread.take n6 = y.spread from List.take_of_length_le (by rw [<- unhide HN6]; exact Nat.le_refl _)] at this
          clear hW
          have c8 : wr.cell? ⟨w.heap.size,8,none⟩ = some (u3) := (unhide hf).at 8 rfl
          have H9 := hf
          clear hf
          go_wp2_with fail
          refine (dw_Ltrm y.near u3 (unhide HUu3) (unhide H9) (room_pre (room_pre (room_pre (unhide HL))))).mono ?_
          rintro e w10 ⟨rfl,hw⟩
          clear c8
          have c9 : w10.cell? ⟨w.heap.size,9,none⟩ = some (u4) := hw.at 9 rfl
          have H10 := hide hw
          clear hw H9
          go_wp2_with fail
          refine (dw_Ltrm y.apart u4 (unhide HUu4) (unhide H10) (room_pre (room_pre (unhide HL)))).mono ?_
          rintro e w11 ⟨rfl,hw⟩
          clear c9
          have c10 : w11.cell? ⟨w.heap.size,10,none⟩ = some (.int .i64 y.since) := hw.at 10 rfl
          have H11 := hide hw
          clear hw H10
          go_wp2_with fail
          refine (dw_num y.since (unhide H11) (room_pre (unhide HL))).mono ?_
          rintro e w12 ⟨rfl,hw⟩
          clear c10
          have c11 : w12.cell? ⟨w.heap.size,11,none⟩ = some (.string (bytesT y.on)) := hw.at 11 rfl
          have H12 := hide hw
          clear hw H11
          go_wp2_with fail
          refine (dw_text y.on (unhide H12) (unhide HL)).mono ?_
          rintro e w13 ⟨rfl,hw⟩
          have hz := hide hw
          clear hw c11
          go_wp2_with fail
          go_end0
          exact ⟨rfl,by rw [<- unhide HE]; exact (unhide hz).drop⟩
end
end Go.Proofs.YtfpfdnapamdhjaaGreatDoor

/- Layer 9: the document's Encode,kind by kind -/
namespace Go.Proofs.YtfpfdnapamdhjaaGreatDoor
open Go.RowKit Suf Val

/-- What an Encode comes to: the bytes,in a row of the call's own; or the error. -/
def EncQ (z : Int) (T : Txt) (w : World) (e : Ending) (w' : World) : Prop := Below w.heap.size w w' /\ ((z = 0 /\ ∃ a n c,e = .returned (.tuple #[.slice a n c,.int .i64 0]) /\ n = T.length /\ w'.ownsRow w.heap.size 5 1 (.slice a n c) n (u8s T)) ∨ (¬ z = 0 /\ e = .returned (.tuple #[.slice none 0 0,.int .i64 z])))
theorem encq_row {W w3 : World} {N : Nat} {a : Option Addr} {n c : Nat} {T : Txt} (h0 : w3.ownsRow W.heap.size 5 1 (.slice a n c) ([] ++ T).length (u8s ([] ++ T))) (hN : N <= W.heap.size) : n = T.length /\ w3.ownsRow N 5 1 (.slice a n c) n (u8s T) := by
  rw [List.nil_append] at h0
  have hn3 : n = T.length := by
    rcases h0.2 with ⟨e,h1⟩ | ⟨_,_,_,e,_⟩
    · injection e with e1 e2 e3; omega
    · injection e with e1 e2 e3
  refine ⟨hn3,?_⟩
  rw [<- hn3] at h0
  refine ⟨h0.1,h0.2.imp id ?_⟩
  rintro ⟨g,cap,cur,e,hg,rest⟩
  exact ⟨g,cap,cur,e,Nat.le_trans hN hg,rest⟩
set_option maxRecDepth 100000 in
set_option maxHeartbeats 16000000 in
theorem renc_1 (q1 q2 q3 q4 q5 q6 q7 q8 q9 q10 q11 q12 q13 q14 q15 q16 q17 q18 q19 q20 q21 q22 q23 q24 q25 q26 q27 q28 q29 q30 q31 q32 q33 q34 q35 q36 q37 q38 q39 q40 q41 q42 q43 q44 q45 q46 q47 q48 q49 : Value) (z : Int) (T : Txt) (w : World) (hC : ∀ V,Below w.heap.size w V -> Calls Tryz.prog 17 #[.agg #[.int .i64 1,q1,q2,q3,q4,q5,q6,q7,q8,q9,q10,q11,q12,q13,q14,q15,q16,q17,q18,q19,q20,q21,q22,q23,q24,q25,q26,q27,q28,q29,q30,q31,q32,q33,q34,q35,q36,q37,q38,q39,q40,q41,q42,q43,q44,q45,q46,q47,q48,q49]] V fun e w' => e = .returned (.int .i64 z) /\ Below V.heap.size V w')
    (hW : ∀ W0 B xs cs W,Below w.heap.size w W0 -> Wr W0 B xs cs W -> Room (xs ++ T) -> Calls Tryz.prog 18 #[.pointer (some ⟨B,0,none⟩),.agg #[q1,q2,q3,q4,q5,q6,q7,q8,q9,q10,q11,q12]] W fun e w' => e = .returned (.tuple #[]) /\ Wr W0 B (xs ++ T) cs w')
    (hR : z = 0 -> Room ([] ++ T)) :
    Calls Tryz.prog 10 #[.agg #[.int .i64 1,q1,q2,q3,q4,q5,q6,q7,q8,q9,q10,q11,q12,q13,q14,q15,q16,q17,q18,q19,q20,q21,q22,q23,q24,q25,q26,q27,q28,q29,q30,q31,q32,q33,q34,q35,q36,q37,q38,q39,q40,q41,q42,q43,q44,q45,q46,q47,q48,q49]] w (EncQ z T w) := by
  have HC := hide hC
  have HW := hide hW
  have HR := hide hR
  clear hC hW hR
  obtain ⟨W1,hW1⟩ : ∃ W,W = w.alloc (.cells #[.int .i64 1,q1,q2,q3,q4,q5,q6,q7,q8,q9,q10,q11,q12,q13,q14,q15,q16,q17,q18,q19,q20,q21,q22,q23,q24,q25,q26,q27,q28,q29,q30,q31,q32,q33,q34,q35,q36,q37,q38,q39,q40,q41,q42,q43,q44,q45,q46,q47,q48,q49] 44) := ⟨_,rfl⟩
  have HA : Hid (RowAt w w.heap.size #[.int .i64 1,q1,q2,q3,q4,q5,q6,q7,q8,q9,q10,q11,q12,q13,q14,q15,q16,q17,q18,q19,q20,q21,q22,q23,q24,q25,q26,q27,q28,q29,q30,q31,q32,q33,q34,q35,q36,q37,q38,q39,q40,q41,q42,q43,q44,q45,q46,q47,q48,q49] 44 W1) := by show RowAt _ _ _ _ _; rw [hW1]; exact row_new _ _ _
  have GW := hide hW1
  clear hW1
  go_enter Tryz.func10,Tryz.ntmps10
  go_upto_region 1 with fail
  rw [<- unhide GW]
  clear GW
  refine wp_region_list ?_
  refine wpList_load_row rfl 44 _ rfl w.heap.size rfl 44 _ _ _ (unhide HA).row Tryz.underlying44 rfl (by kernel_rfl) ?_
  go_wp2_with fail
  refine (unhide HC _ (unhide HA).gr).mono ?_
  rintro e w2 ⟨rfl,hb⟩
  have HA2 := hide ((unhide HA).below hb)
  clear hb HA HC
  by_cases hz : z = 0
  · have HRR := hide (unhide HR hz)
    subst hz
    have hn := wr_new w2 71
    have c0 := cell_kept (boxw (w := w2) (.cells #[.slice none 0 0] 71)) ((unhide HA2).at 0 (v := .int .i64 1) rfl)
    have c1 := cell_kept (boxw (w := w2) (.cells #[.slice none 0 0] 71)) ((unhide HA2).at 1 (v := q1) rfl)
    have c2 := cell_kept (boxw (w := w2) (.cells #[.slice none 0 0] 71)) ((unhide HA2).at 2 (v := q2) rfl)
    have c3 := cell_kept (boxw (w := w2) (.cells #[.slice none 0 0] 71)) ((unhide HA2).at 3 (v := q3) rfl)
    have c4 := cell_kept (boxw (w := w2) (.cells #[.slice none 0 0] 71)) ((unhide HA2).at 4 (v := q4) rfl)
    have c5 := cell_kept (boxw (w := w2) (.cells #[.slice none 0 0] 71)) ((unhide HA2).at 5 (v := q5) rfl)
    have c6 := cell_kept (boxw (w := w2) (.cells #[.slice none 0 0] 71)) ((unhide HA2).at 6 (v := q6) rfl)
    have c7 := cell_kept (boxw (w := w2) (.cells #[.slice none 0 0] 71)) ((unhide HA2).at 7 (v := q7) rfl)
    have c8 := cell_kept (boxw (w := w2) (.cells #[.slice none 0 0] 71)) ((unhide HA2).at 8 (v := q8) rfl)
    have c9 := cell_kept (boxw (w := w2) (.cells #[.slice none 0 0] 71)) ((unhide HA2).at 9 (v := q9) rfl)
    have c10 := cell_kept (boxw (w := w2) (.cells #[.slice none 0 0] 71)) ((unhide HA2).at 10 (v := q10) rfl)
    have c11 := cell_kept (boxw (w := w2) (.cells #[.slice none 0 0] 71)) ((unhide HA2).at 11 (v := q11) rfl)
    have c12 := cell_kept (boxw (w := w2) (.cells #[.slice none 0 0] 71)) ((unhide HA2).at 12 (v := q12) rfl)
    have HN := hide hn
    clear hn
    go_wp2_with fail
    refine (unhide HW w2 w2.heap.size [] [] _ (unhide HA2).gr (unhide HN) (unhide HRR)).mono ?_
    rintro e w3 ⟨rfl,hw⟩
    obtain ⟨v,hv,ho,_⟩ := hw.row
    obtain ⟨a,n,c,rfl⟩ := owns_form ho
    have hb2 := hide ((unhide HA2).gr.trans (hw.gr.mono (unhide HA2).gr.size))
    have HO := hide ho
    clear ho hw HN c0 c1 c2 c3 c4 c5 c6 c7 c8 c9 c10 c11 c12
    go_wp2_with fail
    go_ret2
    refine ⟨unhide hb2,.inl ⟨rfl,a,n,c,rfl,?_⟩⟩
    exact encq_row (unhide HO) (unhide HA2).gr.size
  · have HZ := hide hz
    have hb := bne_iff_ne.2 hz
    clear hz
    go_wp2_with fail
    go_ret2
    exact ⟨(unhide HA2).gr,.inr ⟨unhide HZ,rfl⟩⟩
set_option maxRecDepth 100000 in
set_option maxHeartbeats 16000000 in
theorem renc_2 (q1 q2 q3 q4 q5 q6 q7 q8 q9 q10 q11 q12 q13 q14 q15 q16 q17 q18 q19 q20 q21 q22 q23 q24 q25 q26 q27 q28 q29 q30 q31 q32 q33 q34 q35 q36 q37 q38 q39 q40 q41 q42 q43 q44 q45 q46 q47 q48 q49 : Value) (z : Int) (T : Txt) (w : World) (hC : ∀ V,Below w.heap.size w V -> Calls Tryz.prog 17 #[.agg #[.int .i64 2,q1,q2,q3,q4,q5,q6,q7,q8,q9,q10,q11,q12,q13,q14,q15,q16,q17,q18,q19,q20,q21,q22,q23,q24,q25,q26,q27,q28,q29,q30,q31,q32,q33,q34,q35,q36,q37,q38,q39,q40,q41,q42,q43,q44,q45,q46,q47,q48,q49]] V fun e w' => e = .returned (.int .i64 z) /\ Below V.heap.size V w')
    (hW : ∀ W0 B xs cs W,Below w.heap.size w W0 -> Wr W0 B xs cs W -> Room (xs ++ T) -> Calls Tryz.prog 19 #[.pointer (some ⟨B,0,none⟩),.agg #[q13,q14,q15,q16,q17,q18,q19,q20,q21,q22]] W fun e w' => e = .returned (.tuple #[]) /\ Wr W0 B (xs ++ T) cs w')
    (hR : z = 0 -> Room ([] ++ T)) :
    Calls Tryz.prog 10 #[.agg #[.int .i64 2,q1,q2,q3,q4,q5,q6,q7,q8,q9,q10,q11,q12,q13,q14,q15,q16,q17,q18,q19,q20,q21,q22,q23,q24,q25,q26,q27,q28,q29,q30,q31,q32,q33,q34,q35,q36,q37,q38,q39,q40,q41,q42,q43,q44,q45,q46,q47,q48,q49]] w (EncQ z T w) := by
  have HC := hide hC
  have HW := hide hW
  have HR := hide hR
  clear hC hW hR
  obtain ⟨W1,hW1⟩ : ∃ W,W = w.alloc (.cells #[.int .i64 2,q1,q2,q3,q4,q5,q6,q7,q8,q9,q10,q11,q12,q13,q14,q15,q16,q17,q18,q19,q20,q21,q22,q23,q24,q25,q26,q27,q28,q29,q30,q31,q32,q33,q34,q35,q36,q37,q38,q39,q40,q41,q42,q43,q44,q45,q46,q47,q48,q49] 44) := ⟨_,rfl⟩
  have HA : Hid (RowAt w w.heap.size #[.int .i64 2,q1,q2,q3,q4,q5,q6,q7,q8,q9,q10,q11,q12,q13,q14,q15,q16,q17,q18,q19,q20,q21,q22,q23,q24,q25,q26,q27,q28,q29,q30,q31,q32,q33,q34,q35,q36,q37,q38,q39,q40,q41,q42,q43,q44,q45,q46,q47,q48,q49] 44 W1) := by show RowAt _ _ _ _ _; rw [hW1]; exact row_new _ _ _
  have GW := hide hW1
  clear hW1
  go_enter Tryz.func10,Tryz.ntmps10
  go_upto_region 1 with fail
  rw [<- unhide GW]
  clear GW
  refine wp_region_list ?_
  refine wpList_load_row rfl 44 _ rfl w.heap.size rfl 44 _ _ _ (unhide HA).row Tryz.underlying44 rfl (by kernel_rfl) ?_
  go_wp2_with fail
  refine (unhide HC _ (unhide HA).gr).mono ?_
  rintro e w2 ⟨rfl,hb⟩
  have HA2 := hide ((unhide HA).below hb)
  clear hb HA HC
  by_cases hz : z = 0
  · have HRR := hide (unhide HR hz)
    subst hz
    have hn := wr_new w2 71
    have c0 := cell_kept (boxw (w := w2) (.cells #[.slice none 0 0] 71)) ((unhide HA2).at 0 (v := .int .i64 2) rfl)
    have c13 := cell_kept (boxw (w := w2) (.cells #[.slice none 0 0] 71)) ((unhide HA2).at 13 (v := q13) rfl)
    have c14 := cell_kept (boxw (w := w2) (.cells #[.slice none 0 0] 71)) ((unhide HA2).at 14 (v := q14) rfl)
    have c15 := cell_kept (boxw (w := w2) (.cells #[.slice none 0 0] 71)) ((unhide HA2).at 15 (v := q15) rfl)
    have c16 := cell_kept (boxw (w := w2) (.cells #[.slice none 0 0] 71)) ((unhide HA2).at 16 (v := q16) rfl)
    have c17 := cell_kept (boxw (w := w2) (.cells #[.slice none 0 0] 71)) ((unhide HA2).at 17 (v := q17) rfl)
    have c18 := cell_kept (boxw (w := w2) (.cells #[.slice none 0 0] 71)) ((unhide HA2).at 18 (v := q18) rfl)
    have c19 := cell_kept (boxw (w := w2) (.cells #[.slice none 0 0] 71)) ((unhide HA2).at 19 (v := q19) rfl)
    have c20 := cell_kept (boxw (w := w2) (.cells #[.slice none 0 0] 71)) ((unhide HA2).at 20 (v := q20) rfl)
    have c21 := cell_kept (boxw (w := w2) (.cells #[.slice none 0 0] 71)) ((unhide HA2).at 21 (v := q21) rfl)
    have c22 := cell_kept (boxw (w := w2) (.cells #[.slice none 0 0] 71)) ((unhide HA2).at 22 (v := q22) rfl)
    have HN := hide hn
    clear hn
    go_wp2_with fail
    refine (unhide HW w2 w2.heap.size [] [] _ (unhide HA2).gr (unhide HN) (unhide HRR)).mono ?_
    rintro e w3 ⟨rfl,hw⟩
    obtain ⟨v,hv,ho,_⟩ := hw.row
    obtain ⟨a,n,c,rfl⟩ := owns_form ho
    have hb2 := hide ((unhide HA2).gr.trans (hw.gr.mono (unhide HA2).gr.size))
    have HO := hide ho
    clear ho hw HN c0 c13 c14 c15 c16 c17 c18 c19 c20 c21 c22
    go_wp2_with fail
    go_ret2
    refine ⟨unhide hb2,.inl ⟨rfl,a,n,c,rfl,?_⟩⟩
    exact encq_row (unhide HO) (unhide HA2).gr.size
  · have HZ := hide hz
    have hb := bne_iff_ne.2 hz
    clear hz
    go_wp2_with fail
    go_ret2
    exact ⟨(unhide HA2).gr,.inr ⟨unhide HZ,rfl⟩⟩
set_option maxRecDepth 100000 in
set_option maxHeartbeats 16000000 in
theorem renc_3 (q1 q2 q3 q4 q5 q6 q7 q8 q9 q10 q11 q12 q13 q14 q15 q16 q17 q18 q19 q20 q21 q22 q23 q24 q25 q26 q27 q28 q29 q30 q31 q32 q33 q34 q35 q36 q37 q38 q39 q40 q41 q42 q43 q44 q45 q46 q47 q48 q49 : Value) (z : Int) (T : Txt) (w : World) (hC : ∀ V,Below w.heap.size w V -> Calls Tryz.prog 17 #[.agg #[.int .i64 3,q1,q2,q3,q4,q5,q6,q7,q8,q9,q10,q11,q12,q13,q14,q15,q16,q17,q18,q19,q20,q21,q22,q23,q24,q25,q26,q27,q28,q29,q30,q31,q32,q33,q34,q35,q36,q37,q38,q39,q40,q41,q42,q43,q44,q45,q46,q47,q48,q49]] V fun e w' => e = .returned (.int .i64 z) /\ Below V.heap.size V w')
    (hW : ∀ W0 B xs cs W,Below w.heap.size w W0 -> Wr W0 B xs cs W -> Room (xs ++ T) -> Calls Tryz.prog 20 #[.pointer (some ⟨B,0,none⟩),.agg #[q23,q24,q25,q26,q27,q28,q29,q30,q31,q32,q33,q34,q35,q36,q37]] W fun e w' => e = .returned (.tuple #[]) /\ Wr W0 B (xs ++ T) cs w')
    (hR : z = 0 -> Room ([] ++ T)) :
    Calls Tryz.prog 10 #[.agg #[.int .i64 3,q1,q2,q3,q4,q5,q6,q7,q8,q9,q10,q11,q12,q13,q14,q15,q16,q17,q18,q19,q20,q21,q22,q23,q24,q25,q26,q27,q28,q29,q30,q31,q32,q33,q34,q35,q36,q37,q38,q39,q40,q41,q42,q43,q44,q45,q46,q47,q48,q49]] w (EncQ z T w) := by
  have HC := hide hC
  have HW := hide hW
  have HR := hide hR
  clear hC hW hR
  obtain ⟨W1,hW1⟩ : ∃ W,W = w.alloc (.cells #[.int .i64 3,q1,q2,q3,q4,q5,q6,q7,q8,q9,q10,q11,q12,q13,q14,q15,q16,q17,q18,q19,q20,q21,q22,q23,q24,q25,q26,q27,q28,q29,q30,q31,q32,q33,q34,q35,q36,q37,q38,q39,q40,q41,q42,q43,q44,q45,q46,q47,q48,q49] 44) := ⟨_,rfl⟩
  have HA : Hid (RowAt w w.heap.size #[.int .i64 3,q1,q2,q3,q4,q5,q6,q7,q8,q9,q10,q11,q12,q13,q14,q15,q16,q17,q18,q19,q20,q21,q22,q23,q24,q25,q26,q27,q28,q29,q30,q31,q32,q33,q34,q35,q36,q37,q38,q39,q40,q41,q42,q43,q44,q45,q46,q47,q48,q49] 44 W1) := by show RowAt _ _ _ _ _; rw [hW1]; exact row_new _ _ _
  have GW := hide hW1
  clear hW1
  go_enter Tryz.func10,Tryz.ntmps10
  go_upto_region 1 with fail
  rw [<- unhide GW]
  clear GW
  refine wp_region_list ?_
  refine wpList_load_row rfl 44 _ rfl w.heap.size rfl 44 _ _ _ (unhide HA).row Tryz.underlying44 rfl (by kernel_rfl) ?_
  go_wp2_with fail
  refine (unhide HC _ (unhide HA).gr).mono ?_
  rintro e w2 ⟨rfl,hb⟩
  have HA2 := hide ((unhide HA).below hb)
  clear hb HA HC
  by_cases hz : z = 0
  · have HRR := hide (unhide HR hz)
    subst hz
    have hn := wr_new w2 71
    have c0 := cell_kept (boxw (w := w2) (.cells #[.slice none 0 0] 71)) ((unhide HA2).at 0 (v := .int .i64 3) rfl)
    have c23 := cell_kept (boxw (w := w2) (.cells #[.slice none 0 0] 71)) ((unhide HA2).at 23 (v := q23) rfl)
    have c24 := cell_kept (boxw (w := w2) (.cells #[.slice none 0 0] 71)) ((unhide HA2).at 24 (v := q24) rfl)
    have c25 := cell_kept (boxw (w := w2) (.cells #[.slice none 0 0] 71)) ((unhide HA2).at 25 (v := q25) rfl)
    have c26 := cell_kept (boxw (w := w2) (.cells #[.slice none 0 0] 71)) ((unhide HA2).at 26 (v := q26) rfl)
    have c27 := cell_kept (boxw (w := w2) (.cells #[.slice none 0 0] 71)) ((unhide HA2).at 27 (v := q27) rfl)
    have c28 := cell_kept (boxw (w := w2) (.cells #[.slice none 0 0] 71)) ((unhide HA2).at 28 (v := q28) rfl)
    have c29 := cell_kept (boxw (w := w2) (.cells #[.slice none 0 0] 71)) ((unhide HA2).at 29 (v := q29) rfl)
    have c30 := cell_kept (boxw (w := w2) (.cells #[.slice none 0 0] 71)) ((unhide HA2).at 30 (v := q30) rfl)
    have c31 := cell_kept (boxw (w := w2) (.cells #[.slice none 0 0] 71)) ((unhide HA2).at 31 (v := q31) rfl)
    have c32 := cell_kept (boxw (w := w2) (.cells #[.slice none 0 0] 71)) ((unhide HA2).at 32 (v := q32) rfl)
    have c33 := cell_kept (boxw (w := w2) (.cells #[.slice none 0 0] 71)) ((unhide HA2).at 33 (v := q33) rfl)
    have c34 := cell_kept (boxw (w := w2) (.cells #[.slice none 0 0] 71)) ((unhide HA2).at 34 (v := q34) rfl)
    have c35 := cell_kept (boxw (w := w2) (.cells #[.slice none 0 0] 71)) ((unhide HA2).at 35 (v := q35) rfl)
    have c36 := cell_kept (boxw (w := w2) (.cells #[.slice none 0 0] 71)) ((unhide HA2).at 36 (v := q36) rfl)
    have c37 := cell_kept (boxw (w := w2) (.cells #[.slice none 0 0] 71)) ((unhide HA2).at 37 (v := q37) rfl)
    have HN := hide hn
    clear hn
    go_wp2_with fail
    refine (unhide HW w2 w2.heap.size [] [] _ (unhide HA2).gr (unhide HN) (unhide HRR)).mono ?_
    rintro e w3 ⟨rfl,hw⟩
    obtain ⟨v,hv,ho,_⟩ := hw.row
    obtain ⟨a,n,c,rfl⟩ := owns_form ho
    have hb2 := hide ((unhide HA2).gr.trans (hw.gr.mono (unhide HA2).gr.size))
    have HO := hide ho
    clear ho hw HN c0 c23 c24 c25 c26 c27 c28 c29 c30 c31 c32 c33 c34 c35 c36 c37
    go_wp2_with fail
    go_ret2
    refine ⟨unhide hb2,.inl ⟨rfl,a,n,c,rfl,?_⟩⟩
    exact encq_row (unhide HO) (unhide HA2).gr.size
  · have HZ := hide hz
    have hb := bne_iff_ne.2 hz
    clear hz
    go_wp2_with fail
    go_ret2
    exact ⟨(unhide HA2).gr,.inr ⟨unhide HZ,rfl⟩⟩
set_option maxRecDepth 100000 in
set_option maxHeartbeats 16000000 in
theorem renc_4 (q1 q2 q3 q4 q5 q6 q7 q8 q9 q10 q11 q12 q13 q14 q15 q16 q17 q18 q19 q20 q21 q22 q23 q24 q25 q26 q27 q28 q29 q30 q31 q32 q33 q34 q35 q36 q37 q38 q39 q40 q41 q42 q43 q44 q45 q46 q47 q48 q49 : Value) (z : Int) (T : Txt) (w : World) (hC : ∀ V,Below w.heap.size w V -> Calls Tryz.prog 17 #[.agg #[.int .i64 4,q1,q2,q3,q4,q5,q6,q7,q8,q9,q10,q11,q12,q13,q14,q15,q16,q17,q18,q19,q20,q21,q22,q23,q24,q25,q26,q27,q28,q29,q30,q31,q32,q33,q34,q35,q36,q37,q38,q39,q40,q41,q42,q43,q44,q45,q46,q47,q48,q49]] V fun e w' => e = .returned (.int .i64 z) /\ Below V.heap.size V w')
    (hW : ∀ W0 B xs cs W,Below w.heap.size w W0 -> Wr W0 B xs cs W -> Room (xs ++ T) -> Calls Tryz.prog 21 #[.pointer (some ⟨B,0,none⟩),.agg #[q38,q39,q40,q41,q42,q43,q44,q45]] W fun e w' => e = .returned (.tuple #[]) /\ Wr W0 B (xs ++ T) cs w')
    (hR : z = 0 -> Room ([] ++ T)) :
    Calls Tryz.prog 10 #[.agg #[.int .i64 4,q1,q2,q3,q4,q5,q6,q7,q8,q9,q10,q11,q12,q13,q14,q15,q16,q17,q18,q19,q20,q21,q22,q23,q24,q25,q26,q27,q28,q29,q30,q31,q32,q33,q34,q35,q36,q37,q38,q39,q40,q41,q42,q43,q44,q45,q46,q47,q48,q49]] w (EncQ z T w) := by
  have HC := hide hC
  have HW := hide hW
  have HR := hide hR
  clear hC hW hR
  obtain ⟨W1,hW1⟩ : ∃ W,W = w.alloc (.cells #[.int .i64 4,q1,q2,q3,q4,q5,q6,q7,q8,q9,q10,q11,q12,q13,q14,q15,q16,q17,q18,q19,q20,q21,q22,q23,q24,q25,q26,q27,q28,q29,q30,q31,q32,q33,q34,q35,q36,q37,q38,q39,q40,q41,q42,q43,q44,q45,q46,q47,q48,q49] 44) := ⟨_,rfl⟩
  have HA : Hid (RowAt w w.heap.size #[.int .i64 4,q1,q2,q3,q4,q5,q6,q7,q8,q9,q10,q11,q12,q13,q14,q15,q16,q17,q18,q19,q20,q21,q22,q23,q24,q25,q26,q27,q28,q29,q30,q31,q32,q33,q34,q35,q36,q37,q38,q39,q40,q41,q42,q43,q44,q45,q46,q47,q48,q49] 44 W1) := by show RowAt _ _ _ _ _; rw [hW1]; exact row_new _ _ _
  have GW := hide hW1
  clear hW1
  go_enter Tryz.func10,Tryz.ntmps10
  go_upto_region 1 with fail
  rw [<- unhide GW]
  clear GW
  refine wp_region_list ?_
  refine wpList_load_row rfl 44 _ rfl w.heap.size rfl 44 _ _ _ (unhide HA).row Tryz.underlying44 rfl (by kernel_rfl) ?_
  go_wp2_with fail
  refine (unhide HC _ (unhide HA).gr).mono ?_
  rintro e w2 ⟨rfl,hb⟩
  have HA2 := hide ((unhide HA).below hb)
  clear hb HA HC
  by_cases hz : z = 0
  · have HRR := hide (unhide HR hz)
    subst hz
    have hn := wr_new w2 71
    have c0 := cell_kept (boxw (w := w2) (.cells #[.slice none 0 0] 71)) ((unhide HA2).at 0 (v := .int .i64 4) rfl)
    have c38 := cell_kept (boxw (w := w2) (.cells #[.slice none 0 0] 71)) ((unhide HA2).at 38 (v := q38) rfl)
    have c39 := cell_kept (boxw (w := w2) (.cells #[.slice none 0 0] 71)) ((unhide HA2).at 39 (v := q39) rfl)
    have c40 := cell_kept (boxw (w := w2) (.cells #[.slice none 0 0] 71)) ((unhide HA2).at 40 (v := q40) rfl)
    have c41 := cell_kept (boxw (w := w2) (.cells #[.slice none 0 0] 71)) ((unhide HA2).at 41 (v := q41) rfl)
    have c42 := cell_kept (boxw (w := w2) (.cells #[.slice none 0 0] 71)) ((unhide HA2).at 42 (v := q42) rfl)
    have c43 := cell_kept (boxw (w := w2) (.cells #[.slice none 0 0] 71)) ((unhide HA2).at 43 (v := q43) rfl)
    have c44 := cell_kept (boxw (w := w2) (.cells #[.slice none 0 0] 71)) ((unhide HA2).at 44 (v := q44) rfl)
    have c45 := cell_kept (boxw (w := w2) (.cells #[.slice none 0 0] 71)) ((unhide HA2).at 45 (v := q45) rfl)
    have HN := hide hn
    clear hn
    go_wp2_with fail
    refine (unhide HW w2 w2.heap.size [] [] _ (unhide HA2).gr (unhide HN) (unhide HRR)).mono ?_
    rintro e w3 ⟨rfl,hw⟩
    obtain ⟨v,hv,ho,_⟩ := hw.row
    obtain ⟨a,n,c,rfl⟩ := owns_form ho
    have hb2 := hide ((unhide HA2).gr.trans (hw.gr.mono (unhide HA2).gr.size))
    have HO := hide ho
    clear ho hw HN c0 c38 c39 c40 c41 c42 c43 c44 c45
    go_wp2_with fail
    go_ret2
    refine ⟨unhide hb2,.inl ⟨rfl,a,n,c,rfl,?_⟩⟩
    exact encq_row (unhide HO) (unhide HA2).gr.size
  · have HZ := hide hz
    have hb := bne_iff_ne.2 hz
    clear hz
    go_wp2_with fail
    go_ret2
    exact ⟨(unhide HA2).gr,.inr ⟨unhide HZ,rfl⟩⟩
set_option maxRecDepth 100000 in
set_option maxHeartbeats 16000000 in
theorem renc_5 (q1 q2 q3 q4 q5 q6 q7 q8 q9 q10 q11 q12 q13 q14 q15 q16 q17 q18 q19 q20 q21 q22 q23 q24 q25 q26 q27 q28 q29 q30 q31 q32 q33 q34 q35 q36 q37 q38 q39 q40 q41 q42 q43 q44 q45 q46 q47 q48 q49 : Value) (z : Int) (T1 T : Txt) (w : World) (hC : ∀ V,Below w.heap.size w V -> Calls Tryz.prog 17 #[.agg #[.int .i64 5,q1,q2,q3,q4,q5,q6,q7,q8,q9,q10,q11,q12,q13,q14,q15,q16,q17,q18,q19,q20,q21,q22,q23,q24,q25,q26,q27,q28,q29,q30,q31,q32,q33,q34,q35,q36,q37,q38,q39,q40,q41,q42,q43,q44,q45,q46,q47,q48,q49]] V fun e w' => e = .returned (.int .i64 z) /\ Below V.heap.size V w')
    (hW : ∀ W0 B xs cs W,Below w.heap.size w W0 -> Wr W0 B xs cs W -> Room (xs ++ T1 ++ T) -> Calls Tryz.prog 22 #[.pointer (some ⟨B,0,none⟩),.agg #[q46,q47,q48]] W fun e w' => e = .returned (.tuple #[]) /\ Wr W0 B (xs ++ T1) cs w')
    (hW2 : ∀ W0 B xs cs W,Below w.heap.size w W0 -> Wr W0 B xs cs W -> Room (xs ++ T) -> Calls Tryz.prog 23 #[.pointer (some ⟨B,0,none⟩),q49] W fun e w' => e = .returned (.tuple #[]) /\ Wr W0 B (xs ++ T) cs w')
    (hR : z = 0 -> Room ([] ++ (T1 ++ T))) :
    Calls Tryz.prog 10 #[.agg #[.int .i64 5,q1,q2,q3,q4,q5,q6,q7,q8,q9,q10,q11,q12,q13,q14,q15,q16,q17,q18,q19,q20,q21,q22,q23,q24,q25,q26,q27,q28,q29,q30,q31,q32,q33,q34,q35,q36,q37,q38,q39,q40,q41,q42,q43,q44,q45,q46,q47,q48,q49]] w (EncQ z (T1 ++ T) w) := by
  have HC := hide hC
  have HW := hide hW
  have HR := hide hR
  have HW2 := hide hW2
  clear hC hW hR hW2
  obtain ⟨W1,hW1⟩ : ∃ W,W = w.alloc (.cells #[.int .i64 5,q1,q2,q3,q4,q5,q6,q7,q8,q9,q10,q11,q12,q13,q14,q15,q16,q17,q18,q19,q20,q21,q22,q23,q24,q25,q26,q27,q28,q29,q30,q31,q32,q33,q34,q35,q36,q37,q38,q39,q40,q41,q42,q43,q44,q45,q46,q47,q48,q49] 44) := ⟨_,rfl⟩
  have HA : Hid (RowAt w w.heap.size #[.int .i64 5,q1,q2,q3,q4,q5,q6,q7,q8,q9,q10,q11,q12,q13,q14,q15,q16,q17,q18,q19,q20,q21,q22,q23,q24,q25,q26,q27,q28,q29,q30,q31,q32,q33,q34,q35,q36,q37,q38,q39,q40,q41,q42,q43,q44,q45,q46,q47,q48,q49] 44 W1) := by show RowAt _ _ _ _ _; rw [hW1]; exact row_new _ _ _
  have GW := hide hW1
  clear hW1
  go_enter Tryz.func10,Tryz.ntmps10
  go_upto_region 1 with fail
  rw [<- unhide GW]
  clear GW
  refine wp_region_list ?_
  refine wpList_load_row rfl 44 _ rfl w.heap.size rfl 44 _ _ _ (unhide HA).row Tryz.underlying44 rfl (by kernel_rfl) ?_
  go_wp2_with fail
  refine (unhide HC _ (unhide HA).gr).mono ?_
  rintro e w2 ⟨rfl,hb⟩
  have HA2 := hide ((unhide HA).below hb)
  clear hb HA HC
  by_cases hz : z = 0
  · have HRR := hide (unhide HR hz)
    subst hz
    have hn := wr_new w2 71
    have c0 := cell_kept (boxw (w := w2) (.cells #[.slice none 0 0] 71)) ((unhide HA2).at 0 (v := .int .i64 5) rfl)
    have c46 := cell_kept (boxw (w := w2) (.cells #[.slice none 0 0] 71)) ((unhide HA2).at 46 (v := q46) rfl)
    have c47 := cell_kept (boxw (w := w2) (.cells #[.slice none 0 0] 71)) ((unhide HA2).at 47 (v := q47) rfl)
    have c48 := cell_kept (boxw (w := w2) (.cells #[.slice none 0 0] 71)) ((unhide HA2).at 48 (v := q48) rfl)
    have c49 := cell_kept (boxw (w := w2) (.cells #[.slice none 0 0] 71)) ((unhide HA2).at 49 (v := q49) rfl)
    have HN := hide hn
    clear hn
    go_wp2_with fail
    refine (unhide HW w2 w2.heap.size [] [] _ (unhide HA2).gr (unhide HN) (by have := unhide HRR; rwa [<- List.append_assoc] at this)).mono ?_
    rintro e w3 ⟨rfl,hw⟩
    have c49 := cell_kept hw.gr ((unhide HA2).at 49 (v := q49) rfl)
    have HN2 := hide hw
    clear hw
    go_wp2_with fail
    refine (unhide HW2 w2 w2.heap.size ([] ++ T1) [] _ (unhide HA2).gr (unhide HN2) (by have := unhide HRR; rwa [<- List.append_assoc] at this)).mono ?_
    rintro e w4 ⟨rfl,hw⟩
    rw [List.append_assoc] at hw
    clear HN2
    obtain ⟨v,hv,ho,_⟩ := hw.row
    obtain ⟨a,n,c,rfl⟩ := owns_form ho
    have hb2 := hide ((unhide HA2).gr.trans (hw.gr.mono (unhide HA2).gr.size))
    have HO := hide ho
    clear ho hw HN c0 c46 c47 c48 c49
    go_wp2_with fail
    go_ret2
    refine ⟨unhide hb2,.inl ⟨rfl,a,n,c,rfl,?_⟩⟩
    exact encq_row (unhide HO) (unhide HA2).gr.size
  · have HZ := hide hz
    have hb := bne_iff_ne.2 hz
    clear hz
    go_wp2_with fail
    go_ret2
    exact ⟨(unhide HA2).gr,.inr ⟨unhide HZ,rfl⟩⟩
set_option maxRecDepth 100000 in
set_option maxHeartbeats 16000000 in
theorem renc_0 (k : Int) (q1 q2 q3 q4 q5 q6 q7 q8 q9 q10 q11 q12 q13 q14 q15 q16 q17 q18 q19 q20 q21 q22 q23 q24 q25 q26 q27 q28 q29 q30 q31 q32 q33 q34 q35 q36 q37 q38 q39 q40 q41 q42 q43 q44 q45 q46 q47 q48 q49 : Value) (z : Int) (T : Txt) (w : World) (_hk : ¬ k = 1 /\ ¬ k = 2 /\ ¬ k = 3 /\ ¬ k = 4 /\ ¬ k = 5) (hz : ¬ z = 0) (hC : ∀ V,Below w.heap.size w V -> Calls Tryz.prog 17 #[.agg #[.int .i64 k,q1,q2,q3,q4,q5,q6,q7,q8,q9,q10,q11,q12,q13,q14,q15,q16,q17,q18,q19,q20,q21,q22,q23,q24,q25,q26,q27,q28,q29,q30,q31,q32,q33,q34,q35,q36,q37,q38,q39,q40,q41,q42,q43,q44,q45,q46,q47,q48,q49]] V fun e w' => e = .returned (.int .i64 z) /\ Below V.heap.size V w') :
    Calls Tryz.prog 10 #[.agg #[.int .i64 k,q1,q2,q3,q4,q5,q6,q7,q8,q9,q10,q11,q12,q13,q14,q15,q16,q17,q18,q19,q20,q21,q22,q23,q24,q25,q26,q27,q28,q29,q30,q31,q32,q33,q34,q35,q36,q37,q38,q39,q40,q41,q42,q43,q44,q45,q46,q47,q48,q49]] w (EncQ z T w) := by
  have HC := hide hC
  clear hC
  obtain ⟨W1,hW1⟩ : ∃ W,W = w.alloc (.cells #[.int .i64 k,q1,q2,q3,q4,q5,q6,q7,q8,q9,q10,q11,q12,q13,q14,q15,q16,q17,q18,q19,q20,q21,q22,q23,q24,q25,q26,q27,q28,q29,q30,q31,q32,q33,q34,q35,q36,q37,q38,q39,q40,q41,q42,q43,q44,q45,q46,q47,q48,q49] 44) := ⟨_,rfl⟩
  have HA : Hid (RowAt w w.heap.size #[.int .i64 k,q1,q2,q3,q4,q5,q6,q7,q8,q9,q10,q11,q12,q13,q14,q15,q16,q17,q18,q19,q20,q21,q22,q23,q24,q25,q26,q27,q28,q29,q30,q31,q32,q33,q34,q35,q36,q37,q38,q39,q40,q41,q42,q43,q44,q45,q46,q47,q48,q49] 44 W1) := by show RowAt _ _ _ _ _; rw [hW1]; exact row_new _ _ _
  have GW := hide hW1
  clear hW1
  go_enter Tryz.func10,Tryz.ntmps10
  go_upto_region 1 with fail
  rw [<- unhide GW]
  clear GW
  refine wp_region_list ?_
  refine wpList_load_row rfl 44 _ rfl w.heap.size rfl 44 _ _ _ (unhide HA).row Tryz.underlying44 rfl (by kernel_rfl) ?_
  go_wp2_with fail
  refine (unhide HC _ (unhide HA).gr).mono ?_
  rintro e w2 ⟨rfl,hb⟩
  have HA2 := hide ((unhide HA).below hb)
  clear hb HA HC
  have HZ := hide hz
  have hb := bne_iff_ne.2 hz
  clear hz
  go_wp2_with fail
  go_ret2
  exact ⟨(unhide HA2).gr,.inr ⟨unhide HZ,rfl⟩⟩
end Go.Proofs.YtfpfdnapamdhjaaGreatDoor
