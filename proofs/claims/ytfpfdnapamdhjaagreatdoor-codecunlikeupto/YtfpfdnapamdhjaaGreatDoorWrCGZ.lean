/- Layer 9: the program's writers of labels,terms,tolerations,spreads,offers,requirements,and of lists of them -/
import Derived.Test.YtfpfdnapamdhjaaGreatDoorWrNGZ
import Derived.Test.YtfpfdnapamdhjaaGreatDoorO8AGZ
namespace Go.Proofs.YtfpfdnapamdhjaaGreatDoor
open Go.RowKit Suf Val

section
variable {W0 w : World} {B : Nat} {xs : Txt} {cs : List (Addr × Value)}
set_option maxRecDepth 100000 in
set_option maxHeartbeats 16000000 in
theorem pw_lab (y : Txt × Txt) (h : Wr W0 B xs cs w) (hl : Room (xs ++ labC.w y)) :
    Calls Tryz.prog 80 #[.pointer (some ⟨B,0,none⟩),.agg #[.string (bytesT y.1),.string (bytesT y.2)]] w fun e w' => e = .returned (.tuple #[]) /\ Wr W0 B (xs ++ labC.w y) cs w' := by
  have HE : Hid (xs ++ txtC.w y.1 ++ txtC.w y.2 = xs ++ labC.w y) := by show _ = _; simp only [List.append_assoc]; rfl
  have HL : Hid (Room (xs ++ txtC.w y.1 ++ txtC.w y.2)) := by show Room _; rw [unhide HE]; exact hl
  have H0 := hide (h.box [.string (bytesT y.1),.string (bytesT y.2)] 118)
  clear h hl
  go_enter Tryz.func80,Tryz.ntmps80
  go_wp2_with fail
  refine (pw_text y.1 (unhide H0) (room_pre (unhide HL))).mono ?_
  rintro e w1 ⟨rfl,hw⟩
  have c1 : w1.cell? ⟨w.heap.size,1,none⟩ = some (.string (bytesT y.2)) := hw.at 1 rfl
  have H1 := hide hw
  clear hw H0
  go_wp2_with fail
  refine (pw_text y.2 (unhide H1) (unhide HL)).mono ?_
  rintro e w2 ⟨rfl,hw⟩
  have hz := hide hw
  clear hw c1
  go_wp2_with fail
  go_end0
  exact ⟨rfl,by rw [<- unhide HE]; exact (unhide hz).drop⟩
set_option maxRecDepth 100000 in
set_option maxHeartbeats 16000000 in
theorem pw_trm (y : VTerm) (h : Wr W0 B xs cs w) (hl : Room (xs ++ labC.w y)) :
    Calls Tryz.prog 78 #[.pointer (some ⟨B,0,none⟩),.agg #[.string (bytesT y.1),.string (bytesT y.2)]] w fun e w' => e = .returned (.tuple #[]) /\ Wr W0 B (xs ++ labC.w y) cs w' := by
  have HE : Hid (xs ++ txtC.w y.1 ++ txtC.w y.2 = xs ++ labC.w y) := by show _ = _; simp only [List.append_assoc]; rfl
  have HL : Hid (Room (xs ++ txtC.w y.1 ++ txtC.w y.2)) := by show Room _; rw [unhide HE]; exact hl
  have H0 := hide (h.box [.string (bytesT y.1),.string (bytesT y.2)] 146)
  clear h hl
  go_enter Tryz.func78,Tryz.ntmps78
  go_wp2_with fail
  refine (pw_text y.1 (unhide H0) (room_pre (unhide HL))).mono ?_
  rintro e w1 ⟨rfl,hw⟩
  have c1 : w1.cell? ⟨w.heap.size,1,none⟩ = some (.string (bytesT y.2)) := hw.at 1 rfl
  have H1 := hide hw
  clear hw H0
  go_wp2_with fail
  refine (pw_text y.2 (unhide H1) (unhide HL)).mono ?_
  rintro e w2 ⟨rfl,hw⟩
  have hz := hide hw
  clear hw c1
  go_wp2_with fail
  go_end0
  exact ⟨rfl,by rw [<- unhide HE]; exact (unhide hz).drop⟩
set_option maxRecDepth 100000 in
set_option maxHeartbeats 16000000 in
theorem pw_tol (y : Txt × Txt × Bool) (h : Wr W0 B xs cs w) (hl : Room (xs ++ tolC.w y)) :
    Calls Tryz.prog 74 #[.pointer (some ⟨B,0,none⟩),.agg #[.string (bytesT y.1),.string (bytesT y.2.1),.bool y.2.2]] w fun e w' => e = .returned (.tuple #[]) /\ Wr W0 B (xs ++ tolC.w y) cs w' := by
  have HE : Hid (xs ++ txtC.w y.1 ++ txtC.w y.2.1 ++ truthC.w y.2.2 = xs ++ tolC.w y) := by show _ = _; simp only [List.append_assoc]; rfl
  have HL : Hid (Room (xs ++ txtC.w y.1 ++ txtC.w y.2.1 ++ truthC.w y.2.2)) := by show Room _; rw [unhide HE]; exact hl
  have H0 := hide (h.box [.string (bytesT y.1),.string (bytesT y.2.1),.bool y.2.2] 112)
  clear h hl
  go_enter Tryz.func74,Tryz.ntmps74
  go_wp2_with fail
  refine (pw_text y.1 (unhide H0) (room_pre (room_pre (unhide HL)))).mono ?_
  rintro e w1 ⟨rfl,hw⟩
  have c1 : w1.cell? ⟨w.heap.size,1,none⟩ = some (.string (bytesT y.2.1)) := hw.at 1 rfl
  have H1 := hide hw
  clear hw H0
  go_wp2_with fail
  refine (pw_text y.2.1 (unhide H1) (room_pre (unhide HL))).mono ?_
  rintro e w2 ⟨rfl,hw⟩
  have c2 : w2.cell? ⟨w.heap.size,2,none⟩ = some (.bool y.2.2) := hw.at 2 rfl
  have H2 := hide hw
  clear hw H1 c1
  go_wp2_with fail
  refine (pw_truth y.2.2 (unhide H2) (unhide HL)).mono ?_
  rintro e w3 ⟨rfl,hw⟩
  have hz := hide hw
  clear hw c2
  go_wp2_with fail
  go_end0
  exact ⟨rfl,by rw [<- unhide HE]; exact (unhide hz).drop⟩
set_option maxRecDepth 100000 in
set_option maxHeartbeats 16000000 in
theorem pw_spr (y : VSpr) (h : Wr W0 B xs cs w) (hl : Room (xs ++ sprC.w y)) :
    Calls Tryz.prog 76 #[.pointer (some ⟨B,0,none⟩),.agg #[.string (bytesT y.1),.string (bytesT y.2.1),.int .i64 y.2.2]] w fun e w' => e = .returned (.tuple #[]) /\ Wr W0 B (xs ++ sprC.w y) cs w' := by
  have HE : Hid (xs ++ txtC.w y.1 ++ txtC.w y.2.1 ++ numC.w y.2.2 = xs ++ sprC.w y) := by show _ = _; simp only [List.append_assoc]; rfl
  have HL : Hid (Room (xs ++ txtC.w y.1 ++ txtC.w y.2.1 ++ numC.w y.2.2)) := by show Room _; rw [unhide HE]; exact hl
  have H0 := hide (h.box [.string (bytesT y.1),.string (bytesT y.2.1),.int .i64 y.2.2] 115)
  clear h hl
  go_enter Tryz.func76,Tryz.ntmps76
  go_wp2_with fail
  refine (pw_text y.1 (unhide H0) (room_pre (room_pre (unhide HL)))).mono ?_
  rintro e w1 ⟨rfl,hw⟩
  have c1 : w1.cell? ⟨w.heap.size,1,none⟩ = some (.string (bytesT y.2.1)) := hw.at 1 rfl
  have H1 := hide hw
  clear hw H0
  go_wp2_with fail
  refine (pw_text y.2.1 (unhide H1) (room_pre (unhide HL))).mono ?_
  rintro e w2 ⟨rfl,hw⟩
  have c2 : w2.cell? ⟨w.heap.size,2,none⟩ = some (.int .i64 y.2.2) := hw.at 2 rfl
  have H2 := hide hw
  clear hw H1 c1
  go_wp2_with fail
  refine (pw_num y.2.2 (unhide H2) (unhide HL)).mono ?_
  rintro e w3 ⟨rfl,hw⟩
  have hz := hide hw
  clear hw c2
  go_wp2_with fail
  go_end0
  exact ⟨rfl,by rw [<- unhide HE]; exact (unhide hz).drop⟩
set_option maxRecDepth 100000 in
set_option maxHeartbeats 16000000 in
theorem pw_off (y : VOff) (h : Wr W0 B xs cs w) (hl : Room (xs ++ offC.w y)) :
    Calls Tryz.prog 81 #[.pointer (some ⟨B,0,none⟩),.agg #[.string (bytesT y.1),.string (bytesT y.2.1),.string (bytesT y.2.2)]] w fun e w' => e = .returned (.tuple #[]) /\ Wr W0 B (xs ++ offC.w y) cs w' := by
  have HE : Hid (xs ++ txtC.w y.1 ++ txtC.w y.2.1 ++ txtC.w y.2.2 = xs ++ offC.w y) := by show _ = _; simp only [List.append_assoc]; rfl
  have HL : Hid (Room (xs ++ txtC.w y.1 ++ txtC.w y.2.1 ++ txtC.w y.2.2)) := by show Room _; rw [unhide HE]; exact hl
  have H0 := hide (h.box [.string (bytesT y.1),.string (bytesT y.2.1),.string (bytesT y.2.2)] 34)
  clear h hl
  go_enter Tryz.func81,Tryz.ntmps81
  go_wp2_with fail
  refine (pw_text y.1 (unhide H0) (room_pre (room_pre (unhide HL)))).mono ?_
  rintro e w1 ⟨rfl,hw⟩
  have c1 : w1.cell? ⟨w.heap.size,1,none⟩ = some (.string (bytesT y.2.1)) := hw.at 1 rfl
  have H1 := hide hw
  clear hw H0
  go_wp2_with fail
  refine (pw_text y.2.1 (unhide H1) (room_pre (unhide HL))).mono ?_
  rintro e w2 ⟨rfl,hw⟩
  have c2 : w2.cell? ⟨w.heap.size,2,none⟩ = some (.string (bytesT y.2.2)) := hw.at 2 rfl
  have H2 := hide hw
  clear hw H1 c1
  go_wp2_with fail
  refine (pw_text y.2.2 (unhide H2) (unhide HL)).mono ?_
  rintro e w3 ⟨rfl,hw⟩
  have hz := hide hw
  clear hw c2
  go_wp2_with fail
  go_end0
  exact ⟨rfl,by rw [<- unhide HE]; exact (unhide hz).drop⟩
set_option maxRecDepth 100000 in
set_option maxHeartbeats 16000000 in
theorem pw_Lstr (l : List (Txt)) (u : Value) (hu : Lst strK W0 u l) (h : Wr W0 B xs cs w) (hl : Room (xs ++ (listC txtC).w l)) :
    Calls Tryz.prog 84 #[.pointer (some ⟨B,0,none⟩),u,.func (.func 68) #[.pointer (some ⟨B,0,none⟩)] #[]] w fun e w' => e = .returned (.tuple #[]) /\ Wr W0 B (xs ++ (listC txtC).w l) cs w' := by
  have HU := hide hu
  have hlen := hu.len
  obtain ⟨a,c,rfl⟩ := hu.val
  clear hu
  obtain ⟨n,hn⟩ : ∃ n,n = l.length := ⟨_,rfl⟩
  rw [<- hn] at HU hlen ⊢
  have HN := hide hn
  have HE : Hid (xs ++ [UInt8.ofNat n] ++ manyW txtC l = xs ++ (listC txtC).w l) := by show _ = _; rw [List.append_assoc,hn]; rfl
  have HL : Hid (Room (xs ++ [UInt8.ofNat n] ++ manyW txtC l)) := by show Room _; rw [unhide HE]; exact hl
  have H := hide h
  clear h hl hn
  go_enter Tryz.func84,Tryz.ntmps84
  go_wp2_with fail
  refine (pw_len n (unhide H) (room_pre (unhide HL))).mono ?_
  rintro e w1 ⟨rfl,hw⟩
  have H1 := hide hw
  clear hw H
  go_wp2_with fail
  go_loopw [14] (fun i W => ∃ k : Nat,k <= n /\ i = .int .i64 k /\ Hid (Wr W0 B (xs ++ [UInt8.ofNat n] ++ manyW txtC (l.take k)) (cs) W)) (fun i _ => n - (intOf i).toNat)
  case atStart => exact ⟨0,Nat.zero_le _,rfl,by show Wr _ _ _ _ _; rw [List.take_zero]; show Wr _ _ (xs ++ [UInt8.ofNat n] ++ []) _ _; rw [List.append_nil]; exact unhide H1⟩
  case round =>
    obtain ⟨k,hk,rfl,hW⟩ := hrel
    by_cases hlt : k < n
    · have hlk : k < l.length := by rw [<- unhide HN]; exact hlt
      obtain ⟨b,o,rfl,hat⟩ := (unhide HU).at hlk
      have hnx : Hid (manyW txtC (l.take (k + 1)) = manyW txtC (l.take k) ++ txtC.w l[k]) := many_next _ hlk
      have HLk : Hid (Room (xs ++ [UInt8.ofNat n] ++ manyW txtC (l.take k) ++ txtC.w l[k])) := many_room hlk (unhide HL)
      obtain ⟨y,hy⟩ : ∃ y,y = l[k] := ⟨_,rfl⟩
      rw [<- hy] at hat hnx HLk
      obtain ⟨h0,_⟩ := at_str.1 hat
      rw [show strK.size = 1 from rfl,Nat.mul_one] at h0
      replace h0 := cell_kept (unhide hW).gr h0
      clear hy hat
      go_wp2_with fail
      refine (pw_text y (unhide hW) (unhide HLk)).mono ?_
      rintro e w2 ⟨rfl,hw⟩
      have H2 : Hid (Wr W0 B (xs ++ [UInt8.ofNat n] ++ manyW txtC (l.take (k + 1))) (cs) w2) := by show Wr _ _ _ _ _; rw [unhide hnx,<- List.append_assoc]; exact hw
      clear hw
      go_wp2_with fail
      exact ⟨⟨k + 1,by omega,by go_num,H2⟩,by simp [intOf]; omega⟩
    · obtain rfl : n = k := by omega
      have hf : Hid (Wr W0 B (xs ++ [UInt8.ofNat n] ++ manyW txtC l) (cs) wr) := by show Wr _ _ _ _ _; have := unhide hW; rwa [show l.take n = l from List.take_of_length_le (by rw [<- unhide HN]; exact Nat.le_refl _)] at this
      clear hW
      go_wp2_with fail
      go_end0
      exact ⟨rfl,by rw [<- unhide HE]; exact unhide hf⟩
set_option maxRecDepth 100000 in
set_option maxHeartbeats 16000000 in
theorem pw_req (y : VReq) (u0 : Value) (hu0 : Lst strK W0 u0 y.vals) (h : Wr W0 B xs cs w) (hl : Room (xs ++ reqC.w y)) :
    Calls Tryz.prog 72 #[.pointer (some ⟨B,0,none⟩),.agg #[.string (bytesT y.key),.int .i64 y.op,u0,.int .i64 y.n]] w fun e w' => e = .returned (.tuple #[]) /\ Wr W0 B (xs ++ reqC.w y) cs w' := by
  have HE : Hid (xs ++ txtC.w y.key ++ numC.w y.op ++ (listC txtC).w y.vals ++ numC.w y.n = xs ++ reqC.w y) := by show _ = _; simp only [List.append_assoc]; rfl
  have HL : Hid (Room (xs ++ txtC.w y.key ++ numC.w y.op ++ (listC txtC).w y.vals ++ numC.w y.n)) := by show Room _; rw [unhide HE]; exact hl
  have H0 := hide (h.box [.string (bytesT y.key),.int .i64 y.op,u0,.int .i64 y.n] 138)
  have HUu0 := hide hu0
  clear h hl hu0
  have hmf : ∀ (fn : Fn) (first cap : Array Value) (w : World),(Instr.makeFunc fn first cap).run Tryz.prog w = .ok (.func fn first cap) w := fun _ _ _ _ => rfl
  go_enter Tryz.func72,Tryz.ntmps72
  go_wp2_with fail
  refine (pw_text y.key (unhide H0) (room_pre (room_pre (room_pre (unhide HL))))).mono ?_
  rintro e w1 ⟨rfl,hw⟩
  have c1 : w1.cell? ⟨w.heap.size,1,none⟩ = some (.int .i64 y.op) := hw.at 1 rfl
  have H1 := hide hw
  clear hw H0
  go_wp2_with fail
  refine (pw_num y.op (unhide H1) (room_pre (room_pre (unhide HL)))).mono ?_
  rintro e w2 ⟨rfl,hw⟩
  have c2 : w2.cell? ⟨w.heap.size,2,none⟩ = some (u0) := hw.at 2 rfl
  have H2 := hide hw
  clear hw H1 c1
  go_wp2_with fail
  refine (pw_Lstr y.vals u0 (unhide HUu0) (unhide H2) (room_pre (unhide HL))).mono ?_
  rintro e w3 ⟨rfl,hw⟩
  have c3 : w3.cell? ⟨w.heap.size,3,none⟩ = some (.int .i64 y.n) := hw.at 3 rfl
  have H3 := hide hw
  clear hw H2 c2
  go_wp2_with fail
  refine (pw_num y.n (unhide H3) (unhide HL)).mono ?_
  rintro e w4 ⟨rfl,hw⟩
  have hz := hide hw
  clear hw c3
  go_wp2_with fail
  go_end0
  exact ⟨rfl,by rw [<- unhide HE]; exact (unhide hz).drop⟩
set_option maxRecDepth 100000 in
set_option maxHeartbeats 16000000 in
theorem pw_Llab (l : List (Txt × Txt)) (u : Value) (hu : Lst labK W0 u l) (h : Wr W0 B xs cs w) (hl : Room (xs ++ (listC labC).w l)) :
    Calls Tryz.prog 79 #[.pointer (some ⟨B,0,none⟩),u,.func (.func 80) #[.pointer (some ⟨B,0,none⟩)] #[]] w fun e w' => e = .returned (.tuple #[]) /\ Wr W0 B (xs ++ (listC labC).w l) cs w' := by
  have HU := hide hu
  have hlen := hu.len
  obtain ⟨a,c,rfl⟩ := hu.val
  clear hu
  obtain ⟨n,hn⟩ : ∃ n,n = l.length := ⟨_,rfl⟩
  rw [<- hn] at HU hlen ⊢
  have HN := hide hn
  have HE : Hid (xs ++ [UInt8.ofNat n] ++ manyW labC l = xs ++ (listC labC).w l) := by show _ = _; rw [List.append_assoc,hn]; rfl
  have HL : Hid (Room (xs ++ [UInt8.ofNat n] ++ manyW labC l)) := by show Room _; rw [unhide HE]; exact hl
  have H := hide h
  clear h hl hn
  go_enter Tryz.func79,Tryz.ntmps79
  go_wp2_with fail
  refine (pw_len n (unhide H) (room_pre (unhide HL))).mono ?_
  rintro e w1 ⟨rfl,hw⟩
  have H1 := hide hw
  clear hw H
  go_wp2_with fail
  go_loopw [14] (fun i W => ∃ k : Nat,k <= n /\ i = .int .i64 k /\ Hid (Wr W0 B (xs ++ [UInt8.ofNat n] ++ manyW labC (l.take k)) (cs) W)) (fun i _ => n - (intOf i).toNat)
  case atStart => exact ⟨0,Nat.zero_le _,rfl,by show Wr _ _ _ _ _; rw [List.take_zero]; show Wr _ _ (xs ++ [UInt8.ofNat n] ++ []) _ _; rw [List.append_nil]; exact unhide H1⟩
  case round =>
    obtain ⟨k,hk,rfl,hW⟩ := hrel
    by_cases hlt : k < n
    · have hlk : k < l.length := by rw [<- unhide HN]; exact hlt
      obtain ⟨b,o,rfl,hat⟩ := (unhide HU).at hlk
      have hnx : Hid (manyW labC (l.take (k + 1)) = manyW labC (l.take k) ++ labC.w l[k]) := many_next _ hlk
      have HLk : Hid (Room (xs ++ [UInt8.ofNat n] ++ manyW labC (l.take k) ++ labC.w l[k])) := many_room hlk (unhide HL)
      obtain ⟨y,hy⟩ : ∃ y,y = l[k] := ⟨_,rfl⟩
      rw [<- hy] at hat hnx HLk
      obtain ⟨⟨h0,_⟩,h1,_⟩ := lab_at.1 hat
      rw [show labK.size = 2 from rfl] at h0 h1
      replace h0 := cell_kept (unhide hW).gr h0
      replace h1 := cell_kept (unhide hW).gr h1
      have Hb := hide ((unhide hW).box [.string (bytesT y.1),.string (bytesT y.2)] 118)
      clear hy hat
      go_wp2_with fail
      refine (pw_lab y (unhide Hb) (unhide HLk)).mono ?_
      rintro e w2 ⟨rfl,hw⟩
      have H2 : Hid (Wr W0 B (xs ++ [UInt8.ofNat n] ++ manyW labC (l.take (k + 1))) (cs) w2) := by show Wr _ _ _ _ _; rw [unhide hnx,<- List.append_assoc]; exact hw.drop
      clear hw Hb
      go_wp2_with fail
      exact ⟨⟨k + 1,by omega,by go_num,H2⟩,by simp [intOf]; omega⟩
    · obtain rfl : n = k := by omega
      have hf : Hid (Wr W0 B (xs ++ [UInt8.ofNat n] ++ manyW labC l) (cs) wr) := by show Wr _ _ _ _ _; have := unhide hW; rwa [show l.take n = l from List.take_of_length_le (by rw [<- unhide HN]; exact Nat.le_refl _)] at this
      clear hW
      go_wp2_with fail
      go_end0
      exact ⟨rfl,by rw [<- unhide HE]; exact unhide hf⟩
set_option maxRecDepth 100000 in
set_option maxHeartbeats 16000000 in
theorem pw_Ltrm (l : List (VTerm)) (u : Value) (hu : Lst trmK W0 u l) (h : Wr W0 B xs cs w) (hl : Room (xs ++ (listC labC).w l)) :
    Calls Tryz.prog 77 #[.pointer (some ⟨B,0,none⟩),u,.func (.func 78) #[.pointer (some ⟨B,0,none⟩)] #[]] w fun e w' => e = .returned (.tuple #[]) /\ Wr W0 B (xs ++ (listC labC).w l) cs w' := by
  have HU := hide hu
  have hlen := hu.len
  obtain ⟨a,c,rfl⟩ := hu.val
  clear hu
  obtain ⟨n,hn⟩ : ∃ n,n = l.length := ⟨_,rfl⟩
  rw [<- hn] at HU hlen ⊢
  have HN := hide hn
  have HE : Hid (xs ++ [UInt8.ofNat n] ++ manyW labC l = xs ++ (listC labC).w l) := by show _ = _; rw [List.append_assoc,hn]; rfl
  have HL : Hid (Room (xs ++ [UInt8.ofNat n] ++ manyW labC l)) := by show Room _; rw [unhide HE]; exact hl
  have H := hide h
  clear h hl hn
  go_enter Tryz.func77,Tryz.ntmps77
  go_wp2_with fail
  refine (pw_len n (unhide H) (room_pre (unhide HL))).mono ?_
  rintro e w1 ⟨rfl,hw⟩
  have H1 := hide hw
  clear hw H
  go_wp2_with fail
  go_loopw [14] (fun i W => ∃ k : Nat,k <= n /\ i = .int .i64 k /\ Hid (Wr W0 B (xs ++ [UInt8.ofNat n] ++ manyW labC (l.take k)) (cs) W)) (fun i _ => n - (intOf i).toNat)
  case atStart => exact ⟨0,Nat.zero_le _,rfl,by show Wr _ _ _ _ _; rw [List.take_zero]; show Wr _ _ (xs ++ [UInt8.ofNat n] ++ []) _ _; rw [List.append_nil]; exact unhide H1⟩
  case round =>
    obtain ⟨k,hk,rfl,hW⟩ := hrel
    by_cases hlt : k < n
    · have hlk : k < l.length := by rw [<- unhide HN]; exact hlt
      obtain ⟨b,o,rfl,hat⟩ := (unhide HU).at hlk
      have hnx : Hid (manyW labC (l.take (k + 1)) = manyW labC (l.take k) ++ labC.w l[k]) := many_next _ hlk
      have HLk : Hid (Room (xs ++ [UInt8.ofNat n] ++ manyW labC (l.take k) ++ labC.w l[k])) := many_room hlk (unhide HL)
      obtain ⟨y,hy⟩ : ∃ y,y = l[k] := ⟨_,rfl⟩
      rw [<- hy] at hat hnx HLk
      obtain ⟨⟨h0,_⟩,h1,_⟩ := trm_at.1 hat
      rw [show trmK.size = 2 from rfl] at h0 h1
      replace h0 := cell_kept (unhide hW).gr h0
      replace h1 := cell_kept (unhide hW).gr h1
      have Hb := hide ((unhide hW).box [.string (bytesT y.1),.string (bytesT y.2)] 146)
      clear hy hat
      go_wp2_with fail
      refine (pw_trm y (unhide Hb) (unhide HLk)).mono ?_
      rintro e w2 ⟨rfl,hw⟩
      have H2 : Hid (Wr W0 B (xs ++ [UInt8.ofNat n] ++ manyW labC (l.take (k + 1))) (cs) w2) := by show Wr _ _ _ _ _; rw [unhide hnx,<- List.append_assoc]; exact hw.drop
      clear hw Hb
      go_wp2_with fail
      exact ⟨⟨k + 1,by omega,by go_num,H2⟩,by simp [intOf]; omega⟩
    · obtain rfl : n = k := by omega
      have hf : Hid (Wr W0 B (xs ++ [UInt8.ofNat n] ++ manyW labC l) (cs) wr) := by show Wr _ _ _ _ _; have := unhide hW; rwa [show l.take n = l from List.take_of_length_le (by rw [<- unhide HN]; exact Nat.le_refl _)] at this
      clear hW
      go_wp2_with fail
      go_end0
      exact ⟨rfl,by rw [<- unhide HE]; exact unhide hf⟩
set_option maxRecDepth 100000 in
set_option maxHeartbeats 16000000 in
theorem pw_Ltol (l : List (Txt × Txt × Bool)) (u : Value) (hu : Lst tolK W0 u l) (h : Wr W0 B xs cs w) (hl : Room (xs ++ (listC tolC).w l)) :
    Calls Tryz.prog 73 #[.pointer (some ⟨B,0,none⟩),u,.func (.func 74) #[.pointer (some ⟨B,0,none⟩)] #[]] w fun e w' => e = .returned (.tuple #[]) /\ Wr W0 B (xs ++ (listC tolC).w l) cs w' := by
  have HU := hide hu
  have hlen := hu.len
  obtain ⟨a,c,rfl⟩ := hu.val
  clear hu
  obtain ⟨n,hn⟩ : ∃ n,n = l.length := ⟨_,rfl⟩
  rw [<- hn] at HU hlen ⊢
  have HN := hide hn
  have HE : Hid (xs ++ [UInt8.ofNat n] ++ manyW tolC l = xs ++ (listC tolC).w l) := by show _ = _; rw [List.append_assoc,hn]; rfl
  have HL : Hid (Room (xs ++ [UInt8.ofNat n] ++ manyW tolC l)) := by show Room _; rw [unhide HE]; exact hl
  have H := hide h
  clear h hl hn
  go_enter Tryz.func73,Tryz.ntmps73
  go_wp2_with fail
  refine (pw_len n (unhide H) (room_pre (unhide HL))).mono ?_
  rintro e w1 ⟨rfl,hw⟩
  have H1 := hide hw
  clear hw H
  go_wp2_with fail
  go_loopw [14] (fun i W => ∃ k : Nat,k <= n /\ i = .int .i64 k /\ Hid (Wr W0 B (xs ++ [UInt8.ofNat n] ++ manyW tolC (l.take k)) (cs) W)) (fun i _ => n - (intOf i).toNat)
  case atStart => exact ⟨0,Nat.zero_le _,rfl,by show Wr _ _ _ _ _; rw [List.take_zero]; show Wr _ _ (xs ++ [UInt8.ofNat n] ++ []) _ _; rw [List.append_nil]; exact unhide H1⟩
  case round =>
    obtain ⟨k,hk,rfl,hW⟩ := hrel
    by_cases hlt : k < n
    · have hlk : k < l.length := by rw [<- unhide HN]; exact hlt
      obtain ⟨b,o,rfl,hat⟩ := (unhide HU).at hlk
      have hnx : Hid (manyW tolC (l.take (k + 1)) = manyW tolC (l.take k) ++ tolC.w l[k]) := many_next _ hlk
      have HLk : Hid (Room (xs ++ [UInt8.ofNat n] ++ manyW tolC (l.take k) ++ tolC.w l[k])) := many_room hlk (unhide HL)
      obtain ⟨y,hy⟩ : ∃ y,y = l[k] := ⟨_,rfl⟩
      rw [<- hy] at hat hnx HLk
      obtain ⟨⟨h0,_⟩,⟨h1,_⟩,h2⟩ := tol_at.1 hat
      rw [show tolK.size = 3 from rfl] at h0 h1 h2
      replace h0 := cell_kept (unhide hW).gr h0
      replace h1 := cell_kept (unhide hW).gr h1
      replace h2 := cell_kept (unhide hW).gr h2
      have Hb := hide ((unhide hW).box [.string (bytesT y.1),.string (bytesT y.2.1),.bool y.2.2] 112)
      clear hy hat
      go_wp2_with fail
      refine (pw_tol y (unhide Hb) (unhide HLk)).mono ?_
      rintro e w2 ⟨rfl,hw⟩
      have H2 : Hid (Wr W0 B (xs ++ [UInt8.ofNat n] ++ manyW tolC (l.take (k + 1))) (cs) w2) := by show Wr _ _ _ _ _; rw [unhide hnx,<- List.append_assoc]; exact hw.drop
      clear hw Hb
      go_wp2_with fail
      exact ⟨⟨k + 1,by omega,by go_num,H2⟩,by simp [intOf]; omega⟩
    · obtain rfl : n = k := by omega
      have hf : Hid (Wr W0 B (xs ++ [UInt8.ofNat n] ++ manyW tolC l) (cs) wr) := by show Wr _ _ _ _ _; have := unhide hW; rwa [show l.take n = l from List.take_of_length_le (by rw [<- unhide HN]; exact Nat.le_refl _)] at this
      clear hW
      go_wp2_with fail
      go_end0
      exact ⟨rfl,by rw [<- unhide HE]; exact unhide hf⟩
set_option maxRecDepth 100000 in
set_option maxHeartbeats 16000000 in
theorem pw_Lspr (l : List (VSpr)) (u : Value) (hu : Lst sprK W0 u l) (h : Wr W0 B xs cs w) (hl : Room (xs ++ (listC sprC).w l)) :
    Calls Tryz.prog 75 #[.pointer (some ⟨B,0,none⟩),u,.func (.func 76) #[.pointer (some ⟨B,0,none⟩)] #[]] w fun e w' => e = .returned (.tuple #[]) /\ Wr W0 B (xs ++ (listC sprC).w l) cs w' := by
  have HU := hide hu
  have hlen := hu.len
  obtain ⟨a,c,rfl⟩ := hu.val
  clear hu
  obtain ⟨n,hn⟩ : ∃ n,n = l.length := ⟨_,rfl⟩
  rw [<- hn] at HU hlen ⊢
  have HN := hide hn
  have HE : Hid (xs ++ [UInt8.ofNat n] ++ manyW sprC l = xs ++ (listC sprC).w l) := by show _ = _; rw [List.append_assoc,hn]; rfl
  have HL : Hid (Room (xs ++ [UInt8.ofNat n] ++ manyW sprC l)) := by show Room _; rw [unhide HE]; exact hl
  have H := hide h
  clear h hl hn
  go_enter Tryz.func75,Tryz.ntmps75
  go_wp2_with fail
  refine (pw_len n (unhide H) (room_pre (unhide HL))).mono ?_
  rintro e w1 ⟨rfl,hw⟩
  have H1 := hide hw
  clear hw H
  go_wp2_with fail
  go_loopw [14] (fun i W => ∃ k : Nat,k <= n /\ i = .int .i64 k /\ Hid (Wr W0 B (xs ++ [UInt8.ofNat n] ++ manyW sprC (l.take k)) (cs) W)) (fun i _ => n - (intOf i).toNat)
  case atStart => exact ⟨0,Nat.zero_le _,rfl,by show Wr _ _ _ _ _; rw [List.take_zero]; show Wr _ _ (xs ++ [UInt8.ofNat n] ++ []) _ _; rw [List.append_nil]; exact unhide H1⟩
  case round =>
    obtain ⟨k,hk,rfl,hW⟩ := hrel
    by_cases hlt : k < n
    · have hlk : k < l.length := by rw [<- unhide HN]; exact hlt
      obtain ⟨b,o,rfl,hat⟩ := (unhide HU).at hlk
      have hnx : Hid (manyW sprC (l.take (k + 1)) = manyW sprC (l.take k) ++ sprC.w l[k]) := many_next _ hlk
      have HLk : Hid (Room (xs ++ [UInt8.ofNat n] ++ manyW sprC (l.take k) ++ sprC.w l[k])) := many_room hlk (unhide HL)
      obtain ⟨y,hy⟩ : ∃ y,y = l[k] := ⟨_,rfl⟩
      rw [<- hy] at hat hnx HLk
      obtain ⟨⟨h0,_⟩,⟨h1,_⟩,h2⟩ := spr_at.1 hat
      rw [show sprK.size = 3 from rfl] at h0 h1 h2
      replace h0 := cell_kept (unhide hW).gr h0
      replace h1 := cell_kept (unhide hW).gr h1
      replace h2 := cell_kept (unhide hW).gr h2
      have Hb := hide ((unhide hW).box [.string (bytesT y.1),.string (bytesT y.2.1),.int .i64 y.2.2] 115)
      clear hy hat
      go_wp2_with fail
      refine (pw_spr y (unhide Hb) (unhide HLk)).mono ?_
      rintro e w2 ⟨rfl,hw⟩
      have H2 : Hid (Wr W0 B (xs ++ [UInt8.ofNat n] ++ manyW sprC (l.take (k + 1))) (cs) w2) := by show Wr _ _ _ _ _; rw [unhide hnx,<- List.append_assoc]; exact hw.drop
      clear hw Hb
      go_wp2_with fail
      exact ⟨⟨k + 1,by omega,by go_num,H2⟩,by simp [intOf]; omega⟩
    · obtain rfl : n = k := by omega
      have hf : Hid (Wr W0 B (xs ++ [UInt8.ofNat n] ++ manyW sprC l) (cs) wr) := by show Wr _ _ _ _ _; have := unhide hW; rwa [show l.take n = l from List.take_of_length_le (by rw [<- unhide HN]; exact Nat.le_refl _)] at this
      clear hW
      go_wp2_with fail
      go_end0
      exact ⟨rfl,by rw [<- unhide HE]; exact unhide hf⟩
set_option maxRecDepth 100000 in
set_option maxHeartbeats 16000000 in
theorem pw_Loff (l : List (VOff)) (u : Value) (hu : Lst offK W0 u l) (h : Wr W0 B xs cs w) (hl : Room (xs ++ (listC offC).w l)) :
    Calls Tryz.prog 82 #[.pointer (some ⟨B,0,none⟩),u,.func (.func 81) #[.pointer (some ⟨B,0,none⟩)] #[]] w fun e w' => e = .returned (.tuple #[]) /\ Wr W0 B (xs ++ (listC offC).w l) cs w' := by
  have HU := hide hu
  have hlen := hu.len
  obtain ⟨a,c,rfl⟩ := hu.val
  clear hu
  obtain ⟨n,hn⟩ : ∃ n,n = l.length := ⟨_,rfl⟩
  rw [<- hn] at HU hlen ⊢
  have HN := hide hn
  have HE : Hid (xs ++ [UInt8.ofNat n] ++ manyW offC l = xs ++ (listC offC).w l) := by show _ = _; rw [List.append_assoc,hn]; rfl
  have HL : Hid (Room (xs ++ [UInt8.ofNat n] ++ manyW offC l)) := by show Room _; rw [unhide HE]; exact hl
  have H := hide h
  clear h hl hn
  go_enter Tryz.func82,Tryz.ntmps82
  go_wp2_with fail
  refine (pw_len n (unhide H) (room_pre (unhide HL))).mono ?_
  rintro e w1 ⟨rfl,hw⟩
  have H1 := hide hw
  clear hw H
  go_wp2_with fail
  go_loopw [14] (fun i W => ∃ k : Nat,k <= n /\ i = .int .i64 k /\ Hid (Wr W0 B (xs ++ [UInt8.ofNat n] ++ manyW offC (l.take k)) (cs) W)) (fun i _ => n - (intOf i).toNat)
  case atStart => exact ⟨0,Nat.zero_le _,rfl,by show Wr _ _ _ _ _; rw [List.take_zero]; show Wr _ _ (xs ++ [UInt8.ofNat n] ++ []) _ _; rw [List.append_nil]; exact unhide H1⟩
  case round =>
    obtain ⟨k,hk,rfl,hW⟩ := hrel
    by_cases hlt : k < n
    · have hlk : k < l.length := by rw [<- unhide HN]; exact hlt
      obtain ⟨b,o,rfl,hat⟩ := (unhide HU).at hlk
      have hnx : Hid (manyW offC (l.take (k + 1)) = manyW offC (l.take k) ++ offC.w l[k]) := many_next _ hlk
      have HLk : Hid (Room (xs ++ [UInt8.ofNat n] ++ manyW offC (l.take k) ++ offC.w l[k])) := many_room hlk (unhide HL)
      obtain ⟨y,hy⟩ : ∃ y,y = l[k] := ⟨_,rfl⟩
      rw [<- hy] at hat hnx HLk
      obtain ⟨⟨h0,_⟩,⟨h1,_⟩,h2,_⟩ := off_at.1 hat
      rw [show offK.size = 3 from rfl] at h0 h1 h2
      replace h0 := cell_kept (unhide hW).gr h0
      replace h1 := cell_kept (unhide hW).gr h1
      replace h2 := cell_kept (unhide hW).gr h2
      have Hb := hide ((unhide hW).box [.string (bytesT y.1),.string (bytesT y.2.1),.string (bytesT y.2.2)] 34)
      clear hy hat
      go_wp2_with fail
      refine (pw_off y (unhide Hb) (unhide HLk)).mono ?_
      rintro e w2 ⟨rfl,hw⟩
      have H2 : Hid (Wr W0 B (xs ++ [UInt8.ofNat n] ++ manyW offC (l.take (k + 1))) (cs) w2) := by show Wr _ _ _ _ _; rw [unhide hnx,<- List.append_assoc]; exact hw.drop
      clear hw Hb
      go_wp2_with fail
      exact ⟨⟨k + 1,by omega,by go_num,H2⟩,by simp [intOf]; omega⟩
    · obtain rfl : n = k := by omega
      have hf : Hid (Wr W0 B (xs ++ [UInt8.ofNat n] ++ manyW offC l) (cs) wr) := by show Wr _ _ _ _ _; have := unhide hW; rwa [show l.take n = l from List.take_of_length_le (by rw [<- unhide HN]; exact Nat.le_refl _)] at this
      clear hW
      go_wp2_with fail
      go_end0
      exact ⟨rfl,by rw [<- unhide HE]; exact unhide hf⟩
set_option maxRecDepth 100000 in
set_option maxHeartbeats 16000000 in
theorem pw_Lreq (l : List (VReq)) (u : Value) (hu : Lst reqK W0 u l) (h : Wr W0 B xs cs w) (hl : Room (xs ++ (listC reqC).w l)) :
    Calls Tryz.prog 71 #[.pointer (some ⟨B,0,none⟩),u,.func (.func 72) #[.pointer (some ⟨B,0,none⟩)] #[]] w fun e w' => e = .returned (.tuple #[]) /\ Wr W0 B (xs ++ (listC reqC).w l) cs w' := by
  have HU := hide hu
  have hlen := hu.len
  obtain ⟨a,c,rfl⟩ := hu.val
  clear hu
  obtain ⟨n,hn⟩ : ∃ n,n = l.length := ⟨_,rfl⟩
  rw [<- hn] at HU hlen ⊢
  have HN := hide hn
  have HE : Hid (xs ++ [UInt8.ofNat n] ++ manyW reqC l = xs ++ (listC reqC).w l) := by show _ = _; rw [List.append_assoc,hn]; rfl
  have HL : Hid (Room (xs ++ [UInt8.ofNat n] ++ manyW reqC l)) := by show Room _; rw [unhide HE]; exact hl
  have H := hide h
  clear h hl hn
  go_enter Tryz.func71,Tryz.ntmps71
  go_wp2_with fail
  refine (pw_len n (unhide H) (room_pre (unhide HL))).mono ?_
  rintro e w1 ⟨rfl,hw⟩
  have H1 := hide hw
  clear hw H
  go_wp2_with fail
  go_loopw [14] (fun i W => ∃ k : Nat,k <= n /\ i = .int .i64 k /\ Hid (Wr W0 B (xs ++ [UInt8.ofNat n] ++ manyW reqC (l.take k)) (cs) W)) (fun i _ => n - (intOf i).toNat)
  case atStart => exact ⟨0,Nat.zero_le _,rfl,by show Wr _ _ _ _ _; rw [List.take_zero]; show Wr _ _ (xs ++ [UInt8.ofNat n] ++ []) _ _; rw [List.append_nil]; exact unhide H1⟩
  case round =>
    obtain ⟨k,hk,rfl,hW⟩ := hrel
    by_cases hlt : k < n
    · have hlk : k < l.length := by rw [<- unhide HN]; exact hlt
      obtain ⟨b,o,rfl,hat⟩ := (unhide HU).at hlk
      have hnx : Hid (manyW reqC (l.take (k + 1)) = manyW reqC (l.take k) ++ reqC.w l[k]) := many_next _ hlk
      have HLk : Hid (Room (xs ++ [UInt8.ofNat n] ++ manyW reqC (l.take k) ++ reqC.w l[k])) := many_room hlk (unhide HL)
      obtain ⟨y,hy⟩ : ∃ y,y = l[k] := ⟨_,rfl⟩
      rw [<- hy] at hat hnx HLk
      obtain ⟨⟨h0,_⟩,h1,⟨u0,h2,hu0⟩,h3⟩ := req_at.1 hat
      rw [show reqK.size = 4 from rfl] at h0 h1 h2 h3
      replace h0 := cell_kept (unhide hW).gr h0
      replace h1 := cell_kept (unhide hW).gr h1
      replace h2 := cell_kept (unhide hW).gr h2
      replace h3 := cell_kept (unhide hW).gr h3
      obtain ⟨a0,d0,rfl⟩ := hu0.val
      have HU1 := hide hu0
      clear hu0
      have Hb := hide ((unhide hW).box [.string (bytesT y.key),.int .i64 y.op,(.slice a0 y.vals.length d0),.int .i64 y.n] 138)
      clear hy hat
      go_wp2_with fail
      refine (pw_req y _ (unhide HU1) (unhide Hb) (unhide HLk)).mono ?_
      rintro e w2 ⟨rfl,hw⟩
      have H2 : Hid (Wr W0 B (xs ++ [UInt8.ofNat n] ++ manyW reqC (l.take (k + 1))) (cs) w2) := by show Wr _ _ _ _ _; rw [unhide hnx,<- List.append_assoc]; exact hw.drop
      clear hw Hb
      go_wp2_with fail
      exact ⟨⟨k + 1,by omega,by go_num,H2⟩,by simp [intOf]; omega⟩
    · obtain rfl : n = k := by omega
      have hf : Hid (Wr W0 B (xs ++ [UInt8.ofNat n] ++ manyW reqC l) (cs) wr) := by show Wr _ _ _ _ _; have := unhide hW; rwa [show l.take n = l from List.take_of_length_le (by rw [<- unhide HN]; exact Nat.le_refl _)] at this
      clear hW
      go_wp2_with fail
      go_end0
      exact ⟨rfl,by rw [<- unhide HE]; exact unhide hf⟩
end
end Go.Proofs.YtfpfdnapamdhjaaGreatDoor

/- Layer 9: the program's writers of coolings,commands,claims,pools,pods -/
namespace Go.Proofs.YtfpfdnapamdhjaaGreatDoor
open Go.RowKit Suf Val

section
variable {W0 w : World} {B : Nat} {xs : Txt} {cs : List (Addr × Value)}
set_option maxRecDepth 100000 in
set_option maxHeartbeats 16000000 in
theorem pw_cool (y : VCool) (h : Wr W0 B xs cs w) (hl : Room (xs ++ coolC.w y)) :
    Calls Tryz.prog 37 #[.pointer (some ⟨B,0,none⟩),.agg #[.string (bytesT y.1.1),.string (bytesT y.1.2.1),.string (bytesT y.1.2.2),.int .i64 y.2]] w fun e w' => e = .returned (.tuple #[]) /\ Wr W0 B (xs ++ coolC.w y) cs w' := by
  have HE : Hid (xs ++ offC.w y.1 ++ numC.w y.2 = xs ++ coolC.w y) := by show _ = _; simp only [List.append_assoc]; rfl
  have HL : Hid (Room (xs ++ offC.w y.1 ++ numC.w y.2)) := by show Room _; rw [unhide HE]; exact hl
  have H0 := hide (h.box [.string (bytesT y.1.1),.string (bytesT y.1.2.1),.string (bytesT y.1.2.2),.int .i64 y.2] 42)
  clear h hl
  go_enter Tryz.func37,Tryz.ntmps37
  go_wp2_with fail
  refine (pw_off y.1 (unhide H0) (room_pre (unhide HL))).mono ?_
  rintro e w1 ⟨rfl,hw⟩
  have c3 : w1.cell? ⟨w.heap.size,3,none⟩ = some (.int .i64 y.2) := hw.at 3 rfl
  have H1 := hide hw
  clear hw H0
  go_wp2_with fail
  refine (pw_num y.2 (unhide H1) (unhide HL)).mono ?_
  rintro e w2 ⟨rfl,hw⟩
  have hz := hide hw
  clear hw c3
  go_wp2_with fail
  go_end0
  exact ⟨rfl,by rw [<- unhide HE]; exact (unhide hz).drop⟩
set_option maxRecDepth 100000 in
set_option maxHeartbeats 16000000 in
theorem pw_cmd (y : VCmd) (u0 : Value) (hu0 : Lst strK W0 u0 y.nodes) (u1 : Value) (hu1 : Lst offK W0 u1 y.opts) (h : Wr W0 B xs cs w) (hl : Room (xs ++ cmdC.w y)) :
    Calls Tryz.prog 36 #[.pointer (some ⟨B,0,none⟩),.agg #[.int .i64 y.cause,u0,.int .i64 y.step,.int .i64 y.til,.string (bytesT y.fresh),.string (bytesT y.pool),u1,.bool y.made]] w fun e w' => e = .returned (.tuple #[]) /\ Wr W0 B (xs ++ cmdC.w y) cs w' := by
  have HE : Hid (xs ++ numC.w y.cause ++ (listC txtC).w y.nodes ++ numC.w y.step ++ numC.w y.til ++ txtC.w y.fresh ++ txtC.w y.pool ++ (listC offC).w y.opts ++ truthC.w y.made = xs ++ cmdC.w y) := by show _ = _; simp only [List.append_assoc]; rfl
  have HL : Hid (Room (xs ++ numC.w y.cause ++ (listC txtC).w y.nodes ++ numC.w y.step ++ numC.w y.til ++ txtC.w y.fresh ++ txtC.w y.pool ++ (listC offC).w y.opts ++ truthC.w y.made)) := by show Room _; rw [unhide HE]; exact hl
  have H0 := hide (h.box [.int .i64 y.cause,u0,.int .i64 y.step,.int .i64 y.til,.string (bytesT y.fresh),.string (bytesT y.pool),u1,.bool y.made] 40)
  have HUu0 := hide hu0
  have HUu1 := hide hu1
  clear h hl hu0 hu1
  have hmf : ∀ (fn : Fn) (first cap : Array Value) (w : World),(Instr.makeFunc fn first cap).run Tryz.prog w = .ok (.func fn first cap) w := fun _ _ _ _ => rfl
  go_enter Tryz.func36,Tryz.ntmps36
  go_wp2_with fail
  refine (pw_num y.cause (unhide H0) (room_pre (room_pre (room_pre (room_pre (room_pre (room_pre (room_pre (unhide HL))))))))).mono ?_
  rintro e w1 ⟨rfl,hw⟩
  have c1 : w1.cell? ⟨w.heap.size,1,none⟩ = some (u0) := hw.at 1 rfl
  have H1 := hide hw
  clear hw H0
  go_wp2_with fail
  refine (pw_Lstr y.nodes u0 (unhide HUu0) (unhide H1) (room_pre (room_pre (room_pre (room_pre (room_pre (room_pre (unhide HL)))))))).mono ?_
  rintro e w2 ⟨rfl,hw⟩
  have c2 : w2.cell? ⟨w.heap.size,2,none⟩ = some (.int .i64 y.step) := hw.at 2 rfl
  have H2 := hide hw
  clear hw H1 c1
  go_wp2_with fail
  refine (pw_num y.step (unhide H2) (room_pre (room_pre (room_pre (room_pre (room_pre (unhide HL))))))).mono ?_
  rintro e w3 ⟨rfl,hw⟩
  have c3 : w3.cell? ⟨w.heap.size,3,none⟩ = some (.int .i64 y.til) := hw.at 3 rfl
  have H3 := hide hw
  clear hw H2 c2
  go_wp2_with fail
  refine (pw_num y.til (unhide H3) (room_pre (room_pre (room_pre (room_pre (unhide HL)))))).mono ?_
  rintro e w4 ⟨rfl,hw⟩
  have c4 : w4.cell? ⟨w.heap.size,4,none⟩ = some (.string (bytesT y.fresh)) := hw.at 4 rfl
  have H4 := hide hw
  clear hw H3 c3
  go_wp2_with fail
  refine (pw_text y.fresh (unhide H4) (room_pre (room_pre (room_pre (unhide HL))))).mono ?_
  rintro e w5 ⟨rfl,hw⟩
  have c5 : w5.cell? ⟨w.heap.size,5,none⟩ = some (.string (bytesT y.pool)) := hw.at 5 rfl
  have H5 := hide hw
  clear hw H4 c4
  go_wp2_with fail
  refine (pw_text y.pool (unhide H5) (room_pre (room_pre (unhide HL)))).mono ?_
  rintro e w6 ⟨rfl,hw⟩
  have c6 : w6.cell? ⟨w.heap.size,6,none⟩ = some (u1) := hw.at 6 rfl
  have H6 := hide hw
  clear hw H5 c5
  go_wp2_with fail
  refine (pw_Loff y.opts u1 (unhide HUu1) (unhide H6) (room_pre (unhide HL))).mono ?_
  rintro e w7 ⟨rfl,hw⟩
  have c7 : w7.cell? ⟨w.heap.size,7,none⟩ = some (.bool y.made) := hw.at 7 rfl
  have H7 := hide hw
  clear hw H6 c6
  go_wp2_with fail
  refine (pw_truth y.made (unhide H7) (unhide HL)).mono ?_
  rintro e w8 ⟨rfl,hw⟩
  have hz := hide hw
  clear hw c7
  go_wp2_with fail
  go_end0
  exact ⟨rfl,by rw [<- unhide HE]; exact (unhide hz).drop⟩
set_option maxRecDepth 100000 in
set_option maxHeartbeats 16000000 in
theorem pw_clm (y : VClaim) (u0 : Value) (hu0 : Lst offK W0 u0 y.opts) (h : Wr W0 B xs cs w) (hl : Room (xs ++ clmC.w y)) :
    Calls Tryz.prog 35 #[.pointer (some ⟨B,0,none⟩),.agg #[.string (bytesT y.name),.string (bytesT y.pool),.int .i64 y.gen,.string (bytesT y.offer.1),.string (bytesT y.offer.2.1),.string (bytesT y.offer.2.2),.int .i64 y.price,.int .i64 y.cap.1,.int .i64 y.cap.2,u0,.int .i64 y.tryN,.string (bytesT y.id),.int .i64 y.phase,.int .i64 y.born,.bool y.marked]] w fun e w' => e = .returned (.tuple #[]) /\ Wr W0 B (xs ++ clmC.w y) cs w' := by
  have HE : Hid (xs ++ txtC.w y.name ++ txtC.w y.pool ++ numC.w y.gen ++ offC.w y.offer ++ numC.w y.price ++ amtC.w y.cap ++ (listC offC).w y.opts ++ numC.w y.tryN ++ txtC.w y.id ++ numC.w y.phase ++ numC.w y.born ++ truthC.w y.marked = xs ++ clmC.w y) := by show _ = _; simp only [List.append_assoc]; rfl
  have HL : Hid (Room (xs ++ txtC.w y.name ++ txtC.w y.pool ++ numC.w y.gen ++ offC.w y.offer ++ numC.w y.price ++ amtC.w y.cap ++ (listC offC).w y.opts ++ numC.w y.tryN ++ txtC.w y.id ++ numC.w y.phase ++ numC.w y.born ++ truthC.w y.marked)) := by show Room _; rw [unhide HE]; exact hl
  have H0 := hide (h.box [.string (bytesT y.name),.string (bytesT y.pool),.int .i64 y.gen,.string (bytesT y.offer.1),.string (bytesT y.offer.2.1),.string (bytesT y.offer.2.2),.int .i64 y.price,.int .i64 y.cap.1,.int .i64 y.cap.2,u0,.int .i64 y.tryN,.string (bytesT y.id),.int .i64 y.phase,.int .i64 y.born,.bool y.marked] 37)
  have HUu0 := hide hu0
  clear h hl hu0
  have hmf : ∀ (fn : Fn) (first cap : Array Value) (w : World),(Instr.makeFunc fn first cap).run Tryz.prog w = .ok (.func fn first cap) w := fun _ _ _ _ => rfl
  go_enter Tryz.func35,Tryz.ntmps35
  go_wp2_with fail
  refine (pw_text y.name (unhide H0) (room_pre (room_pre (room_pre (room_pre (room_pre (room_pre (room_pre (room_pre (room_pre (room_pre (room_pre (unhide HL))))))))))))).mono ?_
  rintro e w1 ⟨rfl,hw⟩
  have c1 : w1.cell? ⟨w.heap.size,1,none⟩ = some (.string (bytesT y.pool)) := hw.at 1 rfl
  have H1 := hide hw
  clear hw H0
  go_wp2_with fail
  refine (pw_text y.pool (unhide H1) (room_pre (room_pre (room_pre (room_pre (room_pre (room_pre (room_pre (room_pre (room_pre (room_pre (unhide HL)))))))))))).mono ?_
  rintro e w2 ⟨rfl,hw⟩
  have c2 : w2.cell? ⟨w.heap.size,2,none⟩ = some (.int .i64 y.gen) := hw.at 2 rfl
  have H2 := hide hw
  clear hw H1 c1
  go_wp2_with fail
  refine (pw_num y.gen (unhide H2) (room_pre (room_pre (room_pre (room_pre (room_pre (room_pre (room_pre (room_pre (room_pre (unhide HL))))))))))).mono ?_
  rintro e w3 ⟨rfl,hw⟩
  have c3 : w3.cell? ⟨w.heap.size,3,none⟩ = some (.string (bytesT y.offer.1)) := hw.at 3 rfl
  have c4 : w3.cell? ⟨w.heap.size,4,none⟩ = some (.string (bytesT y.offer.2.1)) := hw.at 4 rfl
  have c5 : w3.cell? ⟨w.heap.size,5,none⟩ = some (.string (bytesT y.offer.2.2)) := hw.at 5 rfl
  have H3 := hide hw
  clear hw H2 c2
  go_wp2_with fail
  refine (pw_off y.offer (unhide H3) (room_pre (room_pre (room_pre (room_pre (room_pre (room_pre (room_pre (room_pre (unhide HL)))))))))).mono ?_
  rintro e w4 ⟨rfl,hw⟩
  have c6 : w4.cell? ⟨w.heap.size,6,none⟩ = some (.int .i64 y.price) := hw.at 6 rfl
  have H4 := hide hw
  clear hw H3 c3 c4 c5
  go_wp2_with fail
  refine (pw_num y.price (unhide H4) (room_pre (room_pre (room_pre (room_pre (room_pre (room_pre (room_pre (unhide HL))))))))).mono ?_
  rintro e w5 ⟨rfl,hw⟩
  have c7 : w5.cell? ⟨w.heap.size,7,none⟩ = some (.int .i64 y.cap.1) := hw.at 7 rfl
  have c8 : w5.cell? ⟨w.heap.size,8,none⟩ = some (.int .i64 y.cap.2) := hw.at 8 rfl
  have H5 := hide hw
  clear hw H4 c6
  go_wp2_with fail
  refine (pw_amt y.cap (unhide H5) (room_pre (room_pre (room_pre (room_pre (room_pre (room_pre (unhide HL)))))))).mono ?_
  rintro e w6 ⟨rfl,hw⟩
  have c9 : w6.cell? ⟨w.heap.size,9,none⟩ = some (u0) := hw.at 9 rfl
  have H6 := hide hw
  clear hw H5 c7 c8
  go_wp2_with fail
  refine (pw_Loff y.opts u0 (unhide HUu0) (unhide H6) (room_pre (room_pre (room_pre (room_pre (room_pre (unhide HL))))))).mono ?_
  rintro e w7 ⟨rfl,hw⟩
  have c10 : w7.cell? ⟨w.heap.size,10,none⟩ = some (.int .i64 y.tryN) := hw.at 10 rfl
  have H7 := hide hw
  clear hw H6 c9
  go_wp2_with fail
  refine (pw_num y.tryN (unhide H7) (room_pre (room_pre (room_pre (room_pre (unhide HL)))))).mono ?_
  rintro e w8 ⟨rfl,hw⟩
  have c11 : w8.cell? ⟨w.heap.size,11,none⟩ = some (.string (bytesT y.id)) := hw.at 11 rfl
  have H8 := hide hw
  clear hw H7 c10
  go_wp2_with fail
  refine (pw_text y.id (unhide H8) (room_pre (room_pre (room_pre (unhide HL))))).mono ?_
  rintro e w9 ⟨rfl,hw⟩
  have c12 : w9.cell? ⟨w.heap.size,12,none⟩ = some (.int .i64 y.phase) := hw.at 12 rfl
  have H9 := hide hw
  clear hw H8 c11
  go_wp2_with fail
  refine (pw_num y.phase (unhide H9) (room_pre (room_pre (unhide HL)))).mono ?_
  rintro e w10 ⟨rfl,hw⟩
  have c13 : w10.cell? ⟨w.heap.size,13,none⟩ = some (.int .i64 y.born) := hw.at 13 rfl
  have H10 := hide hw
  clear hw H9 c12
  go_wp2_with fail
  refine (pw_num y.born (unhide H10) (room_pre (unhide HL))).mono ?_
  rintro e w11 ⟨rfl,hw⟩
  have c14 : w11.cell? ⟨w.heap.size,14,none⟩ = some (.bool y.marked) := hw.at 14 rfl
  have H11 := hide hw
  clear hw H10 c13
  go_wp2_with fail
  refine (pw_truth y.marked (unhide H11) (unhide HL)).mono ?_
  rintro e w12 ⟨rfl,hw⟩
  have hz := hide hw
  clear hw c14
  go_wp2_with fail
  go_end0
  exact ⟨rfl,by rw [<- unhide HE]; exact (unhide hz).drop⟩
set_option maxRecDepth 100000 in
set_option maxHeartbeats 16000000 in
theorem pw_pol (y : VPool) (u0 : Value) (hu0 : Lst reqK W0 u0 y.reqs) (u1 : Value) (hu1 : Lst labK W0 u1 y.taints) (h : Wr W0 B xs cs w) (hl : Room (xs ++ polC.w y)) :
    Calls Tryz.prog 34 #[.pointer (some ⟨B,0,none⟩),.agg #[.string (bytesT y.name),.int .i64 y.weight,.int .i64 y.limit.1,.int .i64 y.limit.2,u0,u1,.int .i64 y.gen,.int .i64 y.expire,.int .i64 y.budget,.int .i64 y.merge]] w fun e w' => e = .returned (.tuple #[]) /\ Wr W0 B (xs ++ polC.w y) cs w' := by
  have HE : Hid (xs ++ txtC.w y.name ++ numC.w y.weight ++ amtC.w y.limit ++ (listC reqC).w y.reqs ++ (listC labC).w y.taints ++ numC.w y.gen ++ numC.w y.expire ++ numC.w y.budget ++ numC.w y.merge = xs ++ polC.w y) := by show _ = _; simp only [List.append_assoc]; rfl
  have HL : Hid (Room (xs ++ txtC.w y.name ++ numC.w y.weight ++ amtC.w y.limit ++ (listC reqC).w y.reqs ++ (listC labC).w y.taints ++ numC.w y.gen ++ numC.w y.expire ++ numC.w y.budget ++ numC.w y.merge)) := by show Room _; rw [unhide HE]; exact hl
  have H0 := hide (h.box [.string (bytesT y.name),.int .i64 y.weight,.int .i64 y.limit.1,.int .i64 y.limit.2,u0,u1,.int .i64 y.gen,.int .i64 y.expire,.int .i64 y.budget,.int .i64 y.merge] 32)
  have HUu0 := hide hu0
  have HUu1 := hide hu1
  clear h hl hu0 hu1
  have hmf : ∀ (fn : Fn) (first cap : Array Value) (w : World),(Instr.makeFunc fn first cap).run Tryz.prog w = .ok (.func fn first cap) w := fun _ _ _ _ => rfl
  go_enter Tryz.func34,Tryz.ntmps34
  go_wp2_with fail
  refine (pw_text y.name (unhide H0) (room_pre (room_pre (room_pre (room_pre (room_pre (room_pre (room_pre (room_pre (unhide HL)))))))))).mono ?_
  rintro e w1 ⟨rfl,hw⟩
  have c1 : w1.cell? ⟨w.heap.size,1,none⟩ = some (.int .i64 y.weight) := hw.at 1 rfl
  have H1 := hide hw
  clear hw H0
  go_wp2_with fail
  refine (pw_num y.weight (unhide H1) (room_pre (room_pre (room_pre (room_pre (room_pre (room_pre (room_pre (unhide HL))))))))).mono ?_
  rintro e w2 ⟨rfl,hw⟩
  have c2 : w2.cell? ⟨w.heap.size,2,none⟩ = some (.int .i64 y.limit.1) := hw.at 2 rfl
  have c3 : w2.cell? ⟨w.heap.size,3,none⟩ = some (.int .i64 y.limit.2) := hw.at 3 rfl
  have H2 := hide hw
  clear hw H1 c1
  go_wp2_with fail
  refine (pw_amt y.limit (unhide H2) (room_pre (room_pre (room_pre (room_pre (room_pre (room_pre (unhide HL)))))))).mono ?_
  rintro e w3 ⟨rfl,hw⟩
  have c4 : w3.cell? ⟨w.heap.size,4,none⟩ = some (u0) := hw.at 4 rfl
  have H3 := hide hw
  clear hw H2 c2 c3
  go_wp2_with fail
  refine (pw_Lreq y.reqs u0 (unhide HUu0) (unhide H3) (room_pre (room_pre (room_pre (room_pre (room_pre (unhide HL))))))).mono ?_
  rintro e w4 ⟨rfl,hw⟩
  have c5 : w4.cell? ⟨w.heap.size,5,none⟩ = some (u1) := hw.at 5 rfl
  have H4 := hide hw
  clear hw H3 c4
  go_wp2_with fail
  refine (pw_Llab y.taints u1 (unhide HUu1) (unhide H4) (room_pre (room_pre (room_pre (room_pre (unhide HL)))))).mono ?_
  rintro e w5 ⟨rfl,hw⟩
  have c6 : w5.cell? ⟨w.heap.size,6,none⟩ = some (.int .i64 y.gen) := hw.at 6 rfl
  have H5 := hide hw
  clear hw H4 c5
  go_wp2_with fail
  refine (pw_num y.gen (unhide H5) (room_pre (room_pre (room_pre (unhide HL))))).mono ?_
  rintro e w6 ⟨rfl,hw⟩
  have c7 : w6.cell? ⟨w.heap.size,7,none⟩ = some (.int .i64 y.expire) := hw.at 7 rfl
  have H6 := hide hw
  clear hw H5 c6
  go_wp2_with fail
  refine (pw_num y.expire (unhide H6) (room_pre (room_pre (unhide HL)))).mono ?_
  rintro e w7 ⟨rfl,hw⟩
  have c8 : w7.cell? ⟨w.heap.size,8,none⟩ = some (.int .i64 y.budget) := hw.at 8 rfl
  have H7 := hide hw
  clear hw H6 c7
  go_wp2_with fail
  refine (pw_num y.budget (unhide H7) (room_pre (unhide HL))).mono ?_
  rintro e w8 ⟨rfl,hw⟩
  have c9 : w8.cell? ⟨w.heap.size,9,none⟩ = some (.int .i64 y.merge) := hw.at 9 rfl
  have H8 := hide hw
  clear hw H7 c8
  go_wp2_with fail
  refine (pw_num y.merge (unhide H8) (unhide HL)).mono ?_
  rintro e w9 ⟨rfl,hw⟩
  have hz := hide hw
  clear hw c9
  go_wp2_with fail
  go_end0
  exact ⟨rfl,by rw [<- unhide HE]; exact (unhide hz).drop⟩
set_option maxRecDepth 100000 in
set_option maxHeartbeats 16000000 in
theorem pw_pod (y : VPod) (u0 : Value) (hu0 : Lst reqK W0 u0 y.reqs) (u1 : Value) (hu1 : Lst tolK W0 u1 y.tols) (u2 : Value) (hu2 : Lst sprK W0 u2 y.spread) (u3 : Value) (hu3 : Lst trmK W0 u3 y.near) (u4 : Value) (hu4 : Lst trmK W0 u4 y.apart) (h : Wr W0 B xs cs w) (hl : Room (xs ++ podC.w y)) :
    Calls Tryz.prog 33 #[.pointer (some ⟨B,0,none⟩),.agg #[.string (bytesT y.name),.string (bytesT y.app),.int .i64 y.need.1,.int .i64 y.need.2,.int .i64 y.prio,u0,u1,u2,u3,u4,.int .i64 y.since,.string (bytesT y.on)]] w fun e w' => e = .returned (.tuple #[]) /\ Wr W0 B (xs ++ podC.w y) cs w' := by
  have HE : Hid (xs ++ txtC.w y.name ++ txtC.w y.app ++ amtC.w y.need ++ numC.w y.prio ++ (listC reqC).w y.reqs ++ (listC tolC).w y.tols ++ (listC sprC).w y.spread ++ (listC labC).w y.near ++ (listC labC).w y.apart ++ numC.w y.since ++ txtC.w y.on = xs ++ podC.w y) := by show _ = _; simp only [List.append_assoc]; rfl
  have HL : Hid (Room (xs ++ txtC.w y.name ++ txtC.w y.app ++ amtC.w y.need ++ numC.w y.prio ++ (listC reqC).w y.reqs ++ (listC tolC).w y.tols ++ (listC sprC).w y.spread ++ (listC labC).w y.near ++ (listC labC).w y.apart ++ numC.w y.since ++ txtC.w y.on)) := by show Room _; rw [unhide HE]; exact hl
  have H0 := hide (h.box [.string (bytesT y.name),.string (bytesT y.app),.int .i64 y.need.1,.int .i64 y.need.2,.int .i64 y.prio,u0,u1,u2,u3,u4,.int .i64 y.since,.string (bytesT y.on)] 29)
  have HUu0 := hide hu0
  have HUu1 := hide hu1
  have HUu2 := hide hu2
  have HUu3 := hide hu3
  have HUu4 := hide hu4
  clear h hl hu0 hu1 hu2 hu3 hu4
  have hmf : ∀ (fn : Fn) (first cap : Array Value) (w : World),(Instr.makeFunc fn first cap).run Tryz.prog w = .ok (.func fn first cap) w := fun _ _ _ _ => rfl
  go_enter Tryz.func33,Tryz.ntmps33
  go_wp2_with fail
  refine (pw_text y.name (unhide H0) (room_pre (room_pre (room_pre (room_pre (room_pre (room_pre (room_pre (room_pre (room_pre (room_pre (unhide HL)))))))))))).mono ?_
  rintro e w1 ⟨rfl,hw⟩
  have c1 : w1.cell? ⟨w.heap.size,1,none⟩ = some (.string (bytesT y.app)) := hw.at 1 rfl
  have H1 := hide hw
  clear hw H0
  go_wp2_with fail
  refine (pw_text y.app (unhide H1) (room_pre (room_pre (room_pre (room_pre (room_pre (room_pre (room_pre (room_pre (room_pre (unhide HL))))))))))).mono ?_
  rintro e w2 ⟨rfl,hw⟩
  have c2 : w2.cell? ⟨w.heap.size,2,none⟩ = some (.int .i64 y.need.1) := hw.at 2 rfl
  have c3 : w2.cell? ⟨w.heap.size,3,none⟩ = some (.int .i64 y.need.2) := hw.at 3 rfl
  have H2 := hide hw
  clear hw H1 c1
  go_wp2_with fail
  refine (pw_amt y.need (unhide H2) (room_pre (room_pre (room_pre (room_pre (room_pre (room_pre (room_pre (room_pre (unhide HL)))))))))).mono ?_
  rintro e w3 ⟨rfl,hw⟩
  have c4 : w3.cell? ⟨w.heap.size,4,none⟩ = some (.int .i64 y.prio) := hw.at 4 rfl
  have H3 := hide hw
  clear hw H2 c2 c3
  go_wp2_with fail
  refine (pw_num y.prio (unhide H3) (room_pre (room_pre (room_pre (room_pre (room_pre (room_pre (room_pre (unhide HL))))))))).mono ?_
  rintro e w4 ⟨rfl,hw⟩
  have c5 : w4.cell? ⟨w.heap.size,5,none⟩ = some (u0) := hw.at 5 rfl
  have H4 := hide hw
  clear hw H3 c4
  go_wp2_with fail
  refine (pw_Lreq y.reqs u0 (unhide HUu0) (unhide H4) (room_pre (room_pre (room_pre (room_pre (room_pre (room_pre (unhide HL)))))))).mono ?_
  rintro e w5 ⟨rfl,hw⟩
  have c6 : w5.cell? ⟨w.heap.size,6,none⟩ = some (u1) := hw.at 6 rfl
  have H5 := hide hw
  clear hw H4 c5
  go_wp2_with fail
  refine (pw_Ltol y.tols u1 (unhide HUu1) (unhide H5) (room_pre (room_pre (room_pre (room_pre (room_pre (unhide HL))))))).mono ?_
  rintro e w6 ⟨rfl,hw⟩
  have c7 : w6.cell? ⟨w.heap.size,7,none⟩ = some (u2) := hw.at 7 rfl
  have H6 := hide hw
  clear hw H5 c6
  go_wp2_with fail
  refine (pw_Lspr y.spread u2 (unhide HUu2) (unhide H6) (room_pre (room_pre (room_pre (room_pre (unhide HL)))))).mono ?_
  rintro e w7 ⟨rfl,hw⟩
  have c8 : w7.cell? ⟨w.heap.size,8,none⟩ = some (u3) := hw.at 8 rfl
  have H7 := hide hw
  clear hw H6 c7
  go_wp2_with fail
  refine (pw_Ltrm y.near u3 (unhide HUu3) (unhide H7) (room_pre (room_pre (room_pre (unhide HL))))).mono ?_
  rintro e w8 ⟨rfl,hw⟩
  have c9 : w8.cell? ⟨w.heap.size,9,none⟩ = some (u4) := hw.at 9 rfl
  have H8 := hide hw
  clear hw H7 c8
  go_wp2_with fail
  refine (pw_Ltrm y.apart u4 (unhide HUu4) (unhide H8) (room_pre (room_pre (unhide HL)))).mono ?_
  rintro e w9 ⟨rfl,hw⟩
  have c10 : w9.cell? ⟨w.heap.size,10,none⟩ = some (.int .i64 y.since) := hw.at 10 rfl
  have H9 := hide hw
  clear hw H8 c9
  go_wp2_with fail
  refine (pw_num y.since (unhide H9) (room_pre (unhide HL))).mono ?_
  rintro e w10 ⟨rfl,hw⟩
  have c11 : w10.cell? ⟨w.heap.size,11,none⟩ = some (.string (bytesT y.on)) := hw.at 11 rfl
  have H10 := hide hw
  clear hw H9 c10
  go_wp2_with fail
  refine (pw_text y.on (unhide H10) (unhide HL)).mono ?_
  rintro e w11 ⟨rfl,hw⟩
  have hz := hide hw
  clear hw c11
  go_wp2_with fail
  go_end0
  exact ⟨rfl,by rw [<- unhide HE]; exact (unhide hz).drop⟩
end
end Go.Proofs.YtfpfdnapamdhjaaGreatDoor
