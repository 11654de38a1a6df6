/- Layer 9: numbers and amounts,written by the program and by the document. -/
import Derived.Test.YtfpfdnapamdhjaaGreatDoorWrBGZ
import Derived.Test.YtfpfdnapamdhjaaGreatDoorCdCGZ
import Derived.Deep.RegionLaw
namespace Go.Proofs.YtfpfdnapamdhjaaGreatDoor
open Go.RowKit Suf Val

section
variable {W0 w : World} {B : Nat} {xs : Txt} {cs : List (Addr × Value)}
theorem num_whole (z : Int) : (bytesN 8 z).take 8 = bytesN 8 z := List.take_of_length_le (by rw [bytesN_len]; omega)
theorem wrap_byte (k : Nat) (z : Int) : IntKind.u8.wrap (z / 2 ^ (8 * (k : Int)).toNat) = ((UInt8.ofNat (z / (256 ^ k : Nat) % 256).toNat).toNat : Int) := by
  rw [IntKind.wrap_u8,show (8 * (k : Int)).toNat = 8 * k by omega,<- Val.byte_at,Int.natCast_pow]; rfl
theorem wrap_8k {k : Nat} (h : k <= 8) : IntKind.i64.wrap (8 * (k : Int)) = 8 * (k : Int) := by
  rw [show (8 * (k : Int)) = ((8 * k : Nat) : Int) by omega,wrap_i64_eq]; unfold wrap64; omega
theorem num_room {z : Int} {k : Nat} (hl : Room (xs ++ numC.w z)) (hk : k < 8) : Room (xs ++ (bytesN 8 z).take k ++ [UInt8.ofNat (z / (256 ^ k : Nat) % 256).toNat]) := by
  rw [List.append_assoc,<- bytesN_next k z hk]
  have e : numC.w z = (bytesN 8 z).take (k + 1) ++ (bytesN 8 z).drop (k + 1) := (List.take_append_drop _ _).symm
  rw [e,<- List.append_assoc] at hl
  exact room_pre hl
set_option maxRecDepth 100000 in
set_option maxHeartbeats 16000000 in
theorem pw_num (z : Int) (h : Wr W0 B xs cs w) (hl : Room (xs ++ numC.w z)) :
    Calls Tryz.prog 70 #[.pointer (some ⟨B,0,none⟩),.int .i64 z] w fun e w' => e = .returned (.tuple #[]) /\ Wr W0 B (xs ++ numC.w z) cs w' := by
  have H := hide h
  have HR := hide hl
  clear h hl
  go_enter Tryz.func70,Tryz.ntmps70
  go_wp2_with fail
  go_loopw [5] (fun i W => ∃ k : Nat,k <= 8 /\ i = .int .i64 k /\ Hid (Wr W0 B (xs ++ (bytesN 8 z).take k) cs W)) (fun i _ => 8 - (intOf i).toNat)
  case atStart => exact ⟨0,by omega,rfl,by show Wr _ _ _ _ _; rw [List.take_zero,List.append_nil]; exact unhide H⟩
  case round =>
    obtain ⟨k,hk,rfl,hW⟩ := hrel
    by_cases hlt : k < 8
    · have hnx := hide (bytesN_next k z hlt)
      have HK := hide (num_room (unhide HR) hlt)
      have HB := hide (wrap_byte k z)
      obtain ⟨v,hv,_⟩ := (unhide hW).row
      have hfz := (unhide hW).fz
      have hva := cell_kept (boxw (w := wr) (.cells #[.int .u8 (IntKind.u8.wrap (z / 2 ^ (8 * (k : Int)).toNat))] 5)) hv
      have hwr := wrap_8k hk
      have hs0 : (0 : Int) <= 8 * (k : Int) := by omega
      go_wp2_with fail
      go_region_law (refine wr_byte_step (unhide hW) hv (unhide HB) (unhide HK) (by rfl) _ _ (by rfl) (by rfl) (by first | exact ((Below.refl _ _).alloc (Nat.le_refl _) _).drew | exact (Below.refl _ _).drew.alloc (Nat.le_refl _) _) (by rfl) (by simp [go_sem]) ?_; intro a' n' c' w2 c2 f2 hw)
      all_goals
        have H2 : Hid (Wr W0 B (xs ++ (bytesN 8 z).take (k + 1)) cs (w2.setCell ⟨B,0,none⟩ (.slice a' n' c'))) := by show Wr _ _ _ _ _; rw [unhide hnx,<- List.append_assoc]; exact unhide hw
        clear hw c2 f2
        go_wp2_with fail
        exact ⟨⟨k + 1,by omega,by go_num,H2⟩,by simp [intOf]; omega⟩
    · obtain rfl : k = 8 := by omega
      go_wp2_with fail
      go_end0
      exact ⟨rfl,by have := unhide hW; rw [num_whole] at this; exact this⟩
theorem wrap_byte_u (k : Nat) (z : Int) (hk : k < 8) : IntKind.u8.wrap (IntKind.u64.wrap z / 2 ^ (8 * (k : Int)).toNat) = ((UInt8.ofNat (z / (256 ^ k : Nat) % 256).toNat).toNat : Int) := by
  rw [IntKind.wrap_u64,wrap_byte]
  have e := bytes_mod 8 (z % 18446744073709551616) z (Int.emod_emod_of_dvd z ⟨1,by decide⟩)
  have h1 := bytesN_at 8 k (z % 18446744073709551616) hk
  rw [e,bytesN_at 8 k z hk] at h1
  injection h1 with h1
  rw [h1]
set_option maxRecDepth 100000 in
set_option maxHeartbeats 16000000 in
theorem dw_num (z : Int) (h : Wr W0 B xs cs w) (hl : Room (xs ++ numC.w z)) :
    Calls Tryz.prog 23 #[.pointer (some ⟨B,0,none⟩),.int .i64 z] w fun e w' => e = .returned (.tuple #[]) /\ Wr W0 B (xs ++ numC.w z) cs w' := by
  have H := hide h
  have HR := hide hl
  clear h hl
  go_enter Tryz.func23,Tryz.ntmps23
  go_wp2_with fail
  go_loopw [5] (fun i W => ∃ k : Nat,k <= 8 /\ i = .int .i64 k /\ Hid (Wr W0 B (xs ++ (bytesN 8 z).take k) cs W)) (fun i _ => 8 - (intOf i).toNat)
  case atStart => exact ⟨0,by omega,rfl,by show Wr _ _ _ _ _; rw [List.take_zero,List.append_nil]; exact unhide H⟩
  case round =>
    obtain ⟨k,hk,rfl,hW⟩ := hrel
    by_cases hlt : k < 8
    · have hnx := hide (bytesN_next k z hlt)
      have HK := hide (num_room (unhide HR) hlt)
      have HB := hide (wrap_byte_u k z hlt)
      obtain ⟨v,hv,_⟩ := (unhide hW).row
      have hfz := (unhide hW).fz
      have hva := cell_kept (boxw (w := wr) (.cells #[.int .u8 (IntKind.u8.wrap (IntKind.u64.wrap z / 2 ^ (8 * (k : Int)).toNat))] 5)) hv
      have hwr := wrap_8k hk
      have hs0 : (0 : Int) <= 8 * (k : Int) := by omega
      go_wp2_with fail
      go_region_law (refine wr_byte_step (unhide hW) hv (unhide HB) (unhide HK) (by rfl) _ _ (by rfl) (by rfl) (by first | exact ((Below.refl _ _).alloc (Nat.le_refl _) _).drew | exact (Below.refl _ _).drew.alloc (Nat.le_refl _) _) (by rfl) (by simp [go_sem]) ?_; intro a' n' c' w2 c2 f2 hw)
      all_goals
        have H2 : Hid (Wr W0 B (xs ++ (bytesN 8 z).take (k + 1)) cs (w2.setCell ⟨B,0,none⟩ (.slice a' n' c'))) := by show Wr _ _ _ _ _; rw [unhide hnx,<- List.append_assoc]; exact unhide hw
        clear hw c2 f2
        go_wp2_with fail
        exact ⟨⟨k + 1,by omega,by go_num,H2⟩,by simp [intOf]; omega⟩
    · obtain rfl : k = 8 := by omega
      go_wp2_with fail
      go_end0
      exact ⟨rfl,by have := unhide hW; rw [num_whole] at this; exact this⟩
theorem amt_room {x : Int × Int} (hl : Room (xs ++ amtC.w x)) : Room (xs ++ numC.w x.1 ++ numC.w x.2) := by
  rw [List.append_assoc]; exact hl
set_option maxRecDepth 100000 in
set_option maxHeartbeats 16000000 in
theorem pw_amt (x : Int × Int) (h : Wr W0 B xs cs w) (hl : Room (xs ++ amtC.w x)) :
    Calls Tryz.prog 69 #[.pointer (some ⟨B,0,none⟩),.agg #[.int .i64 x.1,.int .i64 x.2]] w fun e w' => e = .returned (.tuple #[]) /\ Wr W0 B (xs ++ amtC.w x) cs w' := by
  have H := hide (h.box [.int .i64 x.1,.int .i64 x.2] 23)
  have HR := hide (amt_room hl)
  clear h hl
  have i0 : ∀ w : World,(Instr.index 23 (.agg #[.int .i64 x.1,.int .i64 x.2]) (.int .i64 0)).run Tryz.prog w = .ok (.int .i64 x.1) w := fun _ => by kernel_rfl
  have i1 : ∀ w : World,(Instr.index 23 (.agg #[.int .i64 x.1,.int .i64 x.2]) (.int .i64 1)).run Tryz.prog w = .ok (.int .i64 x.2) w := fun _ => by kernel_rfl
  go_enter Tryz.func69,Tryz.ntmps69
  go_wp2_with fail
  go_loopw [7] (fun i W => ∃ k : Nat,k <= 2 /\ i = .int .i64 k /\ Hid ((k = 0 -> Wr W0 B xs cs W) /\ (k = 1 -> Wr W0 B (xs ++ numC.w x.1) cs W) /\ (k = 2 -> Wr W0 B (xs ++ numC.w x.1 ++ numC.w x.2) cs W))) (fun i _ => 2 - (intOf i).toNat)
  case atStart => exact ⟨0,by omega,rfl,fun _ => (unhide H).drop,fun e => by omega,fun e => by omega⟩
  case round =>
    obtain ⟨k,hk,rfl,hW⟩ := hrel
    match k,hk with
    | 0,_ =>
      have H1 := hide ((unhide hW).1 rfl)
      go_wp2_with fail
      refine (pw_num x.1 (unhide H1) (room_pre (unhide HR))).mono ?_
      rintro e w2 ⟨rfl,hw⟩
      have H2 := hide hw
      clear hw H1
      go_wp2_with fail
      exact ⟨⟨1,by omega,by go_num,fun e => by omega,fun _ => unhide H2,fun e => by omega⟩,by simp [intOf]⟩
    | 1,_ =>
      have H1 := hide ((unhide hW).2.1 rfl)
      go_wp2_with fail
      refine (pw_num x.2 (unhide H1) (unhide HR)).mono ?_
      rintro e w2 ⟨rfl,hw⟩
      have H2 := hide hw
      clear hw H1
      go_wp2_with fail
      exact ⟨⟨2,by omega,by go_num,fun e => by omega,fun e => by omega,fun _ => unhide H2⟩,by simp [intOf]⟩
    | 2,_ =>
      have H1 := hide ((unhide hW).2.2 rfl)
      go_wp2_with fail
      go_end0
      exact ⟨rfl,by have := unhide H1; rw [List.append_assoc] at this; exact this⟩
set_option maxRecDepth 100000 in
set_option maxHeartbeats 16000000 in
theorem dw_amt (x : Int × Int) (h : Wr W0 B xs cs w) (hl : Room (xs ++ amtC.w x)) :
    Calls Tryz.prog 44 #[.pointer (some ⟨B,0,none⟩),.agg #[.int .i64 x.1,.int .i64 x.2]] w fun e w' => e = .returned (.tuple #[]) /\ Wr W0 B (xs ++ amtC.w x) cs w' := by
  have H := hide (h.box [.int .i64 x.1,.int .i64 x.2] 23)
  have HR := hide (amt_room hl)
  clear h hl
  go_enter Tryz.func44,Tryz.ntmps44
  go_wp2_with fail
  refine (dw_num x.1 (unhide H) (room_pre (unhide HR))).mono ?_
  rintro e w2 ⟨rfl,hw⟩
  have c1 : w2.cell? ⟨w.heap.size,1,none⟩ = some (.int .i64 x.2) := hw.at 1 rfl
  have H1 := hide hw
  clear hw H
  go_wp2_with fail
  refine (dw_num x.2 (unhide H1) (unhide HR)).mono ?_
  rintro e w3 ⟨rfl,hw⟩
  have H2 := hide hw
  clear hw H1 c1
  go_wp2_with fail
  go_end0
  exact ⟨rfl,by have := unhide H2; rw [List.append_assoc] at this; exact this.drop⟩
end
end Go.Proofs.YtfpfdnapamdhjaaGreatDoor
