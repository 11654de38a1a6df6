/- Layer 9: the small writers,of the program and of the document: lengths,texts,truths. -/
import Derived.Test.YtfpfdnapamdhjaaGreatDoorWrAGZ
import Derived.Test.YtfpfdnapamdhjaaGreatDoorCdBGZ
import Derived.Deep.DeepCutAuto
import Derived.Deep.CutRange
namespace Go.Proofs.YtfpfdnapamdhjaaGreatDoor
open Go.RowKit Val

theorem many_next {α : Type} (A : Cod α) {l : List α} {k : Nat} (h : k < l.length) : manyW A (l.take (k + 1)) = manyW A (l.take k) ++ A.w l[k] := by
  rw [<- List.take_append_getElem h,manyW_append]
  show _ ++ (A.w l[k] ++ []) = _
  rw [List.append_nil]
theorem many_room {α : Type} {A : Cod α} {l : List α} {k : Nat} {p : Txt} (h : k < l.length) (hm : Room (p ++ manyW A l)) : Room (p ++ manyW A (l.take k) ++ A.w l[k]) := by
  rw [List.append_assoc,<- many_next A h]
  have e : manyW A l = manyW A (l.take (k + 1)) ++ manyW A (l.drop (k + 1)) := by rw [<- manyW_append,List.take_append_drop]
  rw [e,<- List.append_assoc] at hm
  exact room_pre hm
theorem wrap_len (k : Nat) : (k : Int) % 256 = ((UInt8.ofNat k).toNat : Int) := by
  rw [UInt8.toNat_ofNat']
  omega
section
variable {W0 w : World} {B : Nat} {xs : Txt} {cs : List (Addr × Value)}
set_option maxRecDepth 100000 in
set_option maxHeartbeats 4000000 in
theorem pw_len (k : Nat) (h : Wr W0 B xs cs w) (hl : Room (xs ++ [UInt8.ofNat k])) :
    Calls Tryz.prog 121 #[.pointer (some ⟨B,0,none⟩),.int .i64 k] w fun e w' => e = .returned (.tuple #[]) /\ Wr W0 B (xs ++ [UInt8.ofNat k]) cs w' := by
  obtain ⟨v,hv,_⟩ := h.row
  have H := hide h
  have hc := hide (wrap_len k)
  clear h
  go_enter Tryz.func121,Tryz.ntmps121
  go_wp2_with (at_builtin; refine wr_byte (unhide H) hv (unhide hc) hl (by rfl) _ _ (by rfl) (by rfl) (by rfl) ?_; intro a' n' c' w2 c2 f2 hw; go_frame)
  go_end0
  exact ⟨rfl,unhide hw⟩
set_option maxRecDepth 100000 in
set_option maxHeartbeats 4000000 in
theorem dw_len (k : Nat) (h : Wr W0 B xs cs w) (hl : Room (xs ++ [UInt8.ofNat k])) :
    Calls Tryz.prog 46 #[.pointer (some ⟨B,0,none⟩),.int .i64 k] w fun e w' => e = .returned (.tuple #[]) /\ Wr W0 B (xs ++ [UInt8.ofNat k]) cs w' := by
  obtain ⟨v,hv,_⟩ := h.row
  have H := hide h
  have hc := hide (wrap_len k)
  clear h
  go_enter Tryz.func46,Tryz.ntmps46
  go_wp2_with (at_builtin; refine wr_byte (unhide H) hv (unhide hc) hl (by rfl) _ _ (by rfl) (by rfl) (by rfl) ?_; intro a' n' c' w2 c2 f2 hw; go_frame)
  go_end0
  exact ⟨rfl,unhide hw⟩
set_option maxRecDepth 100000 in
set_option maxHeartbeats 4000000 in
theorem pw_truth (z : Bool) (h : Wr W0 B xs cs w) (hl : Room (xs ++ truthC.w z)) :
    Calls Tryz.prog 83 #[.pointer (some ⟨B,0,none⟩),.bool z] w fun e w' => e = .returned (.tuple #[]) /\ Wr W0 B (xs ++ truthC.w z) cs w' := by
  obtain ⟨v,hv,_⟩ := h.row
  have H := hide h
  clear h
  cases z
  all_goals
    go_enter Tryz.func83,Tryz.ntmps83
    go_wp2_with (at_builtin; refine wr_byte (unhide H) hv (by first | exact (rfl : (1 : Int) = ((1 : UInt8).toNat : Int)) | exact (rfl : (0 : Int) = ((0 : UInt8).toNat : Int))) hl (by rfl) _ _ (by rfl) (by rfl) (by rfl) ?_; intro a' n' c' w2 c2 f2 hw; go_frame)
    go_end0
    exact ⟨rfl,unhide hw⟩
set_option maxRecDepth 100000 in
set_option maxHeartbeats 4000000 in
theorem dw_truth (z : Bool) (h : Wr W0 B xs cs w) (hl : Room (xs ++ truthC.w z)) :
    Calls Tryz.prog 47 #[.pointer (some ⟨B,0,none⟩),.bool z] w fun e w' => e = .returned (.tuple #[]) /\ Wr W0 B (xs ++ truthC.w z) cs w' := by
  obtain ⟨v,hv,_⟩ := h.row
  have H := hide h
  clear h
  cases z
  all_goals
    go_enter Tryz.func47,Tryz.ntmps47
    go_wp2_with (at_builtin; refine wr_byte (unhide H) hv (by first | exact (rfl : (1 : Int) = ((1 : UInt8).toNat : Int)) | exact (rfl : (0 : Int) = ((0 : UInt8).toNat : Int))) hl (by rfl) _ _ (by rfl) (by rfl) (by rfl) ?_; intro a' n' c' w2 c2 f2 hw; go_frame)
    go_end0
    exact ⟨rfl,unhide hw⟩
set_option maxRecDepth 100000 in
set_option maxHeartbeats 4000000 in
theorem pw_text (t : Txt) (h : Wr W0 B xs cs w) (hl : Room (xs ++ txtC.w t)) :
    Calls Tryz.prog 68 #[.pointer (some ⟨B,0,none⟩),.string (bytesT t)] w fun e w' => e = .returned (.tuple #[]) /\ Wr W0 B (xs ++ txtC.w t) cs w' := by
  have H := hide h
  have he : xs ++ txtC.w t = xs ++ [UInt8.ofNat t.length] ++ t := by rw [List.append_assoc]; rfl
  rw [he] at hl ⊢
  have hs := bytesT_size t
  obtain ⟨X,hX⟩ : ∃ X,X = bytesT t := ⟨_,rfl⟩
  rw [<- hX] at hs ⊢
  replace hX := hide hX
  clear h he
  go_enter Tryz.func68,Tryz.ntmps68
  go_wp2_with fail
  refine (pw_len t.length (unhide H) (room_pre hl)).mono ?_
  rintro e w1 ⟨rfl,hw⟩
  obtain ⟨v,hv,_⟩ := hw.row
  have H1 := hide hw
  clear hw H
  go_wp2_with (at_builtin; refine wr_text (unhide H1) hv (t := t) hl (by rfl) _ _ (by rfl) (by rfl) (by rw [<- unhide hX]; rfl) ?_; intro a' n' c' w2 c2 f2 hw; go_frame)
  go_end0
  exact ⟨rfl,unhide hw⟩
set_option maxRecDepth 100000 in
set_option maxHeartbeats 4000000 in
theorem dw_text (t : Txt) (h : Wr W0 B xs cs w) (hl : Room (xs ++ txtC.w t)) :
    Calls Tryz.prog 43 #[.pointer (some ⟨B,0,none⟩),.string (bytesT t)] w fun e w' => e = .returned (.tuple #[]) /\ Wr W0 B (xs ++ txtC.w t) cs w' := by
  obtain ⟨v,hv,_⟩ := h.row
  have H := hide h
  have he : xs ++ txtC.w t = xs ++ [UInt8.ofNat t.length] ++ t := by rw [List.append_assoc]; rfl
  rw [he] at hl ⊢
  have hs := bytesT_size t
  have hc := hide (wrap_len t.length)
  obtain ⟨X,hX⟩ : ∃ X,X = bytesT t := ⟨_,rfl⟩
  rw [<- hX] at hs ⊢
  replace hX := hide hX
  obtain ⟨m,hm⟩ : ∃ m,m = t.length := ⟨_,rfl⟩
  rw [<- hm] at hs hc hl ⊢
  clear hm
  clear h he
  go_enter Tryz.func43,Tryz.ntmps43
  go_upto_region 1 with (at_builtin; refine wr_byte (unhide H) hv (unhide hc) (room_pre hl) (by rfl) _ _ (by rfl) (by rfl) (by rfl) ?_; intro a' n' c' w2 c2 f2 hw; go_frame)
  have c3 := World.cell?_setCell_same w2 ⟨B,0,none⟩ (.slice a' n' c') c2
  obtain ⟨W2,hW2⟩ : ∃ W,W = w2.setCell ⟨B,0,none⟩ (.slice a' n' c') := ⟨_,rfl⟩
  rw [<- hW2] at hw c3 ⊢
  clear hW2 c2 f2
  have HR := hide hl
  clear hl
  go_wp2_with (at_builtin; refine wr_text (unhide hw) c3 (t := t) (unhide HR) (by rfl) _ _ (by rfl) (by rfl) (by rw [<- unhide hX]; rfl) ?_; intro a2 n2 e2 w3 d2 g2 hw2; go_frame)
  go_end0
  exact ⟨rfl,unhide hw2⟩
end
end Go.Proofs.YtfpfdnapamdhjaaGreatDoor
