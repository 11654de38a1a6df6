/- CodecWrites: the walk,whatever the object's kind -/
import Derived.Test.YtfpfdnapamdhjaaGreatDoorDcAGZ
import Derived.Test.YtfpfdnapamdhjaaGreatDoorWrDGZ
import Derived.Test.YtfpfdnapamdhjaaGreatDoorO9AGZ
namespace Go.Proofs.YtfpfdnapamdhjaaGreatDoor
open Go.RowKit Suf Val

/-- A row of bytes that is written over. -/
structure ByteRow (g c : Nat) (W : World) : Prop where
  row : ∃ cur : Array Value,W.heap[g]? = some (.cells cur 5 (0,0)) /\ cur.size = c
theorem ByteRow.at {g c : Nat} {W : World} (h : ByteRow g c W) {j : Nat} (hj : j < c) : ∃ v,W.cell? ⟨g,j,none⟩ = some v := by
  obtain ⟨cur,h1,h2⟩ := h.row
  exact ⟨cur[j]'(by omega),by rw [cell_of_row W g j cur _ (0,0) h1,Array.getElem?_eq_getElem (by omega)]⟩
theorem ByteRow.fz {g c : Nat} {W : World} (h : ByteRow g c W) (j : Nat) : W.frozen? ⟨g,j,none⟩ = false := by
  obtain ⟨cur,h1,h2⟩ := h.row
  unfold World.frozen?
  rw [show W.heap[(⟨g,j,none⟩ : Addr).block]? = _ from h1]
  simp
theorem ByteRow.set {g c : Nat} {W : World} (h : ByteRow g c W) (j : Nat) (v : Value) : ByteRow g c (W.setCell ⟨g,j,none⟩ v) := by
  obtain ⟨cur,h1,h2⟩ := h.row
  refine ⟨cur.setIfInBounds j v,?_,by simpa using h2⟩
  show (W.heap.modify g _)[g]? = _
  rw [Array.getElem?_modify,if_pos rfl,h1]
  rfl
theorem RowAt.setFar {w0 W : World} {B : Nat} {cs : Array Value} {t : TypeId} (h : RowAt w0 B cs t W) {g : Nat} (hg : w0.heap.size <= g) (hne : g ≠ B) (j : Nat) (v : Value) : RowAt w0 B cs t (W.setCell ⟨g,j,none⟩ v) :=
  ⟨h.gr.setCell hg _,by rw [Below.heap_setCell _ _ _ _ (by show B ≠ g; omega)]; exact h.row⟩
set_option maxRecDepth 100000 in
set_option maxHeartbeats 16000000 in
theorem cwrites_G (k : Int) (q1 q2 q3 q4 q5 q6 q7 q8 q9 q10 q11 q12 q13 q14 q15 q16 q17 q18 q19 q20 q21 q22 q23 q24 q25 q26 q27 q28 q29 q30 q31 q32 q33 q34 q35 q36 q37 q38 q39 q40 q41 q42 q43 q44 q45 q46 q47 q48 q49 : Value) (I : Value) (z : Int) (T : Txt) (w : World) (hT : z = 0 -> T.length <= 4096)
    (hO : ∀ V,Below w.heap.size w V -> Calls Tryz.prog 9 #[.agg #[.int .i64 k,q1,q2,q3,q4,q5,q6,q7,q8,q9,q10,q11,q12,q13,q14,q15,q16,q17,q18,q19,q20,q21,q22,q23,q24,q25,q26,q27,q28,q29,q30,q31,q32,q33,q34,q35,q36,q37,q38,q39,q40,q41,q42,q43,q44,q45,q46,q47,q48,q49]] V fun e w' => e = .returned I /\ Below V.heap.size V w')
    (hE : ∀ V,Below w.heap.size w V -> Calls Tryz.prog 8 #[I] V (EncQ z T V))
    (hR : ∀ V,Below w.heap.size w V -> Calls Tryz.prog 10 #[.agg #[.int .i64 k,q1,q2,q3,q4,q5,q6,q7,q8,q9,q10,q11,q12,q13,q14,q15,q16,q17,q18,q19,q20,q21,q22,q23,q24,q25,q26,q27,q28,q29,q30,q31,q32,q33,q34,q35,q36,q37,q38,q39,q40,q41,q42,q43,q44,q45,q46,q47,q48,q49]] V (EncQ z T V)) :
    Calls Tryz.prog 3 #[.agg #[.int .i64 k,q1,q2,q3,q4,q5,q6,q7,q8,q9,q10,q11,q12,q13,q14,q15,q16,q17,q18,q19,q20,q21,q22,q23,q24,q25,q26,q27,q28,q29,q30,q31,q32,q33,q34,q35,q36,q37,q38,q39,q40,q41,q42,q43,q44,q45,q46,q47,q48,q49]] w fun e w' => e = .returned (.bool true) /\ Below w.heap.size w w' := by
  have HO := hide hO
  have HE := hide hE
  have HR := hide hR
  have HT := hide hT
  clear hO hE hR hT
  obtain ⟨W1,hW1⟩ : ∃ W,W = w.alloc (.cells #[.int .i64 k,q1,q2,q3,q4,q5,q6,q7,q8,q9,q10,q11,q12,q13,q14,q15,q16,q17,q18,q19,q20,q21,q22,q23,q24,q25,q26,q27,q28,q29,q30,q31,q32,q33,q34,q35,q36,q37,q38,q39,q40,q41,q42,q43,q44,q45,q46,q47,q48,q49] 44) := ⟨_,rfl⟩
  have HA0 : Hid (RowAt w w.heap.size #[.int .i64 k,q1,q2,q3,q4,q5,q6,q7,q8,q9,q10,q11,q12,q13,q14,q15,q16,q17,q18,q19,q20,q21,q22,q23,q24,q25,q26,q27,q28,q29,q30,q31,q32,q33,q34,q35,q36,q37,q38,q39,q40,q41,q42,q43,q44,q45,q46,q47,q48,q49] 44 W1) := by show RowAt _ _ _ _ _; rw [hW1]; exact row_new _ _ _
  have GW := hide hW1
  clear hW1
  go_enter Tryz.func3,Tryz.ntmps3
  go_upto_region 1 with fail
  rw [<- unhide GW]
  clear GW
  go_wp2_with fail
  refine (live9_any _).mono ?_
  rintro e w2 ⟨rfl,hb⟩
  have HA1 := hide ((unhide HA0).below hb)
  clear hb HA0
  go_wp2_with fail
  go_loopw [11] (fun i W => ∃ m : Nat,m <= 2 /\ i = .int .i64 m /\ Hid (RowAt w w.heap.size #[.int .i64 k,q1,q2,q3,q4,q5,q6,q7,q8,q9,q10,q11,q12,q13,q14,q15,q16,q17,q18,q19,q20,q21,q22,q23,q24,q25,q26,q27,q28,q29,q30,q31,q32,q33,q34,q35,q36,q37,q38,q39,q40,q41,q42,q43,q44,q45,q46,q47,q48,q49] 44 W)) (fun i _ => 2 - (intOf i).toNat)
  case atStart => exact ⟨0,by omega,rfl,HA1⟩
  case round =>
    clear HA1
    obtain ⟨m,hm,rfl,HA⟩ := hrel
    by_cases hlt : m < 2
    · go_upto_region 4 with fail
      refine wp_region_list ?_
      refine wpList_load_row rfl 44 _ rfl w.heap.size rfl 44 _ _ _ (unhide HA).row Tryz.underlying44 rfl (by kernel_rfl) ?_
      go_wp2_with fail
      refine (unhide HO _ (unhide HA).gr).mono ?_
      rintro e w3 ⟨rfl,hb⟩
      have HB := hide ((unhide HA).below hb)
      clear hb HA
      go_wp2_with fail
      refine (unhide HE _ (unhide HB).gr).mono ?_
      rintro e w4 ⟨hb,hp⟩
      have HA := hide ((unhide HB).below hb)
      have hs3 := hide (unhide HB).gr.size
      have hne3 := hide (World.block_lt_of_cell? _ _ ((unhide HB).at 0 rfl))
      clear hb HB
      rcases hp with ⟨rfl,a,n,c,rfl,hn,ho⟩ | ⟨hz,rfl⟩
      · have hn4 : n <= 4096 := by rw [hn]; first | exact unhide HT rfl | exact unhide HT trivial
        have HN := hide hn
        have HW := hide ho
        have HL := hide (own_lst ho (by omega))
        clear ho hn
        go_upto_region 5 with fail
        refine wp_region_list ?_
        refine wpList_load_row rfl 44 _ rfl w.heap.size rfl 44 _ _ _ (unhide HA).row Tryz.underlying44 rfl (by kernel_rfl) ?_
        go_wp2_with fail
        refine (unhide HR _ (unhide HA).gr).mono ?_
        rintro e w5 ⟨hb,hp⟩
        have HA2 := hide ((unhide HA).below hb)
        have HW2 := hide (grow_below (unhide HW) hb)
        have hcv := conv_lst (unhide HL) hb
        clear HL HW
        rcases hp with ⟨_,a2,n2,c2,rfl,hn2,ho2⟩ | ⟨hz,_⟩
        · have hT5 : T.length <= 4096 := by first | exact unhide HT rfl | exact unhide HT trivial
          have hcv2 := conv_lst (own_lst ho2 (by omega)) (Below.refl _ _)
          obtain ⟨X,hX⟩ : ∃ X,X = bytesT T := ⟨_,rfl⟩
          rw [<- hX] at hcv hcv2
          have hrow := hide ((unhide HW2).2)
          clear hb ho2 hn2 hX HA hT5 HW2
          rcases unhide hrow with ⟨e0,h0⟩ | ⟨g,cap,cur,e0,hgB,hg,hnc,hcm,hcs,htk⟩
          · injection e0 with e1 e2 e3
            subst e1 e2 e3
            clear hrow
            go_wp2_with fail
            go_loopw [45] (fun i W => i = .int .i64 0 /\ W = w5) (fun _ _ => 0)
            case atStart => exact ⟨rfl,rfl⟩
            case round =>
              obtain ⟨rfl,rfl⟩ := hrel
              go_wp2_with fail
              exact ⟨⟨m + 1,by omega,by go_num,HA2⟩,by simp [intOf]; omega⟩
          · injection e0 with e1 e2 e3
            subst e1 e3
            have HB0 : Hid (ByteRow g c w5) := ⟨cur,hg,by rw [hcs]; omega⟩
            have hgw := hide (show w.heap.size < g from Nat.lt_of_lt_of_le (unhide hne3) hgB)
            have hlen : c <= 9223372036854775807 := by unfold maxLen at hcm; omega
            clear hrow hg hcs htk hgB cur hcm
            go_wp2_with fail
            go_loopw [45] (fun i W => ∃ j : Nat,j <= c /\ i = .int .i64 j /\ Hid (RowAt w w.heap.size #[.int .i64 k,q1,q2,q3,q4,q5,q6,q7,q8,q9,q10,q11,q12,q13,q14,q15,q16,q17,q18,q19,q20,q21,q22,q23,q24,q25,q26,q27,q28,q29,q30,q31,q32,q33,q34,q35,q36,q37,q38,q39,q40,q41,q42,q43,q44,q45,q46,q47,q48,q49] 44 W) /\ Hid (ByteRow g c W)) (fun i _ => c - (intOf i).toNat)
            case atStart => exact ⟨0,Nat.zero_le _,rfl,HA2,HB0⟩
            case round =>
              clear HA2 HB0
              obtain ⟨j,hj,rfl,HA,HB⟩ := hrel
              by_cases hjt : j < c
              · obtain ⟨v,hv⟩ := (unhide HB).at hjt
                have hf := (unhide HB).fz j
                have HA3 := hide ((unhide HA).setFar (Nat.le_of_lt (unhide hgw)) (Nat.ne_of_gt (unhide hgw)) j (.int .u8 255))
                have HB3 := hide ((unhide HB).set j (.int .u8 255))
                go_wp2_with fail
                exact ⟨⟨j + 1,by omega,by go_num,HA3,HB3⟩,by simp [intOf]; omega⟩
              · obtain rfl : j = c := by omega
                go_wp2_with fail
                exact ⟨⟨m + 1,by omega,by go_num,HA⟩,by simp [intOf]; omega⟩
        · exact absurd rfl hz
      · have HZ := hide hz
        clear hz
        go_upto_region 5 with fail
        refine wp_region_list ?_
        refine wpList_load_row rfl 44 _ rfl w.heap.size rfl 44 _ _ _ (unhide HA).row Tryz.underlying44 rfl (by kernel_rfl) ?_
        go_wp2_with fail
        refine (unhide HR _ (unhide HA).gr).mono ?_
        rintro e w5 ⟨hb,hp⟩
        have HA2 := hide ((unhide HA).below hb)
        clear hb HA
        rcases hp with ⟨hz,_⟩ | ⟨_,rfl⟩
        · exact absurd hz (unhide HZ)
        · have hcv := run_convert_bytes_nil w5 46 5 Tryz.underlying46 Tryz.underlying5 0 0 9 Tryz.underlying9
          have z1 : (z != z) = false := by simp
          go_wp2_with fail
          go_loopw [45] (fun i W => i = .int .i64 0 /\ W = w5) (fun _ _ => 0)
          case atStart => exact ⟨rfl,rfl⟩
          case round =>
            obtain ⟨rfl,rfl⟩ := hrel
            go_wp2_with fail
            exact ⟨⟨m + 1,by omega,by go_num,HA2⟩,by simp [intOf]; omega⟩
    · obtain rfl : m = 2 := by omega
      go_wp2_with fail
      go_ret
      exact ⟨rfl,(unhide HA).gr⟩
end Go.Proofs.YtfpfdnapamdhjaaGreatDoor

/- CodecWrites: the walk,whole -/
namespace Go.Proofs.YtfpfdnapamdhjaaGreatDoor.codecWrites
open Go.RowKit Suf Val

set_option maxRecDepth 100000 in
set_option maxHeartbeats 16000000 in
theorem walk (x : VAny) (u1 u2 u3 u4 u5 p1 p2 c1 d1 d2 : Value) (w : World) (h : AnyM w x u1 u2 u3 u4 u5 p1 p2 c1 d1 d2) (hL : Laid w) :
    Calls Tryz.prog 3 #[anyA x u1 u2 u3 u4 u5 p1 p2 c1 d1 d2] w fun e w' => e = .returned (.bool true) /\ Below w.heap.size w w' := by
  obtain ⟨I,hO,hE,hT⟩ := any9 x u1 u2 u3 u4 u5 p1 p2 c1 d1 d2 w hL h
  have hR := fun V (hb : Below w.heap.size w V) => renc_any x u1 u2 u3 u4 u5 p1 p2 c1 d1 d2 V (h.below hb)
  unfold anyA at hO hR ⊢
  exact cwrites_G x.kind _ _ _ _ _ _ _ _ _ _ _ _ _ _ _ _ _ _ _ _ _ _ _ _ _ _ _ _ _ _ _ _ _ _ _ _ _ _ _ _ _ _ _ _ _ _ _ _ _ I (zA x) (tA x) w hT hO hE hR
end Go.Proofs.YtfpfdnapamdhjaaGreatDoor.codecWrites
