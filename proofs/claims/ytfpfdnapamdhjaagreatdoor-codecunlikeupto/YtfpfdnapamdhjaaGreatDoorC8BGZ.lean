/- Layer 7: offers and coolings as values; contracts of order,named,counts,of the document's order of offers and of its 'one'. -/
import Derived.Test.YtfpfdnapamdhjaaGreatDoorO8AGZ
import Derived.Test.YtfpfdnapamdhjaaGreatDoorV3VGZ
import Derived.Test.YtfpfdnapamdhjaaGreatDoorShelfZ
import Derived.Deep.RegionHeld3
import Derived.Deep.DeepCutAuto
import Derived.Deep.CutRange
namespace Go.Proofs.YtfpfdnapamdhjaaGreatDoor
open Go.RowKit Suf Val

theorem boxb {w : World} (o : Obj) : Below w.heap.size w (w.alloc o) := (Below.refl _ _).alloc (Nat.le_refl _) _
theorem cell_box6 {w : World} {p : Addr} {v : Value} (o : Obj) (h : w.cell? p = some v) : (w.alloc o).cell? p = some v := cell_kept (boxb o) h
def offA (x : VOff) : Value := .agg #[.string (bytesT x.1),.string (bytesT x.2.1),.string (bytesT x.2.2)]
def coolA (x : VCool) : Value := .agg #[.string (bytesT x.1.1),.string (bytesT x.1.2.1),.string (bytesT x.1.2.2),.int .i64 x.2]
def okO (x : VOff) : Prop := short x.1 /\ short x.2.1 /\ short x.2.2
def orI : List Int -> Int
  | [] => 0
  | z :: l => if z = 0 then orI l else z
theorem nz {z : Int} (h : ¬ z = 0) : (z != 0) = true := bne_iff_ne.2 h
theorem or_step {l : List Int} {k : Nat} (h : k < l.length) : orI (l.drop k) = if l[k] = 0 then orI (l.drop (k + 1)) else l[k] := by rw [List.drop_eq_getElem_cons h]; rfl
set_option maxHeartbeats 4000000 in
theorem or_any (v : Value) (l : List Int) (w : World) (hv : Lst intK w v l) : Calls Tryz.prog 153 #[v] w fun e w' => e = .returned (.int .i64 (orI l)) /\ w' = w := by
  have HV := hide hv
  have hlen := hv.len
  obtain ⟨a,c,rfl⟩ := hv.val
  clear hv
  obtain ⟨n,hn⟩ : ∃ n,n = l.length := ⟨_,rfl⟩
  rw [<- hn] at HV hlen ⊢
  have HN := hide hn
  clear hn
  obtain ⟨R,hR⟩ : ∃ R,R = orI l := ⟨_,rfl⟩
  rw [<- hR]
  have HR := hide hR
  clear hR
  go_enter Tryz.func153,Tryz.ntmps153
  go_wp2_with fail
  go_loopw [8] (fun i W => ∃ k : Nat,k <= n /\ i = .int .i64 k /\ Hid (R = orI (l.drop k)) /\ W = w) (fun i _ => n - (intOf i).toNat)
  case atStart => exact ⟨0,Nat.zero_le _,rfl,unhide HR,rfl⟩
  case round =>
    obtain ⟨k,hk,rfl,hor,rfl⟩ := hrel
    by_cases hlt : k < n
    · have hlk : k < l.length := by rw [<- unhide HN]; exact hlt
      obtain ⟨b,o,rfl,hat⟩ := (unhide HV).at hlk
      have hst := hide (or_step hlk)
      rw [<- unhide hor] at hst
      obtain ⟨z,hz⟩ : ∃ z,z = l[k] := ⟨_,rfl⟩
      rw [<- hz] at hat hst
      have h0 := at_int.1 hat
      rw [show intK.size = 1 from rfl,Nat.mul_one] at h0
      clear hat hz hlk
      by_cases hz0 : z = 0
      · subst hz0
        have hnx : Hid (R = orI (l.drop (k + 1))) := by show _ = _; rw [unhide hst]; simp
        go_wp2_with fail
        exact ⟨⟨k + 1,by omega,by go_num,hnx,trivial⟩,by simp [intOf]; omega⟩
      · have hb := nz hz0
        have hfin : Hid (R = z) := by show _ = _; rw [unhide hst]; simp [hz0]
        clear hz0
        go_wp2_with fail
        go_ret
        exact ⟨ret_int (unhide hfin).symm,rfl⟩
    · obtain rfl : k = n := by omega
      have hfin : Hid (R = 0) := by
        show _ = _
        rw [unhide hor,List.drop_eq_nil_of_le (by rw [<- unhide HN]; exact Nat.le_refl _)]; rfl
      go_wp2_with fail
      go_ret
      exact ⟨ret_int (unhide hfin).symm,rfl⟩

/-- What comes of a world where nothing old is written. -/
def Gr (W V : World) : Prop := Below W.heap.size W V
theorem Gr.refl (W : World) : Gr W W := Below.refl _ _
theorem Gr.drew {W V : World} (h : Gr W V) : Gr W V.drew := Below.drew h
theorem Gr.alloc {W V : World} (h : Gr W V) (o : Obj) : Gr W (V.alloc o) := chain h (boxb o)
theorem Gr.below {W V : World} (h : Gr W V) : Below W.heap.size W V := h
theorem cmp_lt6 : ∀ a b : Txt,decide (Lib.compareBytes a b < 0) = lt a b
  | [],[] => rfl
  | [],_ :: _ => rfl
  | _ :: _,[] => rfl
  | x :: a,y :: b => by
    rw [lt_cons,<- cmp_lt6 a b]
    show decide ((if x < y then (-1 : Int) else if y < x then 1 else Lib.compareBytes a b) < 0) = _
    by_cases h1 : x < y
    · rw [if_pos h1]; simp [h1]
    · rw [if_neg h1]
      by_cases h2 : y < x
      · rw [if_pos h2]
        have h3 : ¬ x = y := fun e => by rw [e] at h2; exact absurd h2 (UInt8.lt_irrefl y)
        simp [h1,h3]
      · rw [if_neg h2]
        have h3 : x = y := UInt8.le_antisymm (UInt8.not_lt.1 h2) (UInt8.not_lt.1 h1)
        simp [h3]
theorem cmp_zero : ∀ a b : Txt,Lib.compareBytes a b = 0 ↔ a = b
  | [],[] => by simp [Lib.compareBytes]
  | [],_ :: _ => by simp [Lib.compareBytes]
  | _ :: _,[] => by simp [Lib.compareBytes]
  | x :: a,y :: b => by
    show (if x < y then (-1 : Int) else if y < x then 1 else Lib.compareBytes a b) = 0 ↔ _
    by_cases h1 : x < y
    · rw [if_pos h1]
      constructor
      · intro h; cases h
      · intro h; rw [(List.cons.inj h).1] at h1; exact absurd h1 (UInt8.lt_irrefl y)
    · rw [if_neg h1]
      by_cases h2 : y < x
      · rw [if_pos h2]
        constructor
        · intro h; cases h
        · intro h; rw [(List.cons.inj h).1] at h2; exact absurd h2 (UInt8.lt_irrefl y)
      · rw [if_neg h2,cmp_zero a b]
        have h3 : x = y := UInt8.le_antisymm (UInt8.not_lt.1 h2) (UInt8.not_lt.1 h1)
        rw [h3]
        simp
def ordO (x y : VOff) : Int := orI [Lib.compareBytes x.1 y.1,Lib.compareBytes x.2.1 y.2.1,Lib.compareBytes x.2.2 y.2.2]
theorem or_cons (z : Int) (l : List Int) : orI (z :: l) = if z = 0 then orI l else z := rfl
theorem ord_lt (x y : VOff) : decide (ordO x y < 0) = lessO x y := by
  unfold ordO lessO
  rw [or_cons]
  by_cases h3 : x.1 = y.1
  · rw [if_pos ((cmp_zero _ _).2 h3),if_pos h3,or_cons]
    by_cases h4 : x.2.1 = y.2.1
    · rw [if_pos ((cmp_zero _ _).2 h4),if_pos h4,or_cons]
      by_cases h5 : x.2.2 = y.2.2
      · rw [if_pos ((cmp_zero _ _).2 h5),h5,lt_irrefl]; rfl
      · rw [if_neg (fun h => h5 ((cmp_zero _ _).1 h)),cmp_lt6]
    · rw [if_neg (fun h => h4 ((cmp_zero _ _).1 h)),if_neg h4,cmp_lt6]
  · rw [if_neg (fun h => h3 ((cmp_zero _ _).1 h)),if_neg h3,cmp_lt6]
structure OrdS (W0 : World) (X Y : Nat) (s0 s1 s2 t0 t1 t2 : ByteArray) (W : World) : Prop where
  gr : Gr W0 W
  x0 : W.cell? ⟨X,0,none⟩ = some (.string s0)
  x1 : W.cell? ⟨X,1,none⟩ = some (.string s1)
  x2 : W.cell? ⟨X,2,none⟩ = some (.string s2)
  y0 : W.cell? ⟨Y,0,none⟩ = some (.string t0)
  y1 : W.cell? ⟨Y,1,none⟩ = some (.string t1)
  y2 : W.cell? ⟨Y,2,none⟩ = some (.string t2)
theorem OrdS.below {W0 W W' : World} {X Y : Nat} {s0 s1 s2 t0 t1 t2 : ByteArray} (h : OrdS W0 X Y s0 s1 s2 t0 t1 t2 W) (hg : Gr W0 W') (hb : Below W.heap.size W W') : OrdS W0 X Y s0 s1 s2 t0 t1 t2 W' :=
  ⟨hg,cell_kept hb h.x0,cell_kept hb h.x1,cell_kept hb h.x2,cell_kept hb h.y0,cell_kept hb h.y1,cell_kept hb h.y2⟩
theorem below_drew6 (W : World) : Below W.heap.size W W.drew := (Below.refl _ _).drew
set_option maxRecDepth 100000 in
set_option maxHeartbeats 32000000 in
theorem porder_any (x y : VOff) (W : World) :
    Calls Tryz.prog 120 #[offA x,offA y] W fun e w' => e = .returned (.int .i64 (ordO x y)) /\ Gr W w' := by
  obtain ⟨s0,hs0⟩ : ∃ X,X = bytesT x.1 := ⟨_,rfl⟩
  obtain ⟨s1,hs1⟩ : ∃ X,X = bytesT x.2.1 := ⟨_,rfl⟩
  obtain ⟨s2,hs2⟩ : ∃ X,X = bytesT x.2.2 := ⟨_,rfl⟩
  obtain ⟨t0,ht0⟩ : ∃ X,X = bytesT y.1 := ⟨_,rfl⟩
  obtain ⟨t1,ht1⟩ : ∃ X,X = bytesT y.2.1 := ⟨_,rfl⟩
  obtain ⟨t2,ht2⟩ : ∃ X,X = bytesT y.2.2 := ⟨_,rfl⟩
  have hxa : offA x = .agg #[.string s0,.string s1,.string s2] := by rw [hs0,hs1,hs2]; rfl
  have hya : offA y = .agg #[.string t0,.string t1,.string t2] := by rw [ht0,ht1,ht2]; rfl
  obtain ⟨z2,hz2⟩ : ∃ z,z = Lib.compareBytes x.1 y.1 := ⟨_,rfl⟩
  obtain ⟨z3,hz3⟩ : ∃ z,z = Lib.compareBytes x.2.1 y.2.1 := ⟨_,rfl⟩
  obtain ⟨z4,hz4⟩ : ∃ z,z = Lib.compareBytes x.2.2 y.2.2 := ⟨_,rfl⟩
  have C2 : (∀ V,Calls Tryz.prog 154 #[.string s0,.string t0] V fun e w' => e = .returned (.int .i64 z2) /\ w' = V) := by rw [hz2,hs0,ht0]; exact fun V => Tryz.strings_Compare (bytesT x.1) (bytesT y.1) V
  have C3 : (∀ V,Calls Tryz.prog 154 #[.string s1,.string t1] V fun e w' => e = .returned (.int .i64 z3) /\ w' = V) := by rw [hz3,hs1,ht1]; exact fun V => Tryz.strings_Compare (bytesT x.2.1) (bytesT y.2.1) V
  have C4 : (∀ V,Calls Tryz.prog 154 #[.string s2,.string t2] V fun e w' => e = .returned (.int .i64 z4) /\ w' = V) := by rw [hz4,hs2,ht2]; exact fun V => Tryz.strings_Compare (bytesT x.2.2) (bytesT y.2.2) V
  have hcf : Hid (ordO x y = orI [z2,z3,z4]) := by show _ = _; rw [hz2,hz3,hz4]; rfl
  have cor : Hid (∀ V B',V.cell? ⟨B',0,none⟩ = some (.int .i64 z2) -> V.cell? ⟨B',1,none⟩ = some (.int .i64 z3) -> V.cell? ⟨B',2,none⟩ = some (.int .i64 z4) -> Calls Tryz.prog 153 #[.slice (some ⟨B',0,none⟩) 3 3] V fun e w' => e = .returned (.int .i64 (orI [z2,z3,z4])) /\ w' = V) := fun V B' g1 g2 g3 =>
    or_any _ [z2,z3,z4] V ⟨_,_,rfl,fun j hj => ⟨B',0,rfl,by
      match j,hj with
      | 0,_ => exact at_int.2 (by simpa using g1)
      | 1,_ => exact at_int.2 (by simpa [intK] using g2)
      | 2,_ => exact at_int.2 (by simpa [intK] using g3)⟩,by simp,by simp⟩
  clear hz2 hz3 hz4
  have S0 : OrdS W W.heap.size (W.heap.size + 1) s0 s1 s2 t0 t1 t2 ((W.alloc (.cells #[.string s0,.string s1,.string s2] 34)).alloc (.cells #[.string t0,.string t1,.string t2] 34)) := by
    refine ⟨((Gr.refl W).alloc _).alloc _,cell_box6 _ (by simp [go_sem]),cell_box6 _ (by simp [go_sem]),cell_box6 _ (by simp [go_sem]),by simp [go_sem],by simp [go_sem],by simp [go_sem]⟩
  have sall : ∀ V,OrdS W W.heap.size (W.heap.size + 1) s0 s1 s2 t0 t1 t2 V -> Hid (OrdS W W.heap.size (W.heap.size + 1) s0 s1 s2 t0 t1 t2 V) /\ V.cell? ⟨W.heap.size,0,none⟩ = some (.string s0) /\ V.cell? ⟨W.heap.size,1,none⟩ = some (.string s1) /\ V.cell? ⟨W.heap.size,2,none⟩ = some (.string s2) /\ V.cell? ⟨W.heap.size + 1,0,none⟩ = some (.string t0) /\ V.cell? ⟨W.heap.size + 1,1,none⟩ = some (.string t1) /\ V.cell? ⟨W.heap.size + 1,2,none⟩ = some (.string t2) := fun V h => ⟨h,h.x0,h.x1,h.x2,h.y0,h.y1,h.y2⟩
  have kdrew : Hid (∀ V,(Hid (OrdS W W.heap.size (W.heap.size + 1) s0 s1 s2 t0 t1 t2 V) /\ V.cell? ⟨W.heap.size,0,none⟩ = some (.string s0) /\ V.cell? ⟨W.heap.size,1,none⟩ = some (.string s1) /\ V.cell? ⟨W.heap.size,2,none⟩ = some (.string s2) /\ V.cell? ⟨W.heap.size + 1,0,none⟩ = some (.string t0) /\ V.cell? ⟨W.heap.size + 1,1,none⟩ = some (.string t1) /\ V.cell? ⟨W.heap.size + 1,2,none⟩ = some (.string t2)) -> Hid (OrdS W W.heap.size (W.heap.size + 1) s0 s1 s2 t0 t1 t2 V.drew) /\ V.drew.cell? ⟨W.heap.size,0,none⟩ = some (.string s0) /\ V.drew.cell? ⟨W.heap.size,1,none⟩ = some (.string s1) /\ V.drew.cell? ⟨W.heap.size,2,none⟩ = some (.string s2) /\ V.drew.cell? ⟨W.heap.size + 1,0,none⟩ = some (.string t0) /\ V.drew.cell? ⟨W.heap.size + 1,1,none⟩ = some (.string t1) /\ V.drew.cell? ⟨W.heap.size + 1,2,none⟩ = some (.string t2)) := fun V h => sall _ ((unhide h.1).below (unhide h.1).gr.drew (below_drew6 V))
  have kalloc : Hid (∀ V o,(Hid (OrdS W W.heap.size (W.heap.size + 1) s0 s1 s2 t0 t1 t2 V) /\ V.cell? ⟨W.heap.size,0,none⟩ = some (.string s0) /\ V.cell? ⟨W.heap.size,1,none⟩ = some (.string s1) /\ V.cell? ⟨W.heap.size,2,none⟩ = some (.string s2) /\ V.cell? ⟨W.heap.size + 1,0,none⟩ = some (.string t0) /\ V.cell? ⟨W.heap.size + 1,1,none⟩ = some (.string t1) /\ V.cell? ⟨W.heap.size + 1,2,none⟩ = some (.string t2)) -> Hid (OrdS W W.heap.size (W.heap.size + 1) s0 s1 s2 t0 t1 t2 (V.alloc o)) /\ (V.alloc o).cell? ⟨W.heap.size,0,none⟩ = some (.string s0) /\ (V.alloc o).cell? ⟨W.heap.size,1,none⟩ = some (.string s1) /\ (V.alloc o).cell? ⟨W.heap.size,2,none⟩ = some (.string s2) /\ (V.alloc o).cell? ⟨W.heap.size + 1,0,none⟩ = some (.string t0) /\ (V.alloc o).cell? ⟨W.heap.size + 1,1,none⟩ = some (.string t1) /\ (V.alloc o).cell? ⟨W.heap.size + 1,2,none⟩ = some (.string t2)) := fun V o h => sall _ ((unhide h.1).below ((unhide h.1).gr.alloc o) (boxb o))
  have hS := sall _ S0
  clear sall S0
  rw [unhide hcf]
  rw [hxa,hya]
  clear hxa hya hs0 hs1 hs2 ht0 ht1 ht2 hcf
  go_enter Tryz.func120,Tryz.ntmps120
  go_wp2_with fail
  go_region_held3 (fun V => Hid (OrdS W W.heap.size (W.heap.size + 1) s0 s1 s2 t0 t1 t2 V) /\ V.cell? ⟨W.heap.size,0,none⟩ = some (.string s0) /\ V.cell? ⟨W.heap.size,1,none⟩ = some (.string s1) /\ V.cell? ⟨W.heap.size,2,none⟩ = some (.string s2) /\ V.cell? ⟨W.heap.size + 1,0,none⟩ = some (.string t0) /\ V.cell? ⟨W.heap.size + 1,1,none⟩ = some (.string t1) /\ V.cell? ⟨W.heap.size + 1,2,none⟩ = some (.string t2))
    (first | (with_reducible exact hS) | (with_reducible assumption) | (with_reducible refine unhide kdrew _ ?_; with_reducible assumption) | (with_reducible refine unhide kalloc _ _ ?_; with_reducible assumption) | (with_reducible refine unhide kdrew _ (unhide kalloc _ _ ?_); with_reducible assumption) | (with_reducible refine unhide kalloc _ _ (unhide kdrew _ ?_); with_reducible assumption))
    (first
      | (go_at_call 154; refine (C2 _).mono ?_; rintro e w9 ⟨rfl,rfl⟩)
      | (go_at_call 154; refine (C3 _).mono ?_; rintro e w9 ⟨rfl,rfl⟩)
      | (go_at_call 154; refine (C4 _).mono ?_; rintro e w9 ⟨rfl,rfl⟩)
      | (go_at_call 153; refine (unhide cor _ _ (by simp [go_sem]) (by simp [go_sem]) (by simp [go_sem])).mono ?_; rintro e w9 ⟨rfl,rfl⟩))
  all_goals
    rename_i hH
    go_wp2_with fail
    go_ret
    exact ⟨rfl,(unhide hH.1).gr⟩
set_option maxRecDepth 100000 in
set_option maxHeartbeats 16000000 in
theorem rless6_any (x y : VOff) (w : World) :
    Calls Tryz.prog 96 #[offA x,offA y] w fun e w' => e = .returned (.bool (lessO x y)) /\ Below w.heap.size w w' := by
  obtain ⟨s0,hs0⟩ : ∃ X,X = bytesT x.1 := ⟨_,rfl⟩
  obtain ⟨s1,hs1⟩ : ∃ X,X = bytesT x.2.1 := ⟨_,rfl⟩
  obtain ⟨s2,hs2⟩ : ∃ X,X = bytesT x.2.2 := ⟨_,rfl⟩
  obtain ⟨t0,ht0⟩ : ∃ X,X = bytesT y.1 := ⟨_,rfl⟩
  obtain ⟨t1,ht1⟩ : ∃ X,X = bytesT y.2.1 := ⟨_,rfl⟩
  obtain ⟨t2,ht2⟩ : ∃ X,X = bytesT y.2.2 := ⟨_,rfl⟩
  have hxa : offA x = .agg #[.string s0,.string s1,.string s2] := by rw [hs0,hs1,hs2]; rfl
  have hya : offA y = .agg #[.string t0,.string t1,.string t2] := by rw [ht0,ht1,ht2]; rfl
  have e0 : x.1 = s0.data.toList := by rw [hs0,bytesT_list]
  have e1 : x.2.1 = s1.data.toList := by rw [hs1,bytesT_list]
  have e2 : x.2.2 = s2.data.toList := by rw [hs2,bytesT_list]
  have d0 : y.1 = t0.data.toList := by rw [ht0,bytesT_list]
  have d1 : y.2.1 = t1.data.toList := by rw [ht1,bytesT_list]
  have d2 : y.2.2 = t2.data.toList := by rw [ht2,bytesT_list]
  obtain ⟨R,hR⟩ : ∃ R,R = lessO x y := ⟨_,rfl⟩
  rw [<- hR,hxa,hya]
  unfold lessO lt at hR
  rw [e0,e1,e2,d0,d1,d2] at hR
  have HR := hide hR
  clear hR hxa hya hs0 hs1 hs2 ht0 ht1 ht2 e0 e1 e2 d0 d1 d2
  have T : ∀ b : ByteArray,b.toList = b.data.toList := fun b => Lib.toList_data b
  have HR2 : Hid (R = if (s0.toList == t0.toList) = true then (if (s1.toList == t1.toList) = true then Op.bytesLess s2.toList t2.toList else Op.bytesLess s1.toList t1.toList) else Op.bytesLess s0.toList t0.toList) := by
    show _ = _
    rw [unhide HR]
    simp only [T,beq_iff_eq]
  clear HR
  clear T
  have B : Hid (Below w.heap.size w ((w.alloc (.cells #[.string s0,.string s1,.string s2] 34)).alloc (.cells #[.string t0,.string t1,.string t2] 34))) := chain (boxb _) (boxb _)
  go_enter Tryz.func96,Tryz.ntmps96
  by_cases q0 : (s0.toList == t0.toList) = true
  · have g0 : (!(s0.toList == t0.toList)) = false := by rw [q0]; rfl
    rw [if_pos q0] at HR2
    by_cases q1 : (s1.toList == t1.toList) = true
    · have g1 : (!(s1.toList == t1.toList)) = false := by rw [q1]; rfl
      rw [if_pos q1] at HR2
      go_wp2_with fail
      go_ret
      exact ⟨ret_bool (unhide HR2).symm,unhide B⟩
    · have g1 : (!(s1.toList == t1.toList)) = true := by cases h : (s1.toList == t1.toList) with | true => exact absurd h q1 | false => rfl
      rw [if_neg q1] at HR2
      go_wp2_with fail
      go_ret
      exact ⟨ret_bool (unhide HR2).symm,unhide B⟩
  · have g0 : (!(s0.toList == t0.toList)) = true := by cases h : (s0.toList == t0.toList) with | true => exact absurd h q0 | false => rfl
    rw [if_neg q0] at HR2
    go_wp2_with fail
    go_ret
    exact ⟨ret_bool (unhide HR2).symm,unhide B⟩

end Go.Proofs.YtfpfdnapamdhjaaGreatDoor

/- Layer 7: contracts of named,counts,Check,and of the document's 'one' and Check. -/
namespace Go.Proofs.YtfpfdnapamdhjaaGreatDoor
open Go.RowKit Suf Val

theorem takeH6 {P : Program} {md : Region.Mode} {ops : Array Oper} {Q : Exit -> Act -> World -> Prop} {S : World -> Prop} {i d : Nat} {oi : Oper} {v : Value} {fuel : Nat} {listed : Array Bool} {a : Act} {w : World} (hi : ops[i]? = some oi) (hd : oi.dst = some d)
    (hs : Region.noSelect ops = true) (hf : Region.free md ops listed i = true) (hr : (Region.ready md ops listed).contains i = true)
    (hQ : ∀ c a w,Q (.panic c) (a.put (some d) v) w -> Q (.panic c) a w) (hy : YieldsIf P ops S oi v a) (hS : S w)
    (h : wpAnyH P md ops Q S fuel (listed.setIfInBounds i true) (a.put (some d) v) w) : wpAnyH P md ops Q S (fuel + 1) listed a w := by
  rw [<- hd] at hQ h
  exact wpAnyH_take hi hs hf hr hQ hy hS h
/-- The cells of a box that holds a cooling. -/
structure CBox (W : World) (B : Nat) (c : VCool) : Prop where
  c0 : W.cell? ⟨B,0,none⟩ = some (.string (bytesT c.1.1))
  c1 : W.cell? ⟨B,1,none⟩ = some (.string (bytesT c.1.2.1))
  c2 : W.cell? ⟨B,2,none⟩ = some (.string (bytesT c.1.2.2))
  c3 : W.cell? ⟨B,3,none⟩ = some (.int .i64 c.2)
theorem CBox.below {W W' : World} {B : Nat} {c : VCool} (h : CBox W B c) (hb : Below W.heap.size W W') : CBox W' B c := ⟨cell_kept hb h.c0,cell_kept hb h.c1,cell_kept hb h.c2,cell_kept hb h.c3⟩
theorem cbox_new (w : World) (c : VCool) : CBox (w.alloc (.cells #[.string (bytesT c.1.1),.string (bytesT c.1.2.1),.string (bytesT c.1.2.2),.int .i64 c.2] 42)) w.heap.size c :=
  ⟨by simp [go_sem],by simp [go_sem],by simp [go_sem],by simp [go_sem]⟩

set_option maxHeartbeats 8000000 in
theorem pnamed_any (x : VOff) (w : World) (hx : okO x) :
    Calls Tryz.prog 119 #[offA x] w fun e w' => e = .returned (.bool (nameB x.1 && (nameB x.2.1 && nameB x.2.2))) /\ Below w.heap.size w w' := by
  obtain ⟨a,b,d⟩ := x
  obtain ⟨h0,h1,h2⟩ := hx
  obtain ⟨q0,hq0⟩ : ∃ q,q = nameB a := ⟨_,rfl⟩
  obtain ⟨q1,hq1⟩ : ∃ q,q = nameB b := ⟨_,rfl⟩
  obtain ⟨q2,hq2⟩ : ∃ q,q = nameB d := ⟨_,rfl⟩
  have n0 := hide (fun W => (name_any (bytesT a) W (short_max h0)))
  have n1 := hide (fun W => (name_any (bytesT b) W (short_max h1)))
  have n2 := hide (fun W => (name_any (bytesT d) W (short_max h2)))
  rw [bytesT_list,<- hq0] at n0
  rw [bytesT_list,<- hq1] at n1
  rw [bytesT_list,<- hq2] at n2
  show Calls _ _ _ _ (fun e w' => e = .returned (.bool (nameB a && (nameB b && nameB d))) /\ Below w.heap.size w w')
  rw [<- hq0,<- hq1,<- hq2]
  clear h0 h1 h2 hq0 hq1 hq2
  unfold offA
  show Calls _ _ #[.agg #[.string (bytesT a),.string (bytesT b),.string (bytesT d)]] _ _
  obtain ⟨s0,hs0⟩ : ∃ X,X = bytesT a := ⟨_,rfl⟩
  obtain ⟨s1,hs1⟩ : ∃ X,X = bytesT b := ⟨_,rfl⟩
  obtain ⟨s2,hs2⟩ : ∃ X,X = bytesT d := ⟨_,rfl⟩
  rw [<- hs0] at n0 ⊢
  rw [<- hs1] at n1 ⊢
  rw [<- hs2] at n2 ⊢
  clear hs0 hs1 hs2
  have B : Hid (Below w.heap.size w (w.alloc (.cells #[.string s0,.string s1,.string s2] 34))) := boxb _
  go_enter Tryz.func119,Tryz.ntmps119
  go_wp2_with fail
  refine (unhide n0 _).mono ?_
  rintro e w1 ⟨rfl,hw1⟩
  obtain rfl := hw1.symm
  clear hw1
  cases q0
  · go_wp2_with fail
    go_ret
    exact ⟨ret_bool (by simp),unhide B⟩
  go_wp2_with fail
  refine (unhide n1 _).mono ?_
  rintro e w1 ⟨rfl,hw1⟩
  obtain rfl := hw1.symm
  clear hw1
  cases q1
  · go_wp2_with fail
    go_ret
    exact ⟨ret_bool (by simp),unhide B⟩
  go_wp2_with fail
  refine (unhide n2 _).mono ?_
  rintro e w1 ⟨rfl,hw1⟩
  obtain rfl := hw1.symm
  clear hw1
  go_wp2_with fail
  go_ret
  exact ⟨ret_bool (by simp),unhide B⟩

set_option maxHeartbeats 8000000 in
theorem rone_any (c : VCool) (w : World) (hx : okO c.1) :
    Calls Tryz.prog 95 #[coolA c] w fun e w' => e = .returned (.int .i64 (oneR c)) /\ Below w.heap.size w w' := by
  obtain ⟨⟨a,b,d⟩,z⟩ := c
  obtain ⟨h0,h1,h2⟩ := hx
  obtain ⟨R,hR⟩ : ∃ R,R = oneR ((a,b,d),z) := ⟨_,rfl⟩
  rw [<- hR]
  unfold oneR at hR
  simp only at hR
  obtain ⟨q0,hq0⟩ : ∃ q,q = nameB a := ⟨_,rfl⟩
  obtain ⟨q1,hq1⟩ : ∃ q,q = nameB b := ⟨_,rfl⟩
  obtain ⟨q2,hq2⟩ : ∃ q,q = nameB d := ⟨_,rfl⟩
  have n0 := hide (fun W => (rname_any (bytesT a) W (short_max h0)))
  have n1 := hide (fun W => (rname_any (bytesT b) W (short_max h1)))
  have n2 := hide (fun W => (rname_any (bytesT d) W (short_max h2)))
  rw [bytesT_list,<- hq0] at n0
  rw [bytesT_list,<- hq1] at n1
  rw [bytesT_list,<- hq2] at n2
  rw [<- hq0,<- hq1,<- hq2] at hR
  have HR := hide hR
  clear h0 h1 h2 hq0 hq1 hq2 hR
  show Calls _ _ #[.agg #[.string (bytesT a),.string (bytesT b),.string (bytesT d),.int .i64 z]] _ _
  obtain ⟨s0,hs0⟩ : ∃ X,X = bytesT a := ⟨_,rfl⟩
  obtain ⟨s1,hs1⟩ : ∃ X,X = bytesT b := ⟨_,rfl⟩
  obtain ⟨s2,hs2⟩ : ∃ X,X = bytesT d := ⟨_,rfl⟩
  rw [<- hs0] at n0 ⊢
  rw [<- hs1] at n1 ⊢
  rw [<- hs2] at n2 ⊢
  clear hs0 hs1 hs2
  have B : Hid (Below w.heap.size w (w.alloc (.cells #[.string s0,.string s1,.string s2,.int .i64 z] 42))) := boxb _
  go_enter Tryz.func95,Tryz.ntmps95
  go_wp2_with fail
  refine (unhide n0 _).mono ?_
  rintro e w1 ⟨rfl,hw1⟩
  obtain rfl := hw1.symm
  clear hw1
  go_wp2_with fail
  refine (unhide n1 _).mono ?_
  rintro e w1 ⟨rfl,hw1⟩
  obtain rfl := hw1.symm
  clear hw1
  go_wp2_with fail
  refine (unhide n2 _).mono ?_
  rintro e w1 ⟨rfl,hw1⟩
  obtain rfl := hw1.symm
  clear hw1
  cases q0
  · have hfin : Hid (R = 7) := by show _ = _; rw [unhide HR]; simp
    go_wp2_with fail
    go_ret
    exact ⟨ret_int (unhide hfin).symm,unhide B⟩
  cases q1
  · have hfin : Hid (R = 7) := by show _ = _; rw [unhide HR]; simp
    go_wp2_with fail
    go_ret
    exact ⟨ret_int (unhide hfin).symm,unhide B⟩
  cases q2
  · have hfin : Hid (R = 7) := by show _ = _; rw [unhide HR]; simp
    go_wp2_with fail
    go_ret
    exact ⟨ret_int (unhide hfin).symm,unhide B⟩
  have HR2 : Hid (R = if z < 0 ∨ 1099511627776 < z then 1 else 0) := by show _ = _; rw [unhide HR,if_neg (by decide)]
  clear HR
  by_cases hz : z < 0
  · have hfin : Hid (R = 1) := by show _ = _; rw [unhide HR2,if_pos (Or.inl hz)]
    clear HR2
    go_wp2_with fail
    go_ret
    exact ⟨ret_int (unhide hfin).symm,unhide B⟩
  by_cases hz2 : 1099511627776 < z
  · have hfin : Hid (R = 1) := by show _ = _; rw [unhide HR2,if_pos (Or.inr hz2)]
    clear HR2
    go_wp2_with fail
    go_ret
    exact ⟨ret_int (unhide hfin).symm,unhide B⟩
  · have hfin : Hid (R = 0) := by show _ = _; rw [unhide HR2,if_neg (by omega)]
    clear HR2
    go_wp2_with fail
    go_ret
    exact ⟨ret_int (unhide hfin).symm,unhide B⟩
end Go.Proofs.YtfpfdnapamdhjaaGreatDoor
