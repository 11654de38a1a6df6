/- Layer 8: cells that are held; nodes,terms: contracts. -/
import Derived.Test.YtfpfdnapamdhjaaGreatDoorO8BGZ
import Derived.Test.YtfpfdnapamdhjaaGreatDoorRqEGZ
import Derived.Test.YtfpfdnapamdhjaaGreatDoorT8EGZ
import Derived.Test.YtfpfdnapamdhjaaGreatDoorAmAGZ
namespace Go.Proofs.YtfpfdnapamdhjaaGreatDoor
open Go.RowKit Suf Val

/-- What comes of a world where nothing old is written,with these cells. -/
structure HeldS (W0 : World) (cs : List (Addr × Value)) (W : World) : Prop where
  gr : Below W0.heap.size W0 W
  all : ∀ x ∈ cs,W.cell? x.1 = some x.2
theorem HeldS.at {W0 W : World} {cs : List (Addr × Value)} (h : HeldS W0 cs W) (i : Nat) {a : Addr} {v : Value} (e : cs[i]? = some (a,v)) : W.cell? a = some v := h.all (a,v) (List.mem_of_getElem? e)
theorem HeldS.below {W0 W W' : World} {cs : List (Addr × Value)} (h : HeldS W0 cs W) (hb : Below W.heap.size W W') : HeldS W0 cs W' := ⟨chain h.gr hb,fun x hx => cell_kept hb (h.all x hx)⟩
theorem HeldS.drew {W0 W : World} {cs : List (Addr × Value)} (h : HeldS W0 cs W) : HeldS W0 cs W.drew := h.below (below_drew6 W)
theorem HeldS.alloc {W0 W : World} {cs : List (Addr × Value)} (h : HeldS W0 cs W) (o : Obj) : HeldS W0 cs (W.alloc o) := h.below (boxb o)
theorem ints_of {V : World} {B : Nat} (l : List Int) (hl : l.length <= 64) (h : ∀ j (hj : j < l.length),V.cell? ⟨B,j,none⟩ = some (.int .i64 l[j])) : Lst intK V (.slice (some ⟨B,0,none⟩) l.length l.length) l :=
  ⟨_,_,rfl,fun j hj => ⟨B,0,rfl,at_int.2 (by
    rw [show intK.size = 1 from rfl,Nat.mul_one,Nat.zero_add]; exact h j hj)⟩,Nat.le_refl _,by omega⟩
theorem or8_2 {V : World} {B : Nat} (a b : Int) (h0 : V.cell? ⟨B,0,none⟩ = some (.int .i64 a)) (h1 : V.cell? ⟨B,1,none⟩ = some (.int .i64 b)) :
    Calls Tryz.prog 102 #[.slice (some ⟨B,0,none⟩) 2 2] V fun e w' => e = .returned (.int .i64 (orE [a,b])) /\ w' = V :=
  or8_any _ [a,b] V (ints_of [a,b] (by simp) fun j hj => by
    match j,hj with
    | 0,_ => exact h0
    | 1,_ => exact h1)
theorem zone_is (k : Txt) : ((bytesT k).toList == ([122,111,110,101] : List UInt8)) = (k == k8Zone) := by rw [Lib.toList_data]; rfl
theorem host_is (k : Txt) : ((bytesT k).toList == ([104,111,115,116] : List UInt8)) = (k == k8Host) := by rw [Lib.toList_data]; rfl
def trmA (x : VTerm) : Value := .agg #[.string (bytesT x.1),.string (bytesT x.2)]
end Go.Proofs.YtfpfdnapamdhjaaGreatDoor

/- Layer 8: a term: contracts -/
namespace Go.Proofs.YtfpfdnapamdhjaaGreatDoor
open Go.RowKit Suf Val

set_option maxRecDepth 100000 in
set_option maxHeartbeats 16000000 in
theorem pterm_any (x : VTerm) (w : World) (h1 : short x.2) :
    Calls Tryz.prog 148 #[trmA x] w fun e w' => e = .returned (.int .i64 (termE x)) /\ Below w.heap.size w w' := by
  have hnm := hide (name8 x.2 h1)
  have he : Hid (termE x = orE [unl ((x.1 == k8Zone) || (x.1 == k8Host)) 1,unl (nameB x.2) 7]) := rfl
  have g1 := zone_is x.1
  have g2 := host_is x.1
  unfold trmA
  obtain ⟨q,hq⟩ : ∃ q,q = nameB x.2 := ⟨_,rfl⟩
  obtain ⟨p1,hp1⟩ : ∃ q,q = (x.1 == k8Zone) := ⟨_,rfl⟩
  obtain ⟨p2,hp2⟩ : ∃ q,q = (x.1 == k8Host) := ⟨_,rfl⟩
  rw [<- hq] at hnm he
  rw [<- hp1] at g1 he
  rw [<- hp2] at g2 he
  obtain ⟨X0,hX0⟩ : ∃ X,X = bytesT x.1 := ⟨_,rfl⟩
  obtain ⟨X1,hX1⟩ : ∃ X,X = bytesT x.2 := ⟨_,rfl⟩
  rw [<- hX0] at g1 g2 ⊢
  rw [<- hX1] at hnm ⊢
  rw [unhide he]
  clear hq hp1 hp2 hX0 hX1 he h1
  obtain ⟨z1,hz1⟩ : ∃ z,z = unl (p1 || p2) 1 := ⟨_,rfl⟩
  obtain ⟨z2,hz2⟩ : ∃ z,z = unl q 7 := ⟨_,rfl⟩
  rw [<- hz1,<- hz2]
  have cU2 : Hid (∀ V bb ee,bb = .bool q -> ee = .int .i64 7 -> Calls Tryz.prog 103 #[bb,ee] V fun r w' => r = .returned (.int .i64 z2) /\ w' = V) := fun V bb ee e1 e2 => by rw [e1,e2,hz2]; exact unless_any q 7 V
  clear hz2
  have sall : Hid (∀ V,HeldS w [(⟨w.heap.size,0,none⟩,.string X0),(⟨w.heap.size,1,none⟩,.string X1)] V -> Hid (HeldS w [(⟨w.heap.size,0,none⟩,.string X0),(⟨w.heap.size,1,none⟩,.string X1)] V) /\ V.cell? ⟨w.heap.size,0,none⟩ = some (.string X0) /\ V.cell? ⟨w.heap.size,1,none⟩ = some (.string X1)) := fun V h => ⟨h,h.at 0 rfl,h.at 1 rfl⟩
  have kdrew : Hid (∀ V,(Hid (HeldS w [(⟨w.heap.size,0,none⟩,.string X0),(⟨w.heap.size,1,none⟩,.string X1)] V) /\ V.cell? ⟨w.heap.size,0,none⟩ = some (.string X0) /\ V.cell? ⟨w.heap.size,1,none⟩ = some (.string X1)) -> Hid (HeldS w [(⟨w.heap.size,0,none⟩,.string X0),(⟨w.heap.size,1,none⟩,.string X1)] V.drew) /\ V.drew.cell? ⟨w.heap.size,0,none⟩ = some (.string X0) /\ V.drew.cell? ⟨w.heap.size,1,none⟩ = some (.string X1)) := fun V h => unhide sall _ (unhide h.1).drew
  have kalloc : Hid (∀ V o,(Hid (HeldS w [(⟨w.heap.size,0,none⟩,.string X0),(⟨w.heap.size,1,none⟩,.string X1)] V) /\ V.cell? ⟨w.heap.size,0,none⟩ = some (.string X0) /\ V.cell? ⟨w.heap.size,1,none⟩ = some (.string X1)) -> Hid (HeldS w [(⟨w.heap.size,0,none⟩,.string X0),(⟨w.heap.size,1,none⟩,.string X1)] (V.alloc o)) /\ (V.alloc o).cell? ⟨w.heap.size,0,none⟩ = some (.string X0) /\ (V.alloc o).cell? ⟨w.heap.size,1,none⟩ = some (.string X1)) := fun V o h => unhide sall _ ((unhide h.1).alloc o)
  have kcall : Hid (∀ V V',(Hid (HeldS w [(⟨w.heap.size,0,none⟩,.string X0),(⟨w.heap.size,1,none⟩,.string X1)] V) /\ V.cell? ⟨w.heap.size,0,none⟩ = some (.string X0) /\ V.cell? ⟨w.heap.size,1,none⟩ = some (.string X1)) -> Below V.heap.size V V' -> Hid (HeldS w [(⟨w.heap.size,0,none⟩,.string X0),(⟨w.heap.size,1,none⟩,.string X1)] V') /\ V'.cell? ⟨w.heap.size,0,none⟩ = some (.string X0) /\ V'.cell? ⟨w.heap.size,1,none⟩ = some (.string X1)) := fun V V' h hb => unhide sall _ ((unhide h.1).below hb)
  have hS : Hid (HeldS w [(⟨w.heap.size,0,none⟩,.string X0),(⟨w.heap.size,1,none⟩,.string X1)] (w.alloc (.cells #[.string X0,.string X1] 146))) /\ (w.alloc (.cells #[.string X0,.string X1] 146)).cell? ⟨w.heap.size,0,none⟩ = some (.string X0) /\ (w.alloc (.cells #[.string X0,.string X1] 146)).cell? ⟨w.heap.size,1,none⟩ = some (.string X1) := unhide sall _ ⟨boxb _,fun x hx => by simp only [List.mem_cons,List.not_mem_nil,or_false] at hx; rcases hx with rfl | rfl <;> simp [go_sem]⟩
  clear sall

  cases p1
  · have cU1 : Hid (∀ V bb ee,bb = .bool p2 -> ee = .int .i64 1 -> Calls Tryz.prog 103 #[bb,ee] V fun r w' => r = .returned (.int .i64 z1) /\ w' = V) := fun V bb ee e1 e2 => by rw [e1,e2,hz1]; exact unless_any p2 1 V
    clear hz1
    go_enter Tryz.func148,Tryz.ntmps148
    go_wp2_with fail
    go_region_held3 (fun V => Hid (HeldS w [(⟨w.heap.size,0,none⟩,.string X0),(⟨w.heap.size,1,none⟩,.string X1)] V) /\ V.cell? ⟨w.heap.size,0,none⟩ = some (.string X0) /\ V.cell? ⟨w.heap.size,1,none⟩ = some (.string X1))
      (first | (with_reducible exact hS) | (with_reducible assumption) | (with_reducible refine unhide kdrew _ ?_; with_reducible assumption) | (with_reducible refine unhide kalloc _ _ ?_; with_reducible assumption) | (refine unhide kcall _ _ ?_ (by assumption); with_reducible assumption) | (with_reducible refine unhide kdrew _ (unhide kalloc _ _ ?_); with_reducible assumption) | (with_reducible refine unhide kalloc _ _ (unhide kdrew _ ?_); with_reducible assumption))
      (first | (go_at_call 103; refine (unhide cU1 _ _ _ (by rfl) (by rfl)).mono ?_; rintro e w9 ⟨rfl,rfl⟩) | (go_at_call 103; refine (unhide cU2 _ _ _ (by rfl) (by rfl)).mono ?_; rintro e w9 ⟨rfl,rfl⟩) | (go_at_call 144; refine (unhide hnm _).mono ?_; rintro e w9 ⟨rfl,rfl⟩) | (go_at_call 102; refine (or8_2 z1 z2 (by simp [go_sem]) (by simp [go_sem])).mono ?_; rintro e w9 ⟨rfl,rfl⟩))
    rename_i hH
    go_wp2_with fail
    go_ret
    exact ⟨rfl,(unhide hH.1).gr⟩
  · have cU1 : Hid (∀ V bb ee,bb = .bool true -> ee = .int .i64 1 -> Calls Tryz.prog 103 #[bb,ee] V fun r w' => r = .returned (.int .i64 z1) /\ w' = V) := fun V bb ee e1 e2 => by rw [e1,e2,hz1]; exact unless_any true 1 V
    clear hz1
    go_enter Tryz.func148,Tryz.ntmps148
    go_wp2_with fail
    refine wp_region_noPanic ?_
    refine wp_region_held_drew (S := fun V => Hid (HeldS w [(⟨w.heap.size,0,none⟩,.string X0),(⟨w.heap.size,1,none⟩,.string X1)] V) /\ V.cell? ⟨w.heap.size,0,none⟩ = some (.string X0) /\ V.cell? ⟨w.heap.size,1,none⟩ = some (.string X1)) (by kernel_rfl) (unhide kdrew _ hS) (fun hHeld0 => ?_)
    refine takeH6 (i := 0) (d := 3) (v := ?_) rfl rfl (by kernel_rfl) (by kernel_rfl) (by kernel_rfl) (fun _ _ _ h => h) (Or.inl ⟨by rfl,?_⟩) (by assumption) ?_
    rotate_left
    · (intro W hSW; (try dsimp only at hSW); go_simp; try (with_reducible rfl))
    try simp only [Act.put,List.setIfInBounds_toArray,List.set_cons_zero,List.set_cons_succ]
    refine takeH6 (i := 1) (d := 4) (v := ?_) rfl rfl (by kernel_rfl) (by kernel_rfl) (by kernel_rfl) (fun _ _ _ h => h) (Or.inl ⟨by rfl,?_⟩) (by assumption) ?_
    rotate_left
    · (intro W hSW; (try dsimp only at hSW); go_simp; try (with_reducible rfl))
    try simp only [Act.put,List.setIfInBounds_toArray,List.set_cons_zero,List.set_cons_succ]
    refine takeH6 (i := 2) (d := 5) (v := ?_) rfl rfl (by kernel_rfl) (by kernel_rfl) (by kernel_rfl) (fun _ _ _ h => h) (Or.inl ⟨by rfl,?_⟩) (by assumption) ?_
    rotate_left
    · (intro W hSW; (try dsimp only at hSW); go_simp; try (with_reducible rfl))
    try simp only [Act.put,List.setIfInBounds_toArray,List.set_cons_zero,List.set_cons_succ]
    refine takeH6 (i := 3) (d := 6) (v := ?_) rfl rfl (by kernel_rfl) (by kernel_rfl) (by kernel_rfl) (fun _ _ _ h => h) (Or.inl ⟨by rfl,?_⟩) (by assumption) ?_
    rotate_left
    · (intro W hSW; (try dsimp only at hSW); go_simp; try (with_reducible rfl))
    try simp only [Act.put,List.setIfInBounds_toArray,List.set_cons_zero,List.set_cons_succ]
    refine takeH6 (i := 4) (d := 7) (v := undef) rfl rfl (by kernel_rfl) (by kernel_rfl) (by kernel_rfl) (fun _ _ _ h => h) (Or.inr ⟨by rfl,rfl⟩) (by assumption) ?_
    try simp only [Act.put,List.setIfInBounds_toArray,List.set_cons_zero,List.set_cons_succ]
    refine takeH6 (i := 5) (d := 8) (v := undef) rfl rfl (by kernel_rfl) (by kernel_rfl) (by kernel_rfl) (fun _ _ _ h => h) (Or.inr ⟨by rfl,rfl⟩) (by assumption) ?_
    try simp only [Act.put,List.setIfInBounds_toArray,List.set_cons_zero,List.set_cons_succ]
    refine takeH6 (i := 6) (d := 9) (v := undef) rfl rfl (by kernel_rfl) (by kernel_rfl) (by kernel_rfl) (fun _ _ _ h => h) (Or.inr ⟨by rfl,rfl⟩) (by assumption) ?_
    try simp only [Act.put,List.setIfInBounds_toArray,List.set_cons_zero,List.set_cons_succ]
    refine takeH6 (i := 7) (d := 10) (v := ?_) rfl rfl (by kernel_rfl) (by kernel_rfl) (by kernel_rfl) (fun _ _ _ h => h) (Or.inl ⟨by rfl,?_⟩) (by assumption) ?_
    rotate_left
    · (intro W hSW; (try dsimp only at hSW); go_simp; try (with_reducible rfl))
    try simp only [Act.put,List.setIfInBounds_toArray,List.set_cons_zero,List.set_cons_succ]
    refine takeH6 (i := 9) (d := 12) (v := ?_) rfl rfl (by kernel_rfl) (by kernel_rfl) (by kernel_rfl) (fun _ _ _ h => h) (Or.inl ⟨by rfl,?_⟩) (by assumption) ?_
    rotate_left
    · (intro W hSW; (try dsimp only at hSW); go_simp; try (with_reducible rfl))
    try simp only [Act.put,List.setIfInBounds_toArray,List.set_cons_zero,List.set_cons_succ]
    refine takeH6 (i := 10) (d := 13) (v := ?_) rfl rfl (by kernel_rfl) (by kernel_rfl) (by kernel_rfl) (fun _ _ _ h => h) (Or.inl ⟨by rfl,?_⟩) (by assumption) ?_
    rotate_left
    · (intro W hSW; (try dsimp only at hSW); go_simp; try (with_reducible rfl))
    try simp only [Act.put,List.setIfInBounds_toArray,List.set_cons_zero,List.set_cons_succ]
    refine wpAnyH_ready (rs := [8]) (by kernel_rfl) (by simp) ?_
    refine AllReadyH.cons (o := _) rfl (fun K hK => ?_) AllReadyH.nil
    go_simp
    (go_at_call 103; refine (unhide cU1 _ _ _ (by rfl) (by rfl)).mono ?_; rintro e w9 ⟨rfl,rfl⟩)
    refine hK.out _ _ ?_ (fun hHeld1 => ?_)
    · (try dsimp only)
      (first | (with_reducible exact hS) | (with_reducible assumption) | (with_reducible refine unhide kdrew _ ?_; with_reducible assumption) | (with_reducible refine unhide kalloc _ _ ?_; with_reducible assumption) | (refine unhide kcall _ _ ?_ (by assumption); with_reducible assumption) | (with_reducible refine unhide kdrew _ (unhide kalloc _ _ ?_); with_reducible assumption) | (with_reducible refine unhide kalloc _ _ (unhide kdrew _ ?_); with_reducible assumption))
    clear hK K hHeld0
    try simp only [Act.put,List.setIfInBounds_toArray,List.set_cons_zero,List.set_cons_succ]
    refine wpAnyH_ready (rs := [11]) (by kernel_rfl) (by simp) ?_
    refine AllReadyH.cons (o := _) rfl (fun K hK => ?_) AllReadyH.nil
    go_simp
    (go_at_call 144; refine (unhide hnm _).mono ?_; rintro e w9 ⟨rfl,rfl⟩)
    refine hK.out _ _ ?_ (fun hHeld2 => ?_)
    · (try dsimp only)
      (first | (with_reducible exact hS) | (with_reducible assumption) | (with_reducible refine unhide kdrew _ ?_; with_reducible assumption) | (with_reducible refine unhide kalloc _ _ ?_; with_reducible assumption) | (refine unhide kcall _ _ ?_ (by assumption); with_reducible assumption) | (with_reducible refine unhide kdrew _ (unhide kalloc _ _ ?_); with_reducible assumption) | (with_reducible refine unhide kalloc _ _ (unhide kdrew _ ?_); with_reducible assumption))
    clear hK K hHeld1
    try simp only [Act.put,List.setIfInBounds_toArray,List.set_cons_zero,List.set_cons_succ]
    refine wpAnyH_ready (rs := [12]) (by kernel_rfl) (by simp) ?_
    refine AllReadyH.cons (o := _) rfl (fun K hK => ?_) AllReadyH.nil
    go_simp
    (go_at_call 103; refine (unhide cU2 _ _ _ (by rfl) (by rfl)).mono ?_; rintro e w9 ⟨rfl,rfl⟩)
    refine hK.out _ _ ?_ (fun hHeld3 => ?_)
    · (try dsimp only)
      (first | (with_reducible exact hS) | (with_reducible assumption) | (with_reducible refine unhide kdrew _ ?_; with_reducible assumption) | (with_reducible refine unhide kalloc _ _ ?_; with_reducible assumption) | (refine unhide kcall _ _ ?_ (by assumption); with_reducible assumption) | (with_reducible refine unhide kdrew _ (unhide kalloc _ _ ?_); with_reducible assumption) | (with_reducible refine unhide kalloc _ _ (unhide kdrew _ ?_); with_reducible assumption))
    clear hK K hHeld2
    try simp only [Act.put,List.setIfInBounds_toArray,List.set_cons_zero,List.set_cons_succ]
    refine wpAnyH_ready (rs := [13]) (by kernel_rfl) (by simp) ?_
    refine AllReadyH.cons (o := _) rfl (fun K hK => ?_) AllReadyH.nil
    go_simp
    refine hK.out _ _ ?_ (fun hHeld4 => ?_)
    · (try dsimp only)
      (first | (with_reducible exact hS) | (with_reducible assumption) | (with_reducible refine unhide kdrew _ ?_; with_reducible assumption) | (with_reducible refine unhide kalloc _ _ ?_; with_reducible assumption) | (refine unhide kcall _ _ ?_ (by assumption); with_reducible assumption) | (with_reducible refine unhide kdrew _ (unhide kalloc _ _ ?_); with_reducible assumption) | (with_reducible refine unhide kalloc _ _ (unhide kdrew _ ?_); with_reducible assumption))
    clear hK K hHeld3
    try simp only [Act.put,List.setIfInBounds_toArray,List.set_cons_zero,List.set_cons_succ]
    refine wpAnyH_ready (rs := [14]) (by kernel_rfl) (by simp) ?_
    refine AllReadyH.cons (o := _) rfl (fun K hK => ?_) AllReadyH.nil
    go_simp
    (go_at_call 102; refine (or8_2 z1 z2 (by simp [go_sem]) (by simp [go_sem])).mono ?_; rintro e w9 ⟨rfl,rfl⟩)
    refine hK.out _ _ ?_ (fun hHeld5 => ?_)
    · (try dsimp only)
      (first | (with_reducible exact hS) | (with_reducible assumption) | (with_reducible refine unhide kdrew _ ?_; with_reducible assumption) | (with_reducible refine unhide kalloc _ _ ?_; with_reducible assumption) | (refine unhide kcall _ _ ?_ (by assumption); with_reducible assumption) | (with_reducible refine unhide kdrew _ (unhide kalloc _ _ ?_); with_reducible assumption) | (with_reducible refine unhide kalloc _ _ (unhide kdrew _ ?_); with_reducible assumption))
    clear hK K hHeld4
    try simp only [Act.put,List.setIfInBounds_toArray,List.set_cons_zero,List.set_cons_succ]
    refine takeH6 (i := 15) (d := 2) (v := ?_) rfl rfl (by kernel_rfl) (by kernel_rfl) (by kernel_rfl) (fun _ _ _ h => h) (Or.inl ⟨by rfl,?_⟩) (by assumption) ?_
    rotate_left
    · (intro W hSW; (try dsimp only at hSW); go_simp; try (with_reducible rfl))
    try simp only [Act.put,List.setIfInBounds_toArray,List.set_cons_zero,List.set_cons_succ]
    refine wpAnyH_done (by kernel_rfl) ?_ _
    refine NoPanic.normal ?_
    have hHeld := hHeld5
    clear hHeld5

    go_wp2_with fail
    go_ret
    exact ⟨rfl,(unhide hHeld.1).gr⟩
end Go.Proofs.YtfpfdnapamdhjaaGreatDoor

/- Layer 8: terms,spreads,nodes: contracts -/
namespace Go.Proofs.YtfpfdnapamdhjaaGreatDoor
open Go.RowKit Suf Val

set_option maxRecDepth 100000 in
set_option maxHeartbeats 16000000 in
theorem pterms_any (v : Value) (l : List VTerm) (w : World) (hv : Lst trmK w v l) :
    Calls Tryz.prog 110 #[v] w fun e w' => e = .returned (.int .i64 (allE termE l)) /\ Below w.heap.size w w' := by
  have HV := hide hv
  have hlen := hv.len
  obtain ⟨a,c,rfl⟩ := hv.val
  clear hv
  obtain ⟨n,hn⟩ : ∃ n,n = l.length := ⟨_,rfl⟩
  rw [<- hn] at HV hlen ⊢
  have HN := hide hn
  clear hn
  obtain ⟨R,hR⟩ : ∃ R,R = allE termE l := ⟨_,rfl⟩
  rw [<- hR]
  have HR := hide hR
  clear hR
  go_enter Tryz.func110,Tryz.ntmps110
  go_wp2_with fail
  go_loopw [8] (fun i W => ∃ k : Nat,k <= n /\ i = .int .i64 k /\ Hid (R = allE termE (l.drop k)) /\ Hid (Below w.heap.size w W)) (fun i _ => n - (intOf i).toNat)
  case atStart => exact ⟨0,Nat.zero_le _,rfl,HR,Below.refl _ _⟩
  case round =>
    obtain ⟨k,hk,rfl,hlab,hbel⟩ := hrel
    by_cases hlt : k < n
    · have hlk : k < l.length := by rw [<- unhide HN]; exact hlt
      obtain ⟨b,o,rfl,hat⟩ := ((unhide HV).below (unhide hbel)).at hlk
      have hst := hide (alle_step (f := termE) hlk)
      obtain ⟨y,hy⟩ : ∃ y,y = l[k] := ⟨_,rfl⟩
      rw [<- hy] at hat hst
      rw [<- unhide hlab] at hst
      obtain ⟨⟨h0,_⟩,h1,hs1⟩ := trm_at.1 hat
      rw [show trmK.size = 2 from rfl] at h0 h1
      have hnm := hide (fun W => pterm_any y W hs1)
      obtain ⟨z,hz⟩ : ∃ z,z = termE y := ⟨_,rfl⟩
      rw [<- hz] at hnm hst
      clear hz hy hlk hat hs1 hlab
      unfold trmA at hnm
      have B1 := hide (chain (unhide hbel) (boxb (.cells #[.string (bytesT y.1),.string (bytesT y.2)] 146)))
      obtain ⟨X0,hX0⟩ : ∃ X,X = bytesT y.1 := ⟨_,rfl⟩
      obtain ⟨X1,hX1⟩ : ∃ X,X = bytesT y.2 := ⟨_,rfl⟩
      rw [<- hX0] at h0 hnm B1
      rw [<- hX1] at h1 hnm B1
      clear hX0 hX1
      go_wp2_with fail
      refine (unhide hnm _).mono ?_
      rintro e w2 ⟨rfl,hw2⟩
      have B2 := hide (chain (unhide B1) hw2)
      clear hw2 h0 h1
      by_cases hz0 : z = 0
      · subst hz0
        have hnx : Hid (R = allE termE (l.drop (k + 1))) := by show _ = _; rw [unhide hst]; simp
        go_wp2_with fail
        exact ⟨⟨k + 1,by omega,by go_num,hnx,B2⟩,by simp [intOf]; omega⟩
      · have hb := nz hz0
        have hfin : Hid (R = z) := by show _ = _; rw [unhide hst]; simp [hz0]
        clear hz0
        go_wp2_with fail
        go_ret
        exact ⟨ret_int (unhide hfin).symm,unhide B2⟩
    · obtain rfl : k = n := by omega
      have hfin : Hid (R = 0) := by
        show _ = _
        rw [unhide hlab,List.drop_of_length_le (by rw [<- unhide HN]; exact Nat.le_refl _)]; rfl
      go_wp2_with fail
      go_ret
      exact ⟨ret_int (unhide hfin).symm,unhide hbel⟩
set_option maxRecDepth 100000 in
set_option maxHeartbeats 16000000 in
theorem rterms_any (v : Value) (l : List VTerm) (w : World) (hv : Lst trmK w v l) :
    Calls Tryz.prog 89 #[v] w fun e w' => e = .returned (.int .i64 (allE termE l)) /\ Below w.heap.size w w' := by
  have HV := hide hv
  have hlen := hv.len
  obtain ⟨a,c,rfl⟩ := hv.val
  clear hv
  obtain ⟨n,hn⟩ : ∃ n,n = l.length := ⟨_,rfl⟩
  rw [<- hn] at HV hlen ⊢
  have HN := hide hn
  clear hn
  obtain ⟨R,hR⟩ : ∃ R,R = allE termE l := ⟨_,rfl⟩
  rw [<- hR]
  have HR := hide hR
  clear hR
  go_enter Tryz.func89,Tryz.ntmps89
  go_wp2_with fail
  go_loopw [7] (fun i W => ∃ k : Nat,k <= n /\ i = .int .i64 k /\ Hid (R = allE termE (l.drop k)) /\ Hid (Below w.heap.size w W)) (fun i _ => n - (intOf i).toNat)
  case atStart => exact ⟨0,Nat.zero_le _,rfl,HR,Below.refl _ _⟩
  case round =>
    obtain ⟨k,hk,rfl,hlab,hbel⟩ := hrel
    by_cases hlt : k < n
    · have hlk : k < l.length := by rw [<- unhide HN]; exact hlt
      obtain ⟨b,o,rfl,hat⟩ := ((unhide HV).below (unhide hbel)).at hlk
      have hst := hide (alle_step (f := termE) hlk)
      obtain ⟨y,hy⟩ : ∃ y,y = l[k] := ⟨_,rfl⟩
      rw [<- hy] at hat hst
      rw [<- unhide hlab] at hst
      obtain ⟨⟨h0,_⟩,h1,hs1⟩ := trm_at.1 hat
      rw [show trmK.size = 2 from rfl] at h0 h1
      have hnm := hide (rname8 y.2 hs1)
      have hz : Hid (termE y = orE [unl ((y.1 == k8Zone) || (y.1 == k8Host)) 1,unl (nameB y.2) 7]) := rfl
      have g1 := zone_is y.1
      have g2 := host_is y.1
      obtain ⟨q,hq⟩ : ∃ q,q = nameB y.2 := ⟨_,rfl⟩
      obtain ⟨p1,hp1⟩ : ∃ q,q = (y.1 == k8Zone) := ⟨_,rfl⟩
      obtain ⟨p2,hp2⟩ : ∃ q,q = (y.1 == k8Host) := ⟨_,rfl⟩
      rw [<- hq] at hnm hz
      rw [<- hp1] at g1 hz
      rw [<- hp2] at g2 hz
      rw [unhide hz] at hst
      clear hq hp1 hp2 hz hy hlk hat hs1 hlab
      have B1 := hide (chain (unhide hbel) (boxb (.cells #[.string (bytesT y.1),.string (bytesT y.2)] 146)))
      obtain ⟨X0,hX0⟩ : ∃ X,X = bytesT y.1 := ⟨_,rfl⟩
      obtain ⟨X1,hX1⟩ : ∃ X,X = bytesT y.2 := ⟨_,rfl⟩
      rw [<- hX0] at h0 g1 g2 B1
      rw [<- hX1] at h1 hnm B1
      clear hX0 hX1
      by_cases hpp : (p1 || p2) = false
      · have hfin : Hid (R = 1) := by show _ = _; rw [unhide hst,hpp]; rfl
        cases p1 <;> cases p2 <;> first | (cases hpp; done) | skip
        go_wp2_with fail
        go_ret
        exact ⟨ret_int (unhide hfin).symm,unhide B1⟩
      · have hpt : (p1 || p2) = true := by cases p1 <;> cases p2 <;> simp_all
        rw [hpt] at hst
        have hst2 : Hid (R = if unl q 7 = 0 then allE termE (l.drop (k + 1)) else unl q 7) := by
          show _ = _
          rw [unhide hst]; cases q <;> rfl
        clear hst
        cases p1 <;> cases p2 <;> first | (cases hpt; done) | skip
        all_goals
          clear hpp hpt
          go_wp2_with fail
          refine (unhide hnm _).mono ?_
          rintro e w2 ⟨rfl,rfl⟩
          cases q
          · have hfin : Hid (R = 7) := by show _ = _; rw [unhide hst2]; rfl
            go_wp2_with fail
            go_ret
            exact ⟨ret_int (unhide hfin).symm,unhide B1⟩
          · have hnx : Hid (R = allE termE (l.drop (k + 1))) := by show _ = _; rw [unhide hst2]; rfl
            go_wp2_with fail
            exact ⟨⟨k + 1,by omega,by go_num,hnx,B1⟩,by simp [intOf]; omega⟩
    · obtain rfl : k = n := by omega
      have hfin : Hid (R = 0) := by
        show _ = _
        rw [unhide hlab,List.drop_of_length_le (by rw [<- unhide HN]; exact Nat.le_refl _)]; rfl
      go_wp2_with fail
      go_ret
      exact ⟨ret_int (unhide hfin).symm,unhide hbel⟩
set_option maxRecDepth 100000 in
set_option maxHeartbeats 16000000 in
theorem pspreads_any (v : Value) (l : List VSpr) (w : World) (hv : Lst sprK w v l) :
    Calls Tryz.prog 109 #[v] w fun e w' => e = .returned (.int .i64 (allE spreadE l)) /\ Below w.heap.size w w' := by
  have HV := hide hv
  have hlen := hv.len
  obtain ⟨a,c,rfl⟩ := hv.val
  clear hv
  obtain ⟨n,hn⟩ : ∃ n,n = l.length := ⟨_,rfl⟩
  rw [<- hn] at HV hlen ⊢
  have HN := hide hn
  clear hn
  obtain ⟨R,hR⟩ : ∃ R,R = allE spreadE l := ⟨_,rfl⟩
  rw [<- hR]
  have HR := hide hR
  clear hR
  go_enter Tryz.func109,Tryz.ntmps109
  go_wp2_with fail
  go_loopw [8] (fun i W => ∃ k : Nat,k <= n /\ i = .int .i64 k /\ Hid (R = allE spreadE (l.drop k)) /\ Hid (Below w.heap.size w W)) (fun i _ => n - (intOf i).toNat)
  case atStart => exact ⟨0,Nat.zero_le _,rfl,HR,Below.refl _ _⟩
  case round =>
    obtain ⟨k,hk,rfl,hlab,hbel⟩ := hrel
    by_cases hlt : k < n
    · have hlk : k < l.length := by rw [<- unhide HN]; exact hlt
      obtain ⟨b,o,rfl,hat⟩ := ((unhide HV).below (unhide hbel)).at hlk
      have hst := hide (alle_step (f := spreadE) hlk)
      obtain ⟨y,hy⟩ : ∃ y,y = l[k] := ⟨_,rfl⟩
      rw [<- hy] at hat hst
      rw [<- unhide hlab] at hst
      obtain ⟨⟨h0,_⟩,⟨h1,hs1⟩,h2⟩ := spr_at.1 hat
      rw [show sprK.size = 3 from rfl] at h0 h1 h2
      have hz : Hid (spreadE y = orE [termE (y.1,y.2.1),unl (btwB 1 y.2.2 16) 1]) := rfl
      rw [unhide hz] at hst
      have hnm := hide (fun W => pterm_any (y.1,y.2.1) W hs1)
      unfold trmA at hnm
      obtain ⟨X0,hX0⟩ : ∃ X,X = bytesT y.1 := ⟨_,rfl⟩
      obtain ⟨X1,hX1⟩ : ∃ X,X = bytesT y.2.1 := ⟨_,rfl⟩
      obtain ⟨X2,hX2⟩ : ∃ X,X = y.2.2 := ⟨_,rfl⟩
      simp only at hnm
      rw [<- hX0] at h0 hnm
      rw [<- hX1] at h1 hnm
      rw [<- hX2] at h2 hst
      obtain ⟨z1,hz1⟩ : ∃ z,z = termE (y.1,y.2.1) := ⟨_,rfl⟩
      obtain ⟨z2,hz2⟩ : ∃ z,z = unl (btwB 1 X2 16) 1 := ⟨_,rfl⟩
      rw [<- hz1] at hnm hst
      rw [<- hz2] at hst
      obtain ⟨z,hzz⟩ : ∃ z,z = orE [z1,z2] := ⟨_,rfl⟩
      rw [<- hzz] at hst
      have cU1 : Hid (∀ V bb,bb = .bool (btwB 1 X2 16) -> Calls Tryz.prog 103 #[bb,.int .i64 1] V fun r w' => r = .returned (.int .i64 z2) /\ w' = V) := fun V bb e1 => by rw [e1,hz2]; exact unless_any _ 1 V
      have cO : Hid (∀ V B,V.cell? ⟨B,0,none⟩ = some (.int .i64 z1) -> V.cell? ⟨B,1,none⟩ = some (.int .i64 z2) -> Calls Tryz.prog 102 #[.slice (some ⟨B,0,none⟩) 2 2] V fun r w' => r = .returned (.int .i64 z) /\ w' = V) := fun V B g0 g1 => by rw [hzz]; exact or8_2 z1 z2 g0 g1
      clear hz hy hlk hat hs1 hlab hX0 hX1 hX2 hz1 hz2 hzz
      have sall : Hid (∀ V,HeldS wr [(⟨wr.heap.size,0,none⟩,.string X0),(⟨wr.heap.size,1,none⟩,.string X1),(⟨wr.heap.size,2,none⟩,.int .i64 X2)] V -> Hid (HeldS wr [(⟨wr.heap.size,0,none⟩,.string X0),(⟨wr.heap.size,1,none⟩,.string X1),(⟨wr.heap.size,2,none⟩,.int .i64 X2)] V) /\ V.cell? ⟨wr.heap.size,0,none⟩ = some (.string X0) /\ V.cell? ⟨wr.heap.size,1,none⟩ = some (.string X1) /\ V.cell? ⟨wr.heap.size,2,none⟩ = some (.int .i64 X2)) := fun V h => ⟨h,h.at 0 rfl,h.at 1 rfl,h.at 2 rfl⟩
      have kdrew : Hid (∀ V,(Hid (HeldS wr [(⟨wr.heap.size,0,none⟩,.string X0),(⟨wr.heap.size,1,none⟩,.string X1),(⟨wr.heap.size,2,none⟩,.int .i64 X2)] V) /\ V.cell? ⟨wr.heap.size,0,none⟩ = some (.string X0) /\ V.cell? ⟨wr.heap.size,1,none⟩ = some (.string X1) /\ V.cell? ⟨wr.heap.size,2,none⟩ = some (.int .i64 X2)) -> Hid (HeldS wr [(⟨wr.heap.size,0,none⟩,.string X0),(⟨wr.heap.size,1,none⟩,.string X1),(⟨wr.heap.size,2,none⟩,.int .i64 X2)] V.drew) /\ V.drew.cell? ⟨wr.heap.size,0,none⟩ = some (.string X0) /\ V.drew.cell? ⟨wr.heap.size,1,none⟩ = some (.string X1) /\ V.drew.cell? ⟨wr.heap.size,2,none⟩ = some (.int .i64 X2)) := fun V h => unhide sall _ (unhide h.1).drew
      have kalloc : Hid (∀ V o,(Hid (HeldS wr [(⟨wr.heap.size,0,none⟩,.string X0),(⟨wr.heap.size,1,none⟩,.string X1),(⟨wr.heap.size,2,none⟩,.int .i64 X2)] V) /\ V.cell? ⟨wr.heap.size,0,none⟩ = some (.string X0) /\ V.cell? ⟨wr.heap.size,1,none⟩ = some (.string X1) /\ V.cell? ⟨wr.heap.size,2,none⟩ = some (.int .i64 X2)) -> Hid (HeldS wr [(⟨wr.heap.size,0,none⟩,.string X0),(⟨wr.heap.size,1,none⟩,.string X1),(⟨wr.heap.size,2,none⟩,.int .i64 X2)] (V.alloc o)) /\ (V.alloc o).cell? ⟨wr.heap.size,0,none⟩ = some (.string X0) /\ (V.alloc o).cell? ⟨wr.heap.size,1,none⟩ = some (.string X1) /\ (V.alloc o).cell? ⟨wr.heap.size,2,none⟩ = some (.int .i64 X2)) := fun V o h => unhide sall _ ((unhide h.1).alloc o)
      have kcall : Hid (∀ V V',(Hid (HeldS wr [(⟨wr.heap.size,0,none⟩,.string X0),(⟨wr.heap.size,1,none⟩,.string X1),(⟨wr.heap.size,2,none⟩,.int .i64 X2)] V) /\ V.cell? ⟨wr.heap.size,0,none⟩ = some (.string X0) /\ V.cell? ⟨wr.heap.size,1,none⟩ = some (.string X1) /\ V.cell? ⟨wr.heap.size,2,none⟩ = some (.int .i64 X2)) -> Below V.heap.size V V' -> Hid (HeldS wr [(⟨wr.heap.size,0,none⟩,.string X0),(⟨wr.heap.size,1,none⟩,.string X1),(⟨wr.heap.size,2,none⟩,.int .i64 X2)] V') /\ V'.cell? ⟨wr.heap.size,0,none⟩ = some (.string X0) /\ V'.cell? ⟨wr.heap.size,1,none⟩ = some (.string X1) /\ V'.cell? ⟨wr.heap.size,2,none⟩ = some (.int .i64 X2)) := fun V V' h hb => unhide sall _ ((unhide h.1).below hb)
      have hS : Hid (HeldS wr [(⟨wr.heap.size,0,none⟩,.string X0),(⟨wr.heap.size,1,none⟩,.string X1),(⟨wr.heap.size,2,none⟩,.int .i64 X2)] (wr.alloc (.cells #[.string X0,.string X1,.int .i64 X2] 115))) /\ (wr.alloc (.cells #[.string X0,.string X1,.int .i64 X2] 115)).cell? ⟨wr.heap.size,0,none⟩ = some (.string X0) /\ (wr.alloc (.cells #[.string X0,.string X1,.int .i64 X2] 115)).cell? ⟨wr.heap.size,1,none⟩ = some (.string X1) /\ (wr.alloc (.cells #[.string X0,.string X1,.int .i64 X2] 115)).cell? ⟨wr.heap.size,2,none⟩ = some (.int .i64 X2) := unhide sall _ ⟨boxb _,fun x hx => by simp only [List.mem_cons,List.not_mem_nil,or_false] at hx; rcases hx with rfl | rfl | rfl <;> simp [go_sem]⟩
      clear sall

      go_wp2_with fail
      clear h0 h1 h2
      go_region_held3 (fun V => Hid (HeldS wr [(⟨wr.heap.size,0,none⟩,.string X0),(⟨wr.heap.size,1,none⟩,.string X1),(⟨wr.heap.size,2,none⟩,.int .i64 X2)] V) /\ V.cell? ⟨wr.heap.size,0,none⟩ = some (.string X0) /\ V.cell? ⟨wr.heap.size,1,none⟩ = some (.string X1) /\ V.cell? ⟨wr.heap.size,2,none⟩ = some (.int .i64 X2))
        (first | (with_reducible exact hS) | (with_reducible assumption) | (with_reducible refine unhide kdrew _ ?_; with_reducible assumption) | (with_reducible refine unhide kalloc _ _ ?_; with_reducible assumption) | (refine unhide kcall _ _ ?_ (by assumption); with_reducible assumption) | (with_reducible refine unhide kdrew _ (unhide kalloc _ _ ?_); with_reducible assumption) | (with_reducible refine unhide kalloc _ _ (unhide kdrew _ ?_); with_reducible assumption))
        (first
          | (go_at_call 148; refine (unhide hnm _).mono ?_; rintro e w9 ⟨rfl,hw9⟩)
          | (go_at_call 106; refine (btw_any _ _ _ _).mono ?_; rintro e w9 ⟨rfl,rfl⟩)
          | (go_at_call 103; refine (unhide cU1 _ _ (by rfl)).mono ?_; rintro e w9 ⟨rfl,rfl⟩)
          | (go_at_call 102; refine (unhide cO _ _ (by simp [go_sem]) (by simp [go_sem])).mono ?_; rintro e w9 ⟨rfl,rfl⟩))
      rename_i hH
      have B2 := hide (chain (unhide hbel) (unhide hH.1).gr)
      clear hH hS kdrew kalloc kcall
      by_cases hz0 : z = 0
      · subst hz0
        have hnx : Hid (R = allE spreadE (l.drop (k + 1))) := by show _ = _; rw [unhide hst]; simp
        go_wp2_with fail
        exact ⟨⟨k + 1,by omega,by go_num,hnx,B2⟩,by simp [intOf]; omega⟩
      · have hb := nz hz0
        have hfin : Hid (R = z) := by show _ = _; rw [unhide hst]; simp [hz0]
        clear hz0
        go_wp2_with fail
        go_ret
        exact ⟨ret_int (unhide hfin).symm,unhide B2⟩
    · obtain rfl : k = n := by omega
      have hfin : Hid (R = 0) := by
        show _ = _
        rw [unhide hlab,List.drop_of_length_le (by rw [<- unhide HN]; exact Nat.le_refl _)]; rfl
      go_wp2_with fail
      go_ret
      exact ⟨ret_int (unhide hfin).symm,unhide hbel⟩
end Go.Proofs.YtfpfdnapamdhjaaGreatDoor

/- Layer 8: nodes: contract; cmp.Or of six,eight,eleven errors -/
namespace Go.Proofs.YtfpfdnapamdhjaaGreatDoor
open Go.RowKit Suf Val

theorem or8_6 {V : World} {B : Nat} (z0 z1 z2 z3 z4 z5 : Int) (h0 : V.cell? ⟨B,0,none⟩ = some (.int .i64 z0)) (h1 : V.cell? ⟨B,1,none⟩ = some (.int .i64 z1)) (h2 : V.cell? ⟨B,2,none⟩ = some (.int .i64 z2)) (h3 : V.cell? ⟨B,3,none⟩ = some (.int .i64 z3)) (h4 : V.cell? ⟨B,4,none⟩ = some (.int .i64 z4)) (h5 : V.cell? ⟨B,5,none⟩ = some (.int .i64 z5)) :
    Calls Tryz.prog 102 #[.slice (some ⟨B,0,none⟩) 6 6] V fun e w' => e = .returned (.int .i64 (orE [z0,z1,z2,z3,z4,z5])) /\ w' = V :=
  or8_any _ [z0,z1,z2,z3,z4,z5] V (ints_of [z0,z1,z2,z3,z4,z5] (by simp) fun j hj => by
    match j,hj with
    | 0,_ => exact h0
    | 1,_ => exact h1
    | 2,_ => exact h2
    | 3,_ => exact h3
    | 4,_ => exact h4
    | 5,_ => exact h5)
theorem or8_8 {V : World} {B : Nat} (z0 z1 z2 z3 z4 z5 z6 z7 : Int) (h0 : V.cell? ⟨B,0,none⟩ = some (.int .i64 z0)) (h1 : V.cell? ⟨B,1,none⟩ = some (.int .i64 z1)) (h2 : V.cell? ⟨B,2,none⟩ = some (.int .i64 z2)) (h3 : V.cell? ⟨B,3,none⟩ = some (.int .i64 z3)) (h4 : V.cell? ⟨B,4,none⟩ = some (.int .i64 z4)) (h5 : V.cell? ⟨B,5,none⟩ = some (.int .i64 z5)) (h6 : V.cell? ⟨B,6,none⟩ = some (.int .i64 z6)) (h7 : V.cell? ⟨B,7,none⟩ = some (.int .i64 z7)) :
    Calls Tryz.prog 102 #[.slice (some ⟨B,0,none⟩) 8 8] V fun e w' => e = .returned (.int .i64 (orE [z0,z1,z2,z3,z4,z5,z6,z7])) /\ w' = V :=
  or8_any _ [z0,z1,z2,z3,z4,z5,z6,z7] V (ints_of [z0,z1,z2,z3,z4,z5,z6,z7] (by simp) fun j hj => by
    match j,hj with
    | 0,_ => exact h0
    | 1,_ => exact h1
    | 2,_ => exact h2
    | 3,_ => exact h3
    | 4,_ => exact h4
    | 5,_ => exact h5
    | 6,_ => exact h6
    | 7,_ => exact h7)
theorem or8_11 {V : World} {B : Nat} (z0 z1 z2 z3 z4 z5 z6 z7 z8 z9 z10 : Int) (h0 : V.cell? ⟨B,0,none⟩ = some (.int .i64 z0)) (h1 : V.cell? ⟨B,1,none⟩ = some (.int .i64 z1)) (h2 : V.cell? ⟨B,2,none⟩ = some (.int .i64 z2)) (h3 : V.cell? ⟨B,3,none⟩ = some (.int .i64 z3)) (h4 : V.cell? ⟨B,4,none⟩ = some (.int .i64 z4)) (h5 : V.cell? ⟨B,5,none⟩ = some (.int .i64 z5)) (h6 : V.cell? ⟨B,6,none⟩ = some (.int .i64 z6)) (h7 : V.cell? ⟨B,7,none⟩ = some (.int .i64 z7)) (h8 : V.cell? ⟨B,8,none⟩ = some (.int .i64 z8)) (h9 : V.cell? ⟨B,9,none⟩ = some (.int .i64 z9)) (h10 : V.cell? ⟨B,10,none⟩ = some (.int .i64 z10)) :
    Calls Tryz.prog 102 #[.slice (some ⟨B,0,none⟩) 11 11] V fun e w' => e = .returned (.int .i64 (orE [z0,z1,z2,z3,z4,z5,z6,z7,z8,z9,z10])) /\ w' = V :=
  or8_any _ [z0,z1,z2,z3,z4,z5,z6,z7,z8,z9,z10] V (ints_of [z0,z1,z2,z3,z4,z5,z6,z7,z8,z9,z10] (by simp) fun j hj => by
    match j,hj with
    | 0,_ => exact h0
    | 1,_ => exact h1
    | 2,_ => exact h2
    | 3,_ => exact h3
    | 4,_ => exact h4
    | 5,_ => exact h5
    | 6,_ => exact h6
    | 7,_ => exact h7
    | 8,_ => exact h8
    | 9,_ => exact h9
    | 10,_ => exact h10)
theorem le_not (x y : Txt) : (lt y x || (y == x)) = !(lt x y) := by
  cases h : lt x y with
  | true =>
    rw [lt_asymm h,beq_eq_false_iff_ne.2 (fun e => lt_ne h e.symm)]; rfl
  | false =>
    rcases lt_total x y with h1 | h1 | h1
    · rw [h1] at h; cases h
    · rw [h1,beq_self_eq_true,Bool.or_true]; rfl
    · rw [h1]; rfl
set_option maxRecDepth 100000 in
set_option maxHeartbeats 16000000 in
theorem pnodes_any (v : Value) (l : List Txt) (w : World) (hv : Lst strK w v l) :
    Calls Tryz.prog 118 #[v] w fun e w' => e = .returned (.int .i64 (nodesR l)) /\ Below w.heap.size w w' := by
  have HV := hide hv
  have hlen := hv.len
  obtain ⟨a,c,rfl⟩ := hv.val
  clear hv
  obtain ⟨n,hn⟩ : ∃ n,n = l.length := ⟨_,rfl⟩
  rw [<- hn] at HV hlen ⊢
  have HN := hide hn
  clear hn
  obtain ⟨R,hR⟩ : ∃ R,R = nodesR l := ⟨_,rfl⟩
  rw [<- hR]
  have HR := hide hR
  clear hR
  by_cases h4 : 4 < n
  · have hfin : Hid (R = 3) := by show _ = _; rw [unhide HR]; unfold nodesR; rw [if_pos (by rw [<- unhide HN]; exact h4)]
    go_enter Tryz.func118,Tryz.ntmps118
    go_wp2_with fail
    go_ret
    exact ⟨ret_int (unhide hfin).symm,Below.refl _ _⟩
  by_cases h0 : n = 0
  · have hfin : Hid (R = 1) := by show _ = _; rw [unhide HR]; unfold nodesR; rw [if_neg (by rw [<- unhide HN]; exact h4),if_pos (by rw [<- unhide HN]; exact h0)]
    subst h0
    go_enter Tryz.func118,Tryz.ntmps118
    go_wp2_with fail
    go_ret
    exact ⟨ret_int (unhide hfin).symm,Below.refl _ _⟩
  have HF : Hid (R = nodesF (prevT l 0) (l.drop 0)) := by show _ = _; rw [unhide HR]; unfold nodesR; rw [if_neg (by rw [<- unhide HN]; exact h4),if_neg (by rw [<- unhide HN]; exact h0)]; rfl
  have d0 : ((n : Int) == 0) = false := by rw [beq_eq_false_iff_ne]; omega
  have d1 : ¬ (n : Int) = 0 := by omega
  go_enter Tryz.func118,Tryz.ntmps118
  go_wp2_with fail
  clear d0 d1
  go_loopw [15] (fun i W => ∃ k : Nat,k <= n /\ i = .int .i64 k /\ Hid (R = nodesF (prevT l k) (l.drop k)) /\ W = w) (fun i _ => n - (intOf i).toNat)
  case atStart => exact ⟨0,Nat.zero_le _,rfl,HF,rfl⟩
  case round =>
    obtain ⟨k,hk,rfl,hlab,rfl⟩ := hrel
    by_cases hlt : k < n
    · have hlk : k < l.length := by rw [<- unhide HN]; exact hlt
      obtain ⟨b,o,rfl,hat⟩ := (unhide HV).at hlk
      have hst := hide (nodes_step hlk)
      rw [<- unhide hlab] at hst
      obtain ⟨y,hy⟩ : ∃ y,y = l[k] := ⟨_,rfl⟩
      rw [<- hy] at hat hst
      obtain ⟨h0,hs0⟩ := at_str.1 hat
      rw [show strK.size = 1 from rfl,Nat.mul_one] at h0
      have hnm := hide (name8 y hs0)
      obtain ⟨q,hq⟩ : ∃ q,q = nameB y := ⟨_,rfl⟩
      rw [<- hq] at hnm hst
      clear hq hy hlk hat hs0 hlab
      cases k with
      | zero =>
        rw [Nat.add_zero] at h0
        have hst2 : Hid (R = if q = false then 7 else nodesF (prevT l 1) (l.drop 1)) := unhide hst
        clear hst
        obtain ⟨X,hX⟩ : ∃ X,X = bytesT y := ⟨_,rfl⟩
        rw [<- hX] at h0 hnm
        clear hX
        go_wp2_with fail
        refine (unhide hnm _).mono ?_
        rintro e w2 ⟨rfl,rfl⟩
        clear h0
        cases q
        · have hfin : Hid (R = 7) := by show _ = _; rw [unhide hst2]; rfl
          go_wp2_with fail
          go_ret
          exact ⟨ret_int (unhide hfin).symm,Below.refl _ _⟩
        · have hnx : Hid (R = nodesF (prevT l 1) (l.drop 1)) := by show _ = _; rw [unhide hst2]; rfl
          go_wp2_with fail
          exact ⟨⟨1,by omega,by go_num,hnx,trivial⟩,by simp [intOf]; omega⟩
      | succ m =>
        have hlm : m < l.length := by rw [<- unhide HN]; omega
        obtain ⟨b',o',eb,hat⟩ := (unhide HV).at hlm
        obtain ⟨rfl,rfl⟩ : b = b' /\ o = o' := by injection eb with eb; injection eb with e1 e2 _; exact ⟨e1,e2⟩
        rw [prevT_at hlm] at hst
        obtain ⟨x,hx⟩ : ∃ x,x = l[m] := ⟨_,rfl⟩
        rw [<- hx] at hat hst
        obtain ⟨g0,_⟩ := at_str.1 hat
        rw [show strK.size = 1 from rfl,Nat.mul_one] at g0
        obtain ⟨p,hp⟩ : ∃ p,p = lt x y := ⟨_,rfl⟩
        obtain ⟨r1,hr1⟩ : ∃ r,r = lt y x := ⟨_,rfl⟩
        obtain ⟨r2,hr2⟩ : ∃ r,r = (y == x) := ⟨_,rfl⟩
        have hg1 : (Op.bytesLess (bytesT y).toList (bytesT x).toList) = r1 := by rw [hr1,Lib.toList_data,Lib.toList_data]; rfl
        have hg2 : ((bytesT y).toList == (bytesT x).toList) = r2 := by rw [hr2,Lib.toList_data,Lib.toList_data]; rfl
        have hrr : Hid ((r1 || r2) = !p) := by show _ = _; rw [hr1,hr2,hp]; exact le_not x y
        have hst2 : Hid (R = if q = false then 7 else if p = false then 6 else nodesF (prevT l (m + 1 + 1)) (l.drop (m + 1 + 1))) := by show _ = _; rw [unhide hst,hp]; rfl
        clear hst hp hx hlm eb hat hr1 hr2
        obtain ⟨X,hX⟩ : ∃ X,X = bytesT y := ⟨_,rfl⟩
        obtain ⟨Z,hZ⟩ : ∃ X,X = bytesT x := ⟨_,rfl⟩
        rw [<- hX] at h0 hnm hg1 hg2
        rw [<- hZ] at g0 hg1 hg2
        clear hX hZ
        have e2 : ((m + 1 : Nat) : Int) = (m : Int) + 1 := by omega
        have i0 : (0 : Int) <= (m : Int) := by omega
        have i1 : (m : Int) < (n : Int) := by omega
        rw [e2]
        clear e2
        go_wp2_with fail
        refine (unhide hnm _).mono ?_
        rintro e w2 ⟨rfl,rfl⟩
        clear h0
        cases q
        · have hfin : Hid (R = 7) := by show _ = _; rw [unhide hst2]; rfl
          go_wp2_with fail
          go_ret
          exact ⟨ret_int (unhide hfin).symm,Below.refl _ _⟩
        cases p
        · have hfin : Hid (R = 6) := by show _ = _; rw [unhide hst2]; rfl
          cases r1 <;> cases r2 <;> first | (have h := unhide hrr; cases h; done) | skip
          all_goals
            go_wp2_with fail
            go_ret
            exact ⟨ret_int (unhide hfin).symm,Below.refl _ _⟩
        · cases r1 <;> cases r2 <;> first | (have h := unhide hrr; cases h; done) | skip
          have hnx : Hid (R = nodesF (prevT l (m + 1 + 1)) (l.drop (m + 1 + 1))) := by show _ = _; rw [unhide hst2]; rfl
          go_wp2_with fail
          exact ⟨⟨m + 1 + 1,by omega,by go_num,hnx,trivial⟩,by simp [intOf]; omega⟩
    · obtain rfl : k = n := by omega
      have hfin : Hid (R = 0) := by
        show _ = _
        rw [unhide hlab,List.drop_of_length_le (by rw [<- unhide HN]; exact Nat.le_refl _)]; cases prevT l k <;> rfl
      go_wp2_with fail
      go_ret
      exact ⟨ret_int (unhide hfin).symm,Below.refl _ _⟩
end Go.Proofs.YtfpfdnapamdhjaaGreatDoor

/- Layer 8: lists of one text as lists of another; pods,pools,claims,commands that come in -/
namespace Go.Proofs.YtfpfdnapamdhjaaGreatDoor
open Go.RowKit Suf Val

theorem lst_strs {w : World} {u : Value} {l : List Txt} (h : Lst strK w u l) : Strs w u l /\ Capd u := by
  obtain ⟨a,c,e,hc,hl,hn⟩ := h
  refine ⟨⟨a,c,e,fun j hj => ?_,hn,fun t ht => ?_⟩,fun a' n' c' e' => ?_⟩
  · obtain ⟨b,o,e2,h2⟩ := hc j hj
    have := (at_str.1 h2).1
    rw [show strK.size = 1 from rfl,Nat.mul_one] at this
    exact ⟨b,o,e2,this⟩
  · obtain ⟨j,hj,rfl⟩ := List.mem_iff_getElem.1 ht
    obtain ⟨b,o,e2,h2⟩ := hc j hj
    exact (at_str.1 h2).2
  · rw [e] at e'
    injection e' with e1 e2 e3
    omega
theorem lst_reqs {w : World} {u : Value} {l : List VReq} (h : Lst reqK w u l) (hb : l.length * 56 <= reachBytes) : Reqs w u l := by
  have hr := reachBytes_lt
  obtain ⟨a,c,e,hc,hl,hn⟩ := h
  refine ⟨a,c,e,fun j hj => ?_,by omega⟩
  obtain ⟨b,o,e2,h2⟩ := hc j hj
  rw [show reqK.size = 4 from rfl] at h2
  obtain ⟨⟨h0,s0⟩,h1,⟨v,h3,hv⟩,h4⟩ := req_at.1 h2
  exact ⟨b,o,v,e2,h0,h1,h3,h4,(lst_strs hv).1,s0,(lst_strs hv).2⟩
theorem lst_labs {w : World} {u : Value} {l : List (Txt × Txt)} (h : Lst labK w u l) (hb : l.length * 32 <= reachBytes) : Ta.Labs w u l := by
  have hr := reachBytes_lt
  obtain ⟨a,c,e,hc,hl,hn⟩ := h
  refine ⟨a,c,e,fun j hj => ?_,by omega,hl⟩
  obtain ⟨b,o,e2,h2⟩ := hc j hj
  rw [show labK.size = 2 from rfl] at h2
  obtain ⟨⟨h0,s0⟩,h1,s1⟩ := lab_at.1 h2
  exact ⟨b,o,e2,h0,h1,s0,s1⟩
theorem lst_tols {w : World} {u : Value} {l : List (Txt × Txt × Bool)} (h : Lst tolK w u l) (hb : l.length * 40 <= reachBytes) : Ta.Tols w u l := by
  have hr := reachBytes_lt
  obtain ⟨a,c,e,hc,hl,hn⟩ := h
  refine ⟨a,c,e,fun j hj => ?_,by omega,hl⟩
  obtain ⟨b,o,e2,h2⟩ := hc j hj
  rw [show tolK.size = 3 from rfl] at h2
  obtain ⟨⟨h0,s0⟩,⟨h1,s1⟩,h3⟩ := tol_at.1 h2
  exact ⟨b,o,e2,h0,h1,h3,s0,s1⟩
def podA (p : VPod) (u1 u2 u3 u4 u5 : Value) : Value := .agg #[.string (bytesT p.name),.string (bytesT p.app),.int .i64 p.need.1,.int .i64 p.need.2,.int .i64 p.prio,u1,u2,u3,u4,u5,.int .i64 p.since,.string (bytesT p.on)]
def polA (p : VPool) (u1 u2 : Value) : Value := .agg #[.string (bytesT p.name),.int .i64 p.weight,.int .i64 p.limit.1,.int .i64 p.limit.2,u1,u2,.int .i64 p.gen,.int .i64 p.expire,.int .i64 p.budget,.int .i64 p.merge]
def clmA (c : VClaim) (u : Value) : Value := .agg #[.string (bytesT c.name),.string (bytesT c.pool),.int .i64 c.gen,.string (bytesT c.offer.1),.string (bytesT c.offer.2.1),.string (bytesT c.offer.2.2),.int .i64 c.price,.int .i64 c.cap.1,.int .i64 c.cap.2,u,.int .i64 c.tryN,.string (bytesT c.id),.int .i64 c.phase,.int .i64 c.born,.bool c.marked]
def cmdA (c : VCmd) (u1 u2 : Value) : Value := .agg #[.int .i64 c.cause,u1,.int .i64 c.step,.int .i64 c.til,.string (bytesT c.fresh),.string (bytesT c.pool),u2,.bool c.made]
structure PodIn (w : World) (p : VPod) (u1 u2 u3 u4 u5 : Value) : Prop where
  n1 : short p.name
  n2 : short p.app
  n3 : short p.on
  rq : Reqs w u1 p.reqs
  tl : Ta.Tols w u2 p.tols
  sp : Lst sprK w u3 p.spread
  nr : Lst trmK w u4 p.near
  ap : Lst trmK w u5 p.apart
theorem PodIn.below {w w' : World} {p : VPod} {u1 u2 u3 u4 u5 : Value} (h : PodIn w p u1 u2 u3 u4 u5) (hb : Below w.heap.size w w') : PodIn w' p u1 u2 u3 u4 u5 := ⟨h.n1,h.n2,h.n3,h.rq.below hb,h.tl.below hb,h.sp.below hb,h.nr.below hb,h.ap.below hb⟩
structure PolIn (w : World) (p : VPool) (u1 u2 : Value) : Prop where
  n1 : short p.name
  rq : Reqs w u1 p.reqs
  tn : Ta.Labs w u2 p.taints
theorem PolIn.below {w w' : World} {p : VPool} {u1 u2 : Value} (h : PolIn w p u1 u2) (hb : Below w.heap.size w w') : PolIn w' p u1 u2 := ⟨h.n1,h.rq.below hb,h.tn.below hb⟩
structure ClmIn (w : World) (c : VClaim) (u : Value) : Prop where
  n1 : short c.name
  n2 : short c.pool
  of : okO c.offer
  ops : Lst offK w u c.opts
  id : short c.id
theorem ClmIn.below {w w' : World} {c : VClaim} {u : Value} (h : ClmIn w c u) (hb : Below w.heap.size w w') : ClmIn w' c u := ⟨h.n1,h.n2,h.of,h.ops.below hb,h.id⟩
structure CmdIn (w : World) (c : VCmd) (u1 u2 : Value) : Prop where
  n1 : short c.fresh
  n2 : short c.pool
  nd : Lst strK w u1 c.nodes
  ops : Lst offK w u2 c.opts
theorem CmdIn.below {w w' : World} {c : VCmd} {u1 u2 : Value} (h : CmdIn w c u1 u2) (hb : Below w.heap.size w w') : CmdIn w' c u1 u2 := ⟨h.n1,h.n2,h.nd.below hb,h.ops.below hb⟩
theorem strs2 {V : World} {B : Nat} {a b : Txt} (ha : short a) (hb : short b) (h0 : V.cell? ⟨B,0,none⟩ = some (.string (bytesT a))) (h1 : V.cell? ⟨B,1,none⟩ = some (.string (bytesT b))) : Lst strK V (.slice (some ⟨B,0,none⟩) 2 2) [a,b] :=
  ⟨_,_,rfl,fun j hj => ⟨B,0,rfl,by
    match j,hj with
    | 0,_ => exact at_str.2 ⟨by simpa using h0,ha⟩
    | 1,_ => exact at_str.2 ⟨by simpa [strK] using h1,hb⟩⟩,by simp,by simp⟩
theorem strs1 {V : World} {B : Nat} {a : Txt} (ha : short a) (h0 : V.cell? ⟨B,0,none⟩ = some (.string (bytesT a))) : Lst strK V (.slice (some ⟨B,0,none⟩) 1 1) [a] :=
  ⟨_,_,rfl,fun j hj => ⟨B,0,rfl,by
    match j,hj with
    | 0,_ => exact at_str.2 ⟨by simpa using h0,ha⟩⟩,by simp,by simp⟩
theorem names2 (a b : Txt) (ha : short a) (hb : short b) (V : World) (B : Nat) (h0 : V.cell? ⟨B,0,none⟩ = some (.string (bytesT a))) (h1 : V.cell? ⟨B,1,none⟩ = some (.string (bytesT b))) :
    Calls Tryz.prog 104 #[.slice (some ⟨B,0,none⟩) 2 2] V fun e w' => e = .returned (.bool (nameB a && nameB b)) /\ w' = V := by
  have := names_any _ [a,b] V (strs2 ha hb h0 h1)
  rw [show [a,b].all nameB = (nameB a && nameB b) by simp] at this
  exact this
theorem names1 (a : Txt) (ha : short a) (V : World) (B : Nat) (h0 : V.cell? ⟨B,0,none⟩ = some (.string (bytesT a))) :
    Calls Tryz.prog 104 #[.slice (some ⟨B,0,none⟩) 1 1] V fun e w' => e = .returned (.bool (nameB a)) /\ w' = V := by
  have := names_any _ [a] V (strs1 ha h0)
  rw [show [a].all nameB = nameB a by simp] at this
  exact this
end Go.Proofs.YtfpfdnapamdhjaaGreatDoor
