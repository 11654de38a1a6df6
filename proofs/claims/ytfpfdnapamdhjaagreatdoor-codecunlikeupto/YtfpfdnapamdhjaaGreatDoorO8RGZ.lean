/- Layer 8: told,Check,Name: the program's -/
import Derived.Test.YtfpfdnapamdhjaaGreatDoorO8MAGZ
import Derived.Test.YtfpfdnapamdhjaaGreatDoorO8JGZ
import Derived.Test.YtfpfdnapamdhjaaGreatDoorO8KGZ
import Derived.Test.YtfpfdnapamdhjaaGreatDoorO8LGZ
import Derived.Deep.MidRow
import Derived.Laws.Rows
namespace Go.Proofs.YtfpfdnapamdhjaaGreatDoor
open Go.RowKit Suf Val

/-- A block that is read alone,whole: what comes of a world where nothing old is written. -/
structure RowAt (w0 : World) (B : Nat) (cs : Array Value) (t : TypeId) (W : World) : Prop where
  gr : Below w0.heap.size w0 W
  row : W.heap[B]? = some (.cells cs t)
theorem RowAt.below {w0 W W' : World} {B : Nat} {cs : Array Value} {t : TypeId} (h : RowAt w0 B cs t W) (hb : Below W.heap.size W W') : RowAt w0 B cs t W' :=
  ⟨chain h.gr hb,by rw [hb.block B (Array.getElem?_eq_some_iff.1 h.row).1]; exact h.row⟩
theorem RowAt.drew {w0 W : World} {B : Nat} {cs : Array Value} {t : TypeId} (h : RowAt w0 B cs t W) : RowAt w0 B cs t W.drew := h.below (below_drew6 W)
theorem RowAt.at {w0 W : World} {B : Nat} {cs : Array Value} {t : TypeId} (h : RowAt w0 B cs t W) (j : Nat) {v : Value} (e : cs[j]? = some v) : W.cell? ⟨B,j,none⟩ = some v := (cell_of_row W B j cs t _ h.row).trans e
theorem RowAt.range {w0 W : World} {B : Nat} {cs : Array Value} {t : TypeId} (h : RowAt w0 B cs t W) (o : Nat) (l : List Value) (e : ∀ j v,l[j]? = some v -> cs[o + j]? = some v) : W.rangeAt B o l := fun j v hv => h.at (o + j) (e j v hv)
theorem RowAt.part {w0 W : World} {B : Nat} {cs : Array Value} {t : TypeId} (h : RowAt w0 B cs t W) (pre l post : List Value) (e : cs = (pre ++ l ++ post).toArray) : W.rangeAt B pre.length l := fun j v hv => h.at (pre.length + j) (by
  rw [e,List.getElem?_toArray,List.append_assoc,List.getElem?_append_right (by omega),Nat.add_sub_cancel_left,List.getElem?_append_left (List.getElem?_eq_some_iff.1 hv).1]
  exact hv)
theorem row_new (w : World) (cs : Array Value) (t : TypeId) : RowAt w w.heap.size cs t (w.alloc (.cells cs t)) := ⟨boxb _,World.alloc_heap_new w _⟩
theorem as_pod_yes : ∀ (W : World) (v : Value),(Instr.typeAssert (.iface 29 v) 20 29 true).run Tryz.prog W = .ok (.tuple #[v,.bool true]) W := fun W v => by kernel_rfl
theorem as_pol_yes : ∀ (W : World) (v : Value),(Instr.typeAssert (.iface 32 v) 20 32 true).run Tryz.prog W = .ok (.tuple #[v,.bool true]) W := fun W v => by kernel_rfl
theorem as_clm_yes : ∀ (W : World) (v : Value),(Instr.typeAssert (.iface 37 v) 20 37 true).run Tryz.prog W = .ok (.tuple #[v,.bool true]) W := fun W v => by kernel_rfl
theorem as_cmd_yes : ∀ (W : World) (v : Value),(Instr.typeAssert (.iface 40 v) 20 40 true).run Tryz.prog W = .ok (.tuple #[v,.bool true]) W := fun W v => by kernel_rfl
theorem as_cool_yes : ∀ (W : World) (v : Value),(Instr.typeAssert (.iface 42 v) 20 42 true).run Tryz.prog W = .ok (.tuple #[v,.bool true]) W := fun W v => by kernel_rfl
theorem as_pod_pol : ∀ (W : World) (v : Value),(Instr.typeAssert (.iface 32 v) 20 29 true).run Tryz.prog W = .ok (.tuple #[.agg #[.string ⟨#[]⟩,.string ⟨#[]⟩,.int .i64 0,.int .i64 0,.int .i64 0,.slice none 0 0,.slice none 0 0,.slice none 0 0,.slice none 0 0,.slice none 0 0,.int .i64 0,.string ⟨#[]⟩],.bool false]) W := fun W v => by kernel_rfl
theorem as_pod_clm : ∀ (W : World) (v : Value),(Instr.typeAssert (.iface 37 v) 20 29 true).run Tryz.prog W = .ok (.tuple #[.agg #[.string ⟨#[]⟩,.string ⟨#[]⟩,.int .i64 0,.int .i64 0,.int .i64 0,.slice none 0 0,.slice none 0 0,.slice none 0 0,.slice none 0 0,.slice none 0 0,.int .i64 0,.string ⟨#[]⟩],.bool false]) W := fun W v => by kernel_rfl
theorem as_pod_cmd : ∀ (W : World) (v : Value),(Instr.typeAssert (.iface 40 v) 20 29 true).run Tryz.prog W = .ok (.tuple #[.agg #[.string ⟨#[]⟩,.string ⟨#[]⟩,.int .i64 0,.int .i64 0,.int .i64 0,.slice none 0 0,.slice none 0 0,.slice none 0 0,.slice none 0 0,.slice none 0 0,.int .i64 0,.string ⟨#[]⟩],.bool false]) W := fun W v => by kernel_rfl
theorem as_pod_cool : ∀ (W : World) (v : Value),(Instr.typeAssert (.iface 42 v) 20 29 true).run Tryz.prog W = .ok (.tuple #[.agg #[.string ⟨#[]⟩,.string ⟨#[]⟩,.int .i64 0,.int .i64 0,.int .i64 0,.slice none 0 0,.slice none 0 0,.slice none 0 0,.slice none 0 0,.slice none 0 0,.int .i64 0,.string ⟨#[]⟩],.bool false]) W := fun W v => by kernel_rfl
theorem as_pod_int : ∀ (W : World) (v : Value),(Instr.typeAssert (.iface 3 v) 20 29 true).run Tryz.prog W = .ok (.tuple #[.agg #[.string ⟨#[]⟩,.string ⟨#[]⟩,.int .i64 0,.int .i64 0,.int .i64 0,.slice none 0 0,.slice none 0 0,.slice none 0 0,.slice none 0 0,.slice none 0 0,.int .i64 0,.string ⟨#[]⟩],.bool false]) W := fun W v => by kernel_rfl
theorem as_pol_clm : ∀ (W : World) (v : Value),(Instr.typeAssert (.iface 37 v) 20 32 true).run Tryz.prog W = .ok (.tuple #[.agg #[.string ⟨#[]⟩,.int .i64 0,.int .i64 0,.int .i64 0,.slice none 0 0,.slice none 0 0,.int .i64 0,.int .i64 0,.int .i64 0,.int .i64 0],.bool false]) W := fun W v => by kernel_rfl
theorem as_pol_cmd : ∀ (W : World) (v : Value),(Instr.typeAssert (.iface 40 v) 20 32 true).run Tryz.prog W = .ok (.tuple #[.agg #[.string ⟨#[]⟩,.int .i64 0,.int .i64 0,.int .i64 0,.slice none 0 0,.slice none 0 0,.int .i64 0,.int .i64 0,.int .i64 0,.int .i64 0],.bool false]) W := fun W v => by kernel_rfl
theorem as_pol_cool : ∀ (W : World) (v : Value),(Instr.typeAssert (.iface 42 v) 20 32 true).run Tryz.prog W = .ok (.tuple #[.agg #[.string ⟨#[]⟩,.int .i64 0,.int .i64 0,.int .i64 0,.slice none 0 0,.slice none 0 0,.int .i64 0,.int .i64 0,.int .i64 0,.int .i64 0],.bool false]) W := fun W v => by kernel_rfl
theorem as_pol_int : ∀ (W : World) (v : Value),(Instr.typeAssert (.iface 3 v) 20 32 true).run Tryz.prog W = .ok (.tuple #[.agg #[.string ⟨#[]⟩,.int .i64 0,.int .i64 0,.int .i64 0,.slice none 0 0,.slice none 0 0,.int .i64 0,.int .i64 0,.int .i64 0,.int .i64 0],.bool false]) W := fun W v => by kernel_rfl
theorem as_clm_cmd : ∀ (W : World) (v : Value),(Instr.typeAssert (.iface 40 v) 20 37 true).run Tryz.prog W = .ok (.tuple #[.agg #[.string ⟨#[]⟩,.string ⟨#[]⟩,.int .i64 0,.string ⟨#[]⟩,.string ⟨#[]⟩,.string ⟨#[]⟩,.int .i64 0,.int .i64 0,.int .i64 0,.slice none 0 0,.int .i64 0,.string ⟨#[]⟩,.int .i64 0,.int .i64 0,.bool false],.bool false]) W := fun W v => by kernel_rfl
theorem as_clm_cool : ∀ (W : World) (v : Value),(Instr.typeAssert (.iface 42 v) 20 37 true).run Tryz.prog W = .ok (.tuple #[.agg #[.string ⟨#[]⟩,.string ⟨#[]⟩,.int .i64 0,.string ⟨#[]⟩,.string ⟨#[]⟩,.string ⟨#[]⟩,.int .i64 0,.int .i64 0,.int .i64 0,.slice none 0 0,.int .i64 0,.string ⟨#[]⟩,.int .i64 0,.int .i64 0,.bool false],.bool false]) W := fun W v => by kernel_rfl
theorem as_clm_int : ∀ (W : World) (v : Value),(Instr.typeAssert (.iface 3 v) 20 37 true).run Tryz.prog W = .ok (.tuple #[.agg #[.string ⟨#[]⟩,.string ⟨#[]⟩,.int .i64 0,.string ⟨#[]⟩,.string ⟨#[]⟩,.string ⟨#[]⟩,.int .i64 0,.int .i64 0,.int .i64 0,.slice none 0 0,.int .i64 0,.string ⟨#[]⟩,.int .i64 0,.int .i64 0,.bool false],.bool false]) W := fun W v => by kernel_rfl
theorem as_cmd_cool : ∀ (W : World) (v : Value),(Instr.typeAssert (.iface 42 v) 20 40 true).run Tryz.prog W = .ok (.tuple #[.agg #[.int .i64 0,.slice none 0 0,.int .i64 0,.int .i64 0,.string ⟨#[]⟩,.string ⟨#[]⟩,.slice none 0 0,.bool false],.bool false]) W := fun W v => by kernel_rfl
theorem as_cmd_int : ∀ (W : World) (v : Value),(Instr.typeAssert (.iface 3 v) 20 40 true).run Tryz.prog W = .ok (.tuple #[.agg #[.int .i64 0,.slice none 0 0,.int .i64 0,.int .i64 0,.string ⟨#[]⟩,.string ⟨#[]⟩,.slice none 0 0,.bool false],.bool false]) W := fun W v => by kernel_rfl
theorem as_cool_int : ∀ (W : World) (v : Value),(Instr.typeAssert (.iface 3 v) 20 42 true).run Tryz.prog W = .ok (.tuple #[.agg #[.string ⟨#[]⟩,.string ⟨#[]⟩,.string ⟨#[]⟩,.int .i64 0],.bool false]) W := fun W v => by kernel_rfl
theorem told_int (n : Int) (w : World) : Calls Tryz.prog 32 #[.iface 3 (.int .i64 n)] w fun e w' => e = .returned (.tuple #[.string ⟨#[]⟩,.int .i64 1]) /\ w' = w := by
  have hA_pod := as_pod_int
  have hA_pol := as_pol_int
  have hA_clm := as_clm_int
  have hA_cmd := as_cmd_int
  have hA_cool := as_cool_int
  go_enter Tryz.func32,Tryz.ntmps32
  go_wp2_with fail
  go_ret2
  exact ⟨rfl,rfl⟩
theorem chk8_of (v : Value) (s : ByteArray) (z : Int) (w : World) (h : Calls Tryz.prog 32 #[v] w fun e w' => e = .returned (.tuple #[.string s,.int .i64 z]) /\ Below w.heap.size w w') :
    Calls Tryz.prog 15 #[v] w fun e w' => e = .returned (.int .i64 z) /\ Below w.heap.size w w' := by
  have H := hide h
  clear h
  go_enter Tryz.func15,Tryz.ntmps15
  go_wp2_with fail
  refine (unhide H).mono ?_
  rintro e w1 ⟨rfl,hw1⟩
  have B := hide hw1
  clear hw1
  go_wp2_with fail
  go_ret
  exact ⟨rfl,unhide B⟩
set_option maxRecDepth 100000 in
set_option maxHeartbeats 32000000 in
theorem told_pod (p : VPod) (u1 u2 u3 u4 u5 : Value) (w : World) (hL : Laid w) (h : PodIn w p u1 u2 u3 u4 u5) :
    Calls Tryz.prog 32 #[.iface 29 (podA p u1 u2 u3 u4 u5)] w fun e w' => e = .returned (.tuple #[.string (bytesT p.name),.int .i64 (podR p)]) /\ Below w.heap.size w w' := by
  have kC : Hid (∀ V,Below w.heap.size w V -> Calls Tryz.prog 63 #[podA p u1 u2 u3 u4 u5] V fun e w' => e = .returned (.int .i64 (podR p)) /\ Below V.heap.size V w') := fun V hb => ppod_any p u1 u2 u3 u4 u5 V (hL.below hb) (h.below hb)
  obtain ⟨a1,c1,hu1⟩ := h.rq.val
  obtain ⟨n1,hn1⟩ : ∃ n,n = p.reqs.length := ⟨_,rfl⟩
  obtain ⟨a2,c2,hu2⟩ := h.tl.val
  obtain ⟨n2,hn2⟩ : ∃ n,n = p.tols.length := ⟨_,rfl⟩
  obtain ⟨a3,c3,hu3⟩ := h.sp.val
  obtain ⟨n3,hn3⟩ : ∃ n,n = p.spread.length := ⟨_,rfl⟩
  obtain ⟨a4,c4,hu4⟩ := h.nr.val
  obtain ⟨n4,hn4⟩ : ∃ n,n = p.near.length := ⟨_,rfl⟩
  obtain ⟨a5,c5,hu5⟩ := h.ap.val
  obtain ⟨n5,hn5⟩ : ∃ n,n = p.apart.length := ⟨_,rfl⟩
  unfold podA at kC ⊢
  rw [hu1] at kC ⊢
  rw [<- hn1] at kC ⊢
  rw [hu2] at kC ⊢
  rw [<- hn2] at kC ⊢
  rw [hu3] at kC ⊢
  rw [<- hn3] at kC ⊢
  rw [hu4] at kC ⊢
  rw [<- hn4] at kC ⊢
  rw [hu5] at kC ⊢
  rw [<- hn5] at kC ⊢
  obtain ⟨R,hR⟩ : ∃ R,R = podR p := ⟨_,rfl⟩
  rw [<- hR] at kC ⊢
  obtain ⟨X0,hX0⟩ : ∃ z,z = bytesT p.name := ⟨_,rfl⟩
  obtain ⟨X1,hX1⟩ : ∃ z,z = bytesT p.app := ⟨_,rfl⟩
  obtain ⟨X2,hX2⟩ : ∃ z,z = bytesT p.on := ⟨_,rfl⟩
  obtain ⟨N0,hN0⟩ : ∃ z,z = p.need.1 := ⟨_,rfl⟩
  obtain ⟨N1,hN1⟩ : ∃ z,z = p.need.2 := ⟨_,rfl⟩
  obtain ⟨P0,hP0⟩ : ∃ z,z = p.prio := ⟨_,rfl⟩
  obtain ⟨S0,hS0⟩ : ∃ z,z = p.since := ⟨_,rfl⟩
  rw [<- hX0,<- hX1,<- hX2,<- hN0,<- hN1,<- hP0,<- hS0] at kC ⊢
  clear h hR hu1 hn1 hu2 hn2 hu3 hn3 hu4 hn4 hu5 hn5 hX0 hX1 hX2 hN0 hN1 hP0 hS0
  obtain ⟨S,hS⟩ : ∃ S : World -> Prop,S = fun V => RowAt w w.heap.size #[.string X0,.string X1,.int .i64 N0,.int .i64 N1,.int .i64 P0,.slice a1 n1 c1,.slice a2 n2 c2,.slice a3 n3 c3,.slice a4 n4 c4,.slice a5 n5 c5,.int .i64 S0,.string X2] 29 V := ⟨_,rfl⟩
  have kD : Hid (∀ V,S V -> Calls Tryz.prog 63 #[.agg #[.string X0,.string X1,.int .i64 N0,.int .i64 N1,.int .i64 P0,.slice a1 n1 c1,.slice a2 n2 c2,.slice a3 n3 c3,.slice a4 n4 c4,.slice a5 n5 c5,.int .i64 S0,.string X2]] V fun e w' => e = .returned (.int .i64 R) /\ Below V.heap.size V w') := fun V hs => by rw [hS] at hs; exact unhide kC V hs.gr
  have kgr : Hid (∀ V,S V -> Below w.heap.size w V) := fun V h => by rw [hS] at h; exact h.gr
  have kcall : Hid (∀ V V',S V -> Below V.heap.size V V' -> S V') := fun V V' h hb => by rw [hS] at h ⊢; exact h.below hb
  have kL : Hid (∀ V,S V -> V.rangeAt w.heap.size 0 [.string X0,.string X1,.int .i64 N0,.int .i64 N1,.int .i64 P0,.slice a1 n1 c1,.slice a2 n2 c2,.slice a3 n3 c3,.slice a4 n4 c4,.slice a5 n5 c5,.int .i64 S0,.string X2]) := fun V h => by rw [hS] at h; exact h.part [] [.string X0,.string X1,.int .i64 N0,.int .i64 N1,.int .i64 P0,.slice a1 n1 c1,.slice a2 n2 c2,.slice a3 n3 c3,.slice a4 n4 c4,.slice a5 n5 c5,.int .i64 S0,.string X2] [] rfl
  have k0 : Hid (∀ V,S V -> V.cell? ⟨w.heap.size,0,none⟩ = some (.string X0)) := fun V h => by rw [hS] at h; exact h.at 0 rfl
  have HS : S (w.alloc (.cells #[.string X0,.string X1,.int .i64 N0,.int .i64 N1,.int .i64 P0,.slice a1 n1 c1,.slice a2 n2 c2,.slice a3 n3 c3,.slice a4 n4 c4,.slice a5 n5 c5,.int .i64 S0,.string X2] 29)).drew := by rw [hS]; exact (row_new _ _ _).drew
  clear kC hS hL
  have hA_pod := as_pod_yes
  go_enter Tryz.func32,Tryz.ntmps32
  go_wp2_with fail
  refine wp_region_noPanic ?_
  refine wp_region_held_drew (S := S) (by kernel_rfl) (HS) (fun hHeld0 => ?_)
  refine takeH6 (i := 0) (d := 14) (v := ?_) rfl rfl (by kernel_rfl) (by kernel_rfl) (by kernel_rfl) (fun _ _ _ h => h) (Or.inl ⟨by rfl,?_⟩) (by assumption) ?_
  rotate_left
  · (intro W hSW; (try dsimp only at hSW); go_simp; try (with_reducible rfl))
  try simp only [Act.put]
  try simp only [List.setIfInBounds_toArray]
  try simp only [List.set_cons_zero,List.set_cons_succ]
  refine takeH6 (i := 1) (d := 15) (v := ?_) rfl rfl (by kernel_rfl) (by kernel_rfl) (by kernel_rfl) (fun _ _ _ h => h) (Or.inl ⟨by rfl,?_⟩) (by assumption) ?_
  rotate_left
  · (intro W hSW; have h0 := unhide k0 W hSW; go_simp; try (with_reducible rfl))
  try simp only [Act.put]
  try simp only [List.setIfInBounds_toArray]
  try simp only [List.set_cons_zero,List.set_cons_succ]
  refine wpAnyH_take (i := 2) (oi := _) (v := _) rfl (by kernel_rfl) (by kernel_rfl) (by kernel_rfl) (fun _ _ _ h => h) (yieldsIf_load_mid (by rfl) 29 _ rfl w.heap.size 0 rfl _ _ (fun V hV => unhide kL V hV) Tryz.underlying29 rfl (by kernel_rfl)) (by assumption) ?_
  try simp only [Act.put]
  try simp only [List.setIfInBounds_toArray]
  try simp only [List.set_cons_zero,List.set_cons_succ]
  refine wpAnyH_ready (rs := [3]) (by kernel_rfl) (by simp) ?_
  refine AllReadyH.cons (o := _) rfl (fun K hK => ?_) AllReadyH.nil
  go_simp
  (go_at_call 63; with_reducible refine (unhide kD _ ?_).mono ?_; with_reducible assumption; rintro e w9 ⟨rfl,hw9⟩)
  refine hK.out _ _ ?_ (fun hHeld1 => ?_)
  · (try dsimp only)
    (refine unhide kcall _ _ ?_ (by assumption); with_reducible assumption)
  clear hK K hHeld0 hw9
  try simp only [Act.put]
  try simp only [List.setIfInBounds_toArray]
  try simp only [List.set_cons_zero,List.set_cons_succ]
  refine takeH6 (i := 4) (d := 2) (v := ?_) rfl rfl (by kernel_rfl) (by kernel_rfl) (by kernel_rfl) (fun _ _ _ h => h) (Or.inl ⟨by rfl,?_⟩) (by assumption) ?_
  rotate_left
  · (intro W hSW; (try dsimp only at hSW); go_simp; try (with_reducible rfl))
  try simp only [Act.put]
  try simp only [List.setIfInBounds_toArray]
  try simp only [List.set_cons_zero,List.set_cons_succ]
  refine takeH6 (i := 5) (d := 3) (v := ?_) rfl rfl (by kernel_rfl) (by kernel_rfl) (by kernel_rfl) (fun _ _ _ h => h) (Or.inl ⟨by rfl,?_⟩) (by assumption) ?_
  rotate_left
  · (intro W hSW; (try dsimp only at hSW); go_simp; try (with_reducible rfl))
  try simp only [Act.put]
  try simp only [List.setIfInBounds_toArray]
  try simp only [List.set_cons_zero,List.set_cons_succ]
  refine wpAnyH_done (by kernel_rfl) ?_ _
  refine NoPanic.normal ?_
  have hHeld := hHeld1
  clear hHeld1

  go_wp2_with fail
  go_ret2
  exact ⟨rfl,unhide kgr _ hHeld⟩
set_option maxRecDepth 100000 in
set_option maxHeartbeats 32000000 in
theorem told_pool (p : VPool) (u1 u2 : Value) (w : World) (hL : Laid w) (h : PolIn w p u1 u2) :
    Calls Tryz.prog 32 #[.iface 32 (polA p u1 u2)] w fun e w' => e = .returned (.tuple #[.string (bytesT p.name),.int .i64 (poolR p)]) /\ Below w.heap.size w w' := by
  have kC : Hid (∀ V,Below w.heap.size w V -> Calls Tryz.prog 64 #[polA p u1 u2] V fun e w' => e = .returned (.int .i64 (poolR p)) /\ Below V.heap.size V w') := fun V hb => ppool_any p u1 u2 V (hL.below hb) (h.below hb)
  obtain ⟨a1,c1,hu1⟩ := h.rq.val
  obtain ⟨n1,hn1⟩ : ∃ n,n = p.reqs.length := ⟨_,rfl⟩
  obtain ⟨a2,c2,hu2⟩ := h.tn.val
  obtain ⟨n2,hn2⟩ : ∃ n,n = p.taints.length := ⟨_,rfl⟩
  unfold polA at kC ⊢
  rw [hu1] at kC ⊢
  rw [<- hn1] at kC ⊢
  rw [hu2] at kC ⊢
  rw [<- hn2] at kC ⊢
  obtain ⟨R,hR⟩ : ∃ R,R = poolR p := ⟨_,rfl⟩
  rw [<- hR] at kC ⊢
  obtain ⟨X0,hX0⟩ : ∃ z,z = bytesT p.name := ⟨_,rfl⟩
  obtain ⟨N0,hN0⟩ : ∃ z,z = p.limit.1 := ⟨_,rfl⟩
  obtain ⟨N1,hN1⟩ : ∃ z,z = p.limit.2 := ⟨_,rfl⟩
  obtain ⟨W0,hW0⟩ : ∃ z,z = p.weight := ⟨_,rfl⟩
  obtain ⟨G0,hG0⟩ : ∃ z,z = p.gen := ⟨_,rfl⟩
  obtain ⟨E0,hE0⟩ : ∃ z,z = p.expire := ⟨_,rfl⟩
  obtain ⟨B0,hB0⟩ : ∃ z,z = p.budget := ⟨_,rfl⟩
  obtain ⟨M0,hM0⟩ : ∃ z,z = p.merge := ⟨_,rfl⟩
  rw [<- hX0,<- hN0,<- hN1,<- hW0,<- hG0,<- hE0,<- hB0,<- hM0] at kC ⊢
  clear h hR hu1 hn1 hu2 hn2 hX0 hN0 hN1 hW0 hG0 hE0 hB0 hM0
  obtain ⟨S,hS⟩ : ∃ S : World -> Prop,S = fun V => RowAt w w.heap.size #[.string X0,.int .i64 W0,.int .i64 N0,.int .i64 N1,.slice a1 n1 c1,.slice a2 n2 c2,.int .i64 G0,.int .i64 E0,.int .i64 B0,.int .i64 M0] 32 V := ⟨_,rfl⟩
  have kD : Hid (∀ V,S V -> Calls Tryz.prog 64 #[.agg #[.string X0,.int .i64 W0,.int .i64 N0,.int .i64 N1,.slice a1 n1 c1,.slice a2 n2 c2,.int .i64 G0,.int .i64 E0,.int .i64 B0,.int .i64 M0]] V fun e w' => e = .returned (.int .i64 R) /\ Below V.heap.size V w') := fun V hs => by rw [hS] at hs; exact unhide kC V hs.gr
  have kgr : Hid (∀ V,S V -> Below w.heap.size w V) := fun V h => by rw [hS] at h; exact h.gr
  have kcall : Hid (∀ V V',S V -> Below V.heap.size V V' -> S V') := fun V V' h hb => by rw [hS] at h ⊢; exact h.below hb
  have kL : Hid (∀ V,S V -> V.rangeAt w.heap.size 0 [.string X0,.int .i64 W0,.int .i64 N0,.int .i64 N1,.slice a1 n1 c1,.slice a2 n2 c2,.int .i64 G0,.int .i64 E0,.int .i64 B0,.int .i64 M0]) := fun V h => by rw [hS] at h; exact h.part [] [.string X0,.int .i64 W0,.int .i64 N0,.int .i64 N1,.slice a1 n1 c1,.slice a2 n2 c2,.int .i64 G0,.int .i64 E0,.int .i64 B0,.int .i64 M0] [] rfl
  have k0 : Hid (∀ V,S V -> V.cell? ⟨w.heap.size,0,none⟩ = some (.string X0)) := fun V h => by rw [hS] at h; exact h.at 0 rfl
  have HS : S (w.alloc (.cells #[.string X0,.int .i64 W0,.int .i64 N0,.int .i64 N1,.slice a1 n1 c1,.slice a2 n2 c2,.int .i64 G0,.int .i64 E0,.int .i64 B0,.int .i64 M0] 32)).drew := by rw [hS]; exact (row_new _ _ _).drew
  clear kC hS hL
  have hA_pod := as_pod_pol
  have hA_pol := as_pol_yes
  go_enter Tryz.func32,Tryz.ntmps32
  go_wp2_with fail
  refine wp_region_noPanic ?_
  refine wp_region_held_drew (S := S) (by kernel_rfl) (HS) (fun hHeld0 => ?_)
  refine takeH6 (i := 0) (d := 21) (v := ?_) rfl rfl (by kernel_rfl) (by kernel_rfl) (by kernel_rfl) (fun _ _ _ h => h) (Or.inl ⟨by rfl,?_⟩) (by assumption) ?_
  rotate_left
  · (intro W hSW; (try dsimp only at hSW); go_simp; try (with_reducible rfl))
  try simp only [Act.put]
  try simp only [List.setIfInBounds_toArray]
  try simp only [List.set_cons_zero,List.set_cons_succ]
  refine takeH6 (i := 1) (d := 22) (v := ?_) rfl rfl (by kernel_rfl) (by kernel_rfl) (by kernel_rfl) (fun _ _ _ h => h) (Or.inl ⟨by rfl,?_⟩) (by assumption) ?_
  rotate_left
  · (intro W hSW; have h0 := unhide k0 W hSW; go_simp; try (with_reducible rfl))
  try simp only [Act.put]
  try simp only [List.setIfInBounds_toArray]
  try simp only [List.set_cons_zero,List.set_cons_succ]
  refine wpAnyH_take (i := 2) (oi := _) (v := _) rfl (by kernel_rfl) (by kernel_rfl) (by kernel_rfl) (fun _ _ _ h => h) (yieldsIf_load_mid (by rfl) 32 _ rfl w.heap.size 0 rfl _ _ (fun V hV => unhide kL V hV) Tryz.underlying32 rfl (by kernel_rfl)) (by assumption) ?_
  try simp only [Act.put]
  try simp only [List.setIfInBounds_toArray]
  try simp only [List.set_cons_zero,List.set_cons_succ]
  refine wpAnyH_ready (rs := [3]) (by kernel_rfl) (by simp) ?_
  refine AllReadyH.cons (o := _) rfl (fun K hK => ?_) AllReadyH.nil
  go_simp
  (go_at_call 64; with_reducible refine (unhide kD _ ?_).mono ?_; with_reducible assumption; rintro e w9 ⟨rfl,hw9⟩)
  refine hK.out _ _ ?_ (fun hHeld1 => ?_)
  · (try dsimp only)
    (refine unhide kcall _ _ ?_ (by assumption); with_reducible assumption)
  clear hK K hHeld0 hw9
  try simp only [Act.put]
  try simp only [List.setIfInBounds_toArray]
  try simp only [List.set_cons_zero,List.set_cons_succ]
  refine takeH6 (i := 4) (d := 2) (v := ?_) rfl rfl (by kernel_rfl) (by kernel_rfl) (by kernel_rfl) (fun _ _ _ h => h) (Or.inl ⟨by rfl,?_⟩) (by assumption) ?_
  rotate_left
  · (intro W hSW; (try dsimp only at hSW); go_simp; try (with_reducible rfl))
  try simp only [Act.put]
  try simp only [List.setIfInBounds_toArray]
  try simp only [List.set_cons_zero,List.set_cons_succ]
  refine takeH6 (i := 5) (d := 3) (v := ?_) rfl rfl (by kernel_rfl) (by kernel_rfl) (by kernel_rfl) (fun _ _ _ h => h) (Or.inl ⟨by rfl,?_⟩) (by assumption) ?_
  rotate_left
  · (intro W hSW; (try dsimp only at hSW); go_simp; try (with_reducible rfl))
  try simp only [Act.put]
  try simp only [List.setIfInBounds_toArray]
  try simp only [List.set_cons_zero,List.set_cons_succ]
  refine wpAnyH_done (by kernel_rfl) ?_ _
  refine NoPanic.normal ?_
  have hHeld := hHeld1
  clear hHeld1

  go_wp2_with fail
  go_ret2
  exact ⟨rfl,unhide kgr _ hHeld⟩
set_option maxRecDepth 100000 in
set_option maxHeartbeats 32000000 in
theorem told_claim (p : VClaim) (u1 : Value) (w : World) (h : ClmIn w p u1) :
    Calls Tryz.prog 32 #[.iface 37 (clmA p u1)] w fun e w' => e = .returned (.tuple #[.string (bytesT p.name),.int .i64 (claimR p)]) /\ Below w.heap.size w w' := by
  have kC : Hid (∀ V,Below w.heap.size w V -> Calls Tryz.prog 65 #[clmA p u1] V fun e w' => e = .returned (.int .i64 (claimR p)) /\ Below V.heap.size V w') := fun V hb => pclaim_any p u1 V (h.below hb)
  obtain ⟨a1,c1,hu1⟩ := h.ops.val
  obtain ⟨n1,hn1⟩ : ∃ n,n = p.opts.length := ⟨_,rfl⟩
  unfold clmA at kC ⊢
  rw [hu1] at kC ⊢
  rw [<- hn1] at kC ⊢
  obtain ⟨R,hR⟩ : ∃ R,R = claimR p := ⟨_,rfl⟩
  rw [<- hR] at kC ⊢
  obtain ⟨X0,hX0⟩ : ∃ z,z = bytesT p.name := ⟨_,rfl⟩
  obtain ⟨X1,hX1⟩ : ∃ z,z = bytesT p.pool := ⟨_,rfl⟩
  obtain ⟨X2,hX2⟩ : ∃ z,z = bytesT p.id := ⟨_,rfl⟩
  obtain ⟨Y0,hY0⟩ : ∃ z,z = bytesT p.offer.1 := ⟨_,rfl⟩
  obtain ⟨Y1,hY1⟩ : ∃ z,z = bytesT p.offer.2.1 := ⟨_,rfl⟩
  obtain ⟨Y2,hY2⟩ : ∃ z,z = bytesT p.offer.2.2 := ⟨_,rfl⟩
  obtain ⟨N0,hN0⟩ : ∃ z,z = p.cap.1 := ⟨_,rfl⟩
  obtain ⟨N1,hN1⟩ : ∃ z,z = p.cap.2 := ⟨_,rfl⟩
  obtain ⟨P0,hP0⟩ : ∃ z,z = p.price := ⟨_,rfl⟩
  obtain ⟨G0,hG0⟩ : ∃ z,z = p.gen := ⟨_,rfl⟩
  obtain ⟨B0,hB0⟩ : ∃ z,z = p.born := ⟨_,rfl⟩
  obtain ⟨T0,hT0⟩ : ∃ z,z = p.tryN := ⟨_,rfl⟩
  obtain ⟨H0,hH0⟩ : ∃ z,z = p.phase := ⟨_,rfl⟩
  obtain ⟨D0,hD0⟩ : ∃ z,z = p.marked := ⟨_,rfl⟩
  rw [<- hX0,<- hX1,<- hX2,<- hY0,<- hY1,<- hY2,<- hN0,<- hN1,<- hP0,<- hG0,<- hB0,<- hT0,<- hH0,<- hD0] at kC ⊢
  clear h hR hu1 hn1 hX0 hX1 hX2 hY0 hY1 hY2 hN0 hN1 hP0 hG0 hB0 hT0 hH0 hD0
  obtain ⟨S,hS⟩ : ∃ S : World -> Prop,S = fun V => RowAt w w.heap.size #[.string X0,.string X1,.int .i64 G0,.string Y0,.string Y1,.string Y2,.int .i64 P0,.int .i64 N0,.int .i64 N1,.slice a1 n1 c1,.int .i64 T0,.string X2,.int .i64 H0,.int .i64 B0,.bool D0] 37 V := ⟨_,rfl⟩
  have kD : Hid (∀ V,S V -> Calls Tryz.prog 65 #[.agg #[.string X0,.string X1,.int .i64 G0,.string Y0,.string Y1,.string Y2,.int .i64 P0,.int .i64 N0,.int .i64 N1,.slice a1 n1 c1,.int .i64 T0,.string X2,.int .i64 H0,.int .i64 B0,.bool D0]] V fun e w' => e = .returned (.int .i64 R) /\ Below V.heap.size V w') := fun V hs => by rw [hS] at hs; exact unhide kC V hs.gr
  have kgr : Hid (∀ V,S V -> Below w.heap.size w V) := fun V h => by rw [hS] at h; exact h.gr
  have kcall : Hid (∀ V V',S V -> Below V.heap.size V V' -> S V') := fun V V' h hb => by rw [hS] at h ⊢; exact h.below hb
  have kL : Hid (∀ V,S V -> V.rangeAt w.heap.size 0 [.string X0,.string X1,.int .i64 G0,.string Y0,.string Y1,.string Y2,.int .i64 P0,.int .i64 N0,.int .i64 N1,.slice a1 n1 c1,.int .i64 T0,.string X2,.int .i64 H0,.int .i64 B0,.bool D0]) := fun V h => by rw [hS] at h; exact h.part [] [.string X0,.string X1,.int .i64 G0,.string Y0,.string Y1,.string Y2,.int .i64 P0,.int .i64 N0,.int .i64 N1,.slice a1 n1 c1,.int .i64 T0,.string X2,.int .i64 H0,.int .i64 B0,.bool D0] [] rfl
  have k0 : Hid (∀ V,S V -> V.cell? ⟨w.heap.size,0,none⟩ = some (.string X0)) := fun V h => by rw [hS] at h; exact h.at 0 rfl
  have HS : S (w.alloc (.cells #[.string X0,.string X1,.int .i64 G0,.string Y0,.string Y1,.string Y2,.int .i64 P0,.int .i64 N0,.int .i64 N1,.slice a1 n1 c1,.int .i64 T0,.string X2,.int .i64 H0,.int .i64 B0,.bool D0] 37)).drew := by rw [hS]; exact (row_new _ _ _).drew
  clear kC hS
  have hA_pod := as_pod_clm
  have hA_pol := as_pol_clm
  have hA_clm := as_clm_yes
  go_enter Tryz.func32,Tryz.ntmps32
  go_wp2_with fail
  refine wp_region_noPanic ?_
  refine wp_region_held_drew (S := S) (by kernel_rfl) (HS) (fun hHeld0 => ?_)
  refine takeH6 (i := 0) (d := 28) (v := ?_) rfl rfl (by kernel_rfl) (by kernel_rfl) (by kernel_rfl) (fun _ _ _ h => h) (Or.inl ⟨by rfl,?_⟩) (by assumption) ?_
  rotate_left
  · (intro W hSW; (try dsimp only at hSW); go_simp; try (with_reducible rfl))
  try simp only [Act.put]
  try simp only [List.setIfInBounds_toArray]
  try simp only [List.set_cons_zero,List.set_cons_succ]
  refine takeH6 (i := 1) (d := 29) (v := ?_) rfl rfl (by kernel_rfl) (by kernel_rfl) (by kernel_rfl) (fun _ _ _ h => h) (Or.inl ⟨by rfl,?_⟩) (by assumption) ?_
  rotate_left
  · (intro W hSW; have h0 := unhide k0 W hSW; go_simp; try (with_reducible rfl))
  try simp only [Act.put]
  try simp only [List.setIfInBounds_toArray]
  try simp only [List.set_cons_zero,List.set_cons_succ]
  refine wpAnyH_take (i := 2) (oi := _) (v := _) rfl (by kernel_rfl) (by kernel_rfl) (by kernel_rfl) (fun _ _ _ h => h) (yieldsIf_load_mid (by rfl) 37 _ rfl w.heap.size 0 rfl _ _ (fun V hV => unhide kL V hV) Tryz.underlying37 rfl (by kernel_rfl)) (by assumption) ?_
  try simp only [Act.put]
  try simp only [List.setIfInBounds_toArray]
  try simp only [List.set_cons_zero,List.set_cons_succ]
  refine wpAnyH_ready (rs := [3]) (by kernel_rfl) (by simp) ?_
  refine AllReadyH.cons (o := _) rfl (fun K hK => ?_) AllReadyH.nil
  go_simp
  (go_at_call 65; with_reducible refine (unhide kD _ ?_).mono ?_; with_reducible assumption; rintro e w9 ⟨rfl,hw9⟩)
  refine hK.out _ _ ?_ (fun hHeld1 => ?_)
  · (try dsimp only)
    (refine unhide kcall _ _ ?_ (by assumption); with_reducible assumption)
  clear hK K hHeld0 hw9
  try simp only [Act.put]
  try simp only [List.setIfInBounds_toArray]
  try simp only [List.set_cons_zero,List.set_cons_succ]
  refine takeH6 (i := 4) (d := 2) (v := ?_) rfl rfl (by kernel_rfl) (by kernel_rfl) (by kernel_rfl) (fun _ _ _ h => h) (Or.inl ⟨by rfl,?_⟩) (by assumption) ?_
  rotate_left
  · (intro W hSW; (try dsimp only at hSW); go_simp; try (with_reducible rfl))
  try simp only [Act.put]
  try simp only [List.setIfInBounds_toArray]
  try simp only [List.set_cons_zero,List.set_cons_succ]
  refine takeH6 (i := 5) (d := 3) (v := ?_) rfl rfl (by kernel_rfl) (by kernel_rfl) (by kernel_rfl) (fun _ _ _ h => h) (Or.inl ⟨by rfl,?_⟩) (by assumption) ?_
  rotate_left
  · (intro W hSW; (try dsimp only at hSW); go_simp; try (with_reducible rfl))
  try simp only [Act.put]
  try simp only [List.setIfInBounds_toArray]
  try simp only [List.set_cons_zero,List.set_cons_succ]
  refine wpAnyH_done (by kernel_rfl) ?_ _
  refine NoPanic.normal ?_
  have hHeld := hHeld1
  clear hHeld1

  go_wp2_with fail
  go_ret2
  exact ⟨rfl,unhide kgr _ hHeld⟩
end Go.Proofs.YtfpfdnapamdhjaaGreatDoor

/- Layer 8: told of commands and coolings -/
namespace Go.Proofs.YtfpfdnapamdhjaaGreatDoor
open Go.RowKit Suf Val

theorem told_cmd (p : VCmd) (u1 u2 : Value) (w : World) (h : CmdIn w p u1 u2) :
    Calls Tryz.prog 32 #[.iface 40 (cmdA p u1 u2)] w fun e w' => e = .returned (.tuple #[.string ⟨#[99,111,109,109,97,110,100]⟩,.int .i64 (cmdR p)]) /\ Below w.heap.size w w' := by
  have kC : Hid (∀ V,Below w.heap.size w V -> Calls Tryz.prog 66 #[cmdA p u1 u2] V fun e w' => e = .returned (.int .i64 (cmdR p)) /\ Below V.heap.size V w') := fun V hb => pcmd_any p u1 u2 V (h.below hb)
  obtain ⟨a1,c1,hu1⟩ := h.nd.val
  obtain ⟨n1,hn1⟩ : ∃ n,n = p.nodes.length := ⟨_,rfl⟩
  obtain ⟨a2,c2,hu2⟩ := h.ops.val
  obtain ⟨n2,hn2⟩ : ∃ n,n = p.opts.length := ⟨_,rfl⟩
  unfold cmdA at kC ⊢
  rw [hu1] at kC ⊢
  rw [<- hn1] at kC ⊢
  rw [hu2] at kC ⊢
  rw [<- hn2] at kC ⊢
  obtain ⟨R,hR⟩ : ∃ R,R = cmdR p := ⟨_,rfl⟩
  rw [<- hR] at kC ⊢
  obtain ⟨X0,hX0⟩ : ∃ z,z = bytesT p.fresh := ⟨_,rfl⟩
  obtain ⟨X1,hX1⟩ : ∃ z,z = bytesT p.pool := ⟨_,rfl⟩
  obtain ⟨C0,hC0⟩ : ∃ z,z = p.cause := ⟨_,rfl⟩
  obtain ⟨T0,hT0⟩ : ∃ z,z = p.step := ⟨_,rfl⟩
  obtain ⟨U0,hU0⟩ : ∃ z,z = p.til := ⟨_,rfl⟩
  obtain ⟨D0,hD0⟩ : ∃ z,z = p.made := ⟨_,rfl⟩
  rw [<- hX0,<- hX1,<- hC0,<- hT0,<- hU0,<- hD0] at kC ⊢
  clear h hR hu1 hn1 hu2 hn2 hX0 hX1 hC0 hT0 hU0 hD0
  have B1 := hide (boxb (w := w) (.cells #[.int .i64 C0,.slice a1 n1 c1,.int .i64 T0,.int .i64 U0,.string X0,.string X1,.slice a2 n2 c2,.bool D0] 40))
  have hA_pod := as_pod_cmd
  have hA_pol := as_pol_cmd
  have hA_clm := as_clm_cmd
  have hA_cmd := as_cmd_yes
  go_enter Tryz.func32,Tryz.ntmps32
  go_wp2_with fail
  refine (unhide kC _ (unhide B1)).mono ?_
  rintro e w9 ⟨rfl,hw9⟩
  have B2 := hide (chain (unhide B1) hw9)
  clear hw9
  go_wp2_with fail
  go_ret2
  exact ⟨rfl,unhide B2⟩
/-- A list of one cooling,new. -/
theorem cool1 {V : World} {B : Nat} {x : VCool} (hx : okO x.1) (h0 : V.cell? ⟨B,0,none⟩ = some (.string (bytesT x.1.1))) (h1 : V.cell? ⟨B,1,none⟩ = some (.string (bytesT x.1.2.1))) (h2 : V.cell? ⟨B,2,none⟩ = some (.string (bytesT x.1.2.2))) (h3 : V.cell? ⟨B,3,none⟩ = some (.int .i64 x.2)) : Lst coolK V (.slice (some ⟨B,0,none⟩) 1 1) [x] :=
  ⟨_,_,rfl,fun j hj => ⟨B,0,rfl,by
    match j,hj with
    | 0,_ => exact cool_at.2 ⟨by simpa using off_at.2 ⟨⟨by simpa using h0,hx.1⟩,⟨by simpa using h1,hx.2.1⟩,by simpa using h2,hx.2.2⟩,by simpa using h3⟩⟩,by simp,by simp⟩
def coolS (a b c : ByteArray) : ByteArray := a ++ ⟨#[47]⟩ ++ b ++ ⟨#[47]⟩ ++ c
set_option maxRecDepth 100000 in
set_option maxHeartbeats 32000000 in
theorem told_cool (x : VCool) (w : World) (hx : okO x.1) :
    Calls Tryz.prog 32 #[.iface 42 (coolA x)] w fun e w' => e = .returned (.tuple #[.string (coolS (bytesT x.1.1) (bytesT x.1.2.1) (bytesT x.1.2.2)),.int .i64 (coolR [x])]) /\ Below w.heap.size w w' := by
  have kC : Hid (∀ (V : World) (B : Nat),V.cell? ⟨B,0,none⟩ = some (.string (bytesT x.1.1)) -> V.cell? ⟨B,1,none⟩ = some (.string (bytesT x.1.2.1)) -> V.cell? ⟨B,2,none⟩ = some (.string (bytesT x.1.2.2)) -> V.cell? ⟨B,3,none⟩ = some (.int .i64 x.2) ->
      Calls Tryz.prog 67 #[.slice (some ⟨B,0,none⟩) 1 1] V fun e w' => e = .returned (.int .i64 (coolR [x])) /\ Below V.heap.size V w') := fun V B h0 h1 h2 h3 => pcheck7_any _ [x] V (cool1 hx h0 h1 h2 h3)
  unfold coolA
  obtain ⟨R,hR⟩ : ∃ R,R = coolR [x] := ⟨_,rfl⟩
  rw [<- hR] at kC ⊢
  obtain ⟨X0,hX0⟩ : ∃ z,z = bytesT x.1.1 := ⟨_,rfl⟩
  obtain ⟨X1,hX1⟩ : ∃ z,z = bytesT x.1.2.1 := ⟨_,rfl⟩
  obtain ⟨X2,hX2⟩ : ∃ z,z = bytesT x.1.2.2 := ⟨_,rfl⟩
  obtain ⟨U0,hU0⟩ : ∃ z,z = x.2 := ⟨_,rfl⟩
  rw [<- hX0,<- hX1,<- hX2,<- hU0] at kC ⊢
  have s0 := short_size hx.1
  have s1 := short_size hx.2.1
  have s2 := short_size hx.2.2
  rw [<- hX0] at s0
  rw [<- hX1] at s1
  rw [<- hX2] at s2
  unfold coolS
  obtain ⟨d1,d2,d3,d4⟩ : X0.size + 1 <= 9223372036854775807 /\ X0.size + 1 + X1.size <= 9223372036854775807 /\ X0.size + 1 + X1.size + 1 <= 9223372036854775807 /\ X0.size + 1 + X1.size + 1 + X2.size <= 9223372036854775807 := by omega
  clear hR hX0 hX1 hX2 hU0 hx s0 s1 s2
  have sall : Hid (∀ V,HeldS w [(⟨w.heap.size,0,none⟩,.string X0),(⟨w.heap.size,1,none⟩,.string X1),(⟨w.heap.size,2,none⟩,.string X2),(⟨w.heap.size,3,none⟩,.int .i64 U0)] V -> Hid (HeldS w [(⟨w.heap.size,0,none⟩,.string X0),(⟨w.heap.size,1,none⟩,.string X1),(⟨w.heap.size,2,none⟩,.string X2),(⟨w.heap.size,3,none⟩,.int .i64 U0)] V) /\ V.cell? ⟨w.heap.size,0,none⟩ = some (.string X0) /\ V.cell? ⟨w.heap.size,1,none⟩ = some (.string X1) /\ V.cell? ⟨w.heap.size,2,none⟩ = some (.string X2) /\ V.cell? ⟨w.heap.size,3,none⟩ = some (.int .i64 U0)) := fun V h => ⟨h,h.at 0 rfl,h.at 1 rfl,h.at 2 rfl,h.at 3 rfl⟩
  have kdrew : Hid (∀ V,(Hid (HeldS w [(⟨w.heap.size,0,none⟩,.string X0),(⟨w.heap.size,1,none⟩,.string X1),(⟨w.heap.size,2,none⟩,.string X2),(⟨w.heap.size,3,none⟩,.int .i64 U0)] V) /\ V.cell? ⟨w.heap.size,0,none⟩ = some (.string X0) /\ V.cell? ⟨w.heap.size,1,none⟩ = some (.string X1) /\ V.cell? ⟨w.heap.size,2,none⟩ = some (.string X2) /\ V.cell? ⟨w.heap.size,3,none⟩ = some (.int .i64 U0)) -> Hid (HeldS w [(⟨w.heap.size,0,none⟩,.string X0),(⟨w.heap.size,1,none⟩,.string X1),(⟨w.heap.size,2,none⟩,.string X2),(⟨w.heap.size,3,none⟩,.int .i64 U0)] V.drew) /\ V.drew.cell? ⟨w.heap.size,0,none⟩ = some (.string X0) /\ V.drew.cell? ⟨w.heap.size,1,none⟩ = some (.string X1) /\ V.drew.cell? ⟨w.heap.size,2,none⟩ = some (.string X2) /\ V.drew.cell? ⟨w.heap.size,3,none⟩ = some (.int .i64 U0)) := fun V h => unhide sall _ (unhide h.1).drew
  have kalloc : Hid (∀ V o,(Hid (HeldS w [(⟨w.heap.size,0,none⟩,.string X0),(⟨w.heap.size,1,none⟩,.string X1),(⟨w.heap.size,2,none⟩,.string X2),(⟨w.heap.size,3,none⟩,.int .i64 U0)] V) /\ V.cell? ⟨w.heap.size,0,none⟩ = some (.string X0) /\ V.cell? ⟨w.heap.size,1,none⟩ = some (.string X1) /\ V.cell? ⟨w.heap.size,2,none⟩ = some (.string X2) /\ V.cell? ⟨w.heap.size,3,none⟩ = some (.int .i64 U0)) -> Hid (HeldS w [(⟨w.heap.size,0,none⟩,.string X0),(⟨w.heap.size,1,none⟩,.string X1),(⟨w.heap.size,2,none⟩,.string X2),(⟨w.heap.size,3,none⟩,.int .i64 U0)] (V.alloc o)) /\ (V.alloc o).cell? ⟨w.heap.size,0,none⟩ = some (.string X0) /\ (V.alloc o).cell? ⟨w.heap.size,1,none⟩ = some (.string X1) /\ (V.alloc o).cell? ⟨w.heap.size,2,none⟩ = some (.string X2) /\ (V.alloc o).cell? ⟨w.heap.size,3,none⟩ = some (.int .i64 U0)) := fun V o h => unhide sall _ ((unhide h.1).alloc o)
  have kcall : Hid (∀ V V',(Hid (HeldS w [(⟨w.heap.size,0,none⟩,.string X0),(⟨w.heap.size,1,none⟩,.string X1),(⟨w.heap.size,2,none⟩,.string X2),(⟨w.heap.size,3,none⟩,.int .i64 U0)] V) /\ V.cell? ⟨w.heap.size,0,none⟩ = some (.string X0) /\ V.cell? ⟨w.heap.size,1,none⟩ = some (.string X1) /\ V.cell? ⟨w.heap.size,2,none⟩ = some (.string X2) /\ V.cell? ⟨w.heap.size,3,none⟩ = some (.int .i64 U0)) -> Below V.heap.size V V' -> Hid (HeldS w [(⟨w.heap.size,0,none⟩,.string X0),(⟨w.heap.size,1,none⟩,.string X1),(⟨w.heap.size,2,none⟩,.string X2),(⟨w.heap.size,3,none⟩,.int .i64 U0)] V') /\ V'.cell? ⟨w.heap.size,0,none⟩ = some (.string X0) /\ V'.cell? ⟨w.heap.size,1,none⟩ = some (.string X1) /\ V'.cell? ⟨w.heap.size,2,none⟩ = some (.string X2) /\ V'.cell? ⟨w.heap.size,3,none⟩ = some (.int .i64 U0)) := fun V V' h hb => unhide sall _ ((unhide h.1).below hb)
  have hS : Hid (HeldS w [(⟨w.heap.size,0,none⟩,.string X0),(⟨w.heap.size,1,none⟩,.string X1),(⟨w.heap.size,2,none⟩,.string X2),(⟨w.heap.size,3,none⟩,.int .i64 U0)] (w.alloc (.cells #[.string X0,.string X1,.string X2,.int .i64 U0] 42))) /\ (w.alloc (.cells #[.string X0,.string X1,.string X2,.int .i64 U0] 42)).cell? ⟨w.heap.size,0,none⟩ = some (.string X0) /\ (w.alloc (.cells #[.string X0,.string X1,.string X2,.int .i64 U0] 42)).cell? ⟨w.heap.size,1,none⟩ = some (.string X1) /\ (w.alloc (.cells #[.string X0,.string X1,.string X2,.int .i64 U0] 42)).cell? ⟨w.heap.size,2,none⟩ = some (.string X2) /\ (w.alloc (.cells #[.string X0,.string X1,.string X2,.int .i64 U0] 42)).cell? ⟨w.heap.size,3,none⟩ = some (.int .i64 U0) := unhide sall _ ⟨boxb _,fun x hx => by simp only [List.mem_cons,List.not_mem_nil,or_false] at hx; rcases hx with rfl | rfl | rfl | rfl <;> simp [go_sem]⟩
  clear sall
  have hA_pod := as_pod_cool
  have hA_pol := as_pol_cool
  have hA_clm := as_clm_cool
  have hA_cmd := as_cmd_cool
  have hA_cool := as_cool_yes
  go_enter Tryz.func32,Tryz.ntmps32
  go_wp2_with fail
  refine wp_region_noPanic ?_
  refine wp_region_held_drew (S := fun V => Hid (HeldS w [(⟨w.heap.size,0,none⟩,.string X0),(⟨w.heap.size,1,none⟩,.string X1),(⟨w.heap.size,2,none⟩,.string X2),(⟨w.heap.size,3,none⟩,.int .i64 U0)] V) /\ V.cell? ⟨w.heap.size,0,none⟩ = some (.string X0) /\ V.cell? ⟨w.heap.size,1,none⟩ = some (.string X1) /\ V.cell? ⟨w.heap.size,2,none⟩ = some (.string X2) /\ V.cell? ⟨w.heap.size,3,none⟩ = some (.int .i64 U0)) (by kernel_rfl) (unhide kdrew _ hS) (fun hHeld0 => ?_)
  refine takeH6 (i := 0) (d := 40) (v := ?_) rfl rfl (by kernel_rfl) (by kernel_rfl) (by kernel_rfl) (fun _ _ _ h => h) (Or.inl ⟨by rfl,?_⟩) (by assumption) ?_
  rotate_left
  · (intro W hSW; (try dsimp only at hSW); go_simp; (try rw [if_neg (by omega)]); try (with_reducible rfl))
  try simp only [Act.put,List.setIfInBounds_toArray,List.set_cons_zero,List.set_cons_succ]
  refine takeH6 (i := 1) (d := 41) (v := ?_) rfl rfl (by kernel_rfl) (by kernel_rfl) (by kernel_rfl) (fun _ _ _ h => h) (Or.inl ⟨by rfl,?_⟩) (by assumption) ?_
  rotate_left
  · (intro W hSW; (try dsimp only at hSW); go_simp; (try rw [if_neg (by omega)]); try (with_reducible rfl))
  try simp only [Act.put,List.setIfInBounds_toArray,List.set_cons_zero,List.set_cons_succ]
  refine takeH6 (i := 2) (d := 42) (v := ?_) rfl rfl (by kernel_rfl) (by kernel_rfl) (by kernel_rfl) (fun _ _ _ h => h) (Or.inl ⟨by rfl,?_⟩) (by assumption) ?_
  rotate_left
  · (intro W hSW; (try dsimp only at hSW); go_simp; (try rw [if_neg (by omega)]); try (with_reducible rfl))
  try simp only [Act.put,List.setIfInBounds_toArray,List.set_cons_zero,List.set_cons_succ]
  refine takeH6 (i := 3) (d := 43) (v := ?_) rfl rfl (by kernel_rfl) (by kernel_rfl) (by kernel_rfl) (fun _ _ _ h => h) (Or.inl ⟨by rfl,?_⟩) (by assumption) ?_
  rotate_left
  · (intro W hSW; (try dsimp only at hSW); go_simp; (try rw [if_neg (by omega)]); try (with_reducible rfl))
  try simp only [Act.put,List.setIfInBounds_toArray,List.set_cons_zero,List.set_cons_succ]
  refine takeH6 (i := 4) (d := 44) (v := ?_) rfl rfl (by kernel_rfl) (by kernel_rfl) (by kernel_rfl) (fun _ _ _ h => h) (Or.inl ⟨by rfl,?_⟩) (by assumption) ?_
  rotate_left
  · (intro W hSW; (try dsimp only at hSW); go_simp; (try rw [if_neg (by omega)]); try (with_reducible rfl))
  try simp only [Act.put,List.setIfInBounds_toArray,List.set_cons_zero,List.set_cons_succ]
  refine takeH6 (i := 5) (d := 45) (v := ?_) rfl rfl (by kernel_rfl) (by kernel_rfl) (by kernel_rfl) (fun _ _ _ h => h) (Or.inl ⟨by rfl,?_⟩) (by assumption) ?_
  rotate_left
  · (intro W hSW; (try dsimp only at hSW); go_simp; (try rw [if_neg (by omega)]); try (with_reducible rfl))
  try simp only [Act.put,List.setIfInBounds_toArray,List.set_cons_zero,List.set_cons_succ]
  refine takeH6 (i := 6) (d := 46) (v := ?_) rfl rfl (by kernel_rfl) (by kernel_rfl) (by kernel_rfl) (fun _ _ _ h => h) (Or.inl ⟨by rfl,?_⟩) (by assumption) ?_
  rotate_left
  · (intro W hSW; (try dsimp only at hSW); go_simp; (try rw [if_neg (by omega)]); try (with_reducible rfl))
  try simp only [Act.put,List.setIfInBounds_toArray,List.set_cons_zero,List.set_cons_succ]
  refine takeH6 (i := 7) (d := 47) (v := ?_) rfl rfl (by kernel_rfl) (by kernel_rfl) (by kernel_rfl) (fun _ _ _ h => h) (Or.inl ⟨by rfl,?_⟩) (by assumption) ?_
  rotate_left
  · (intro W hSW; (try dsimp only at hSW); go_simp; (try rw [if_neg (by omega)]); try (with_reducible rfl))
  try simp only [Act.put,List.setIfInBounds_toArray,List.set_cons_zero,List.set_cons_succ]
  refine takeH6 (i := 8) (d := 48) (v := ?_) rfl rfl (by kernel_rfl) (by kernel_rfl) (by kernel_rfl) (fun _ _ _ h => h) (Or.inl ⟨by rfl,?_⟩) (by assumption) ?_
  rotate_left
  · (intro W hSW; (try dsimp only at hSW); go_simp; (try rw [if_neg (by omega)]); try (with_reducible rfl))
  try simp only [Act.put,List.setIfInBounds_toArray,List.set_cons_zero,List.set_cons_succ]
  refine takeH6 (i := 9) (d := 49) (v := ?_) rfl rfl (by kernel_rfl) (by kernel_rfl) (by kernel_rfl) (fun _ _ _ h => h) (Or.inl ⟨by rfl,?_⟩) (by assumption) ?_
  rotate_left
  · (intro W hSW; (try dsimp only at hSW); go_simp; (try rw [if_neg (by omega)]); try (with_reducible rfl))
  try simp only [Act.put,List.setIfInBounds_toArray,List.set_cons_zero,List.set_cons_succ]
  refine takeH6 (i := 10) (d := 50) (v := ?_) rfl rfl (by kernel_rfl) (by kernel_rfl) (by kernel_rfl) (fun _ _ _ h => h) (Or.inl ⟨by rfl,?_⟩) (by assumption) ?_
  rotate_left
  · (intro W hSW; (try dsimp only at hSW); go_simp; (try rw [if_neg (by omega)]); try (with_reducible rfl))
  try simp only [Act.put,List.setIfInBounds_toArray,List.set_cons_zero,List.set_cons_succ]
  refine takeH6 (i := 11) (d := 51) (v := ?_) rfl rfl (by kernel_rfl) (by kernel_rfl) (by kernel_rfl) (fun _ _ _ h => h) (Or.inl ⟨by rfl,?_⟩) (by assumption) ?_
  rotate_left
  · (intro W hSW; (try dsimp only at hSW); go_simp; (try rw [if_neg (by omega)]); try (with_reducible rfl))
  try simp only [Act.put,List.setIfInBounds_toArray,List.set_cons_zero,List.set_cons_succ]
  refine takeH6 (i := 12) (d := 52) (v := ?_) rfl rfl (by kernel_rfl) (by kernel_rfl) (by kernel_rfl) (fun _ _ _ h => h) (Or.inl ⟨by rfl,?_⟩) (by assumption) ?_
  rotate_left
  · (intro W hSW; (try dsimp only at hSW); go_simp; (try rw [if_neg (by omega)]); try (with_reducible rfl))
  try simp only [Act.put,List.setIfInBounds_toArray,List.set_cons_zero,List.set_cons_succ]
  refine takeH6 (i := 13) (d := 53) (v := ?_) rfl rfl (by kernel_rfl) (by kernel_rfl) (by kernel_rfl) (fun _ _ _ h => h) (Or.inl ⟨by rfl,?_⟩) (by assumption) ?_
  rotate_left
  · (intro W hSW; (try dsimp only at hSW); go_simp; (try rw [if_neg (by omega)]); try (with_reducible rfl))
  try simp only [Act.put,List.setIfInBounds_toArray,List.set_cons_zero,List.set_cons_succ]
  refine wpAnyH_ready (rs := [14]) (by kernel_rfl) (by simp) ?_
  refine AllReadyH.cons (o := _) rfl (fun K hK => ?_) AllReadyH.nil
  go_simp
  refine hK.out _ _ ?_ (fun hHeld1 => ?_)
  · (try dsimp only)
    (first | (with_reducible exact hS) | (with_reducible assumption) | (with_reducible refine unhide kdrew _ ?_; with_reducible assumption) | (with_reducible refine unhide kalloc _ _ ?_; with_reducible assumption) | (refine unhide kcall _ _ ?_ (by assumption); with_reducible assumption) | (with_reducible refine unhide kdrew _ (unhide kalloc _ _ ?_); with_reducible assumption) | (with_reducible refine unhide kalloc _ _ (unhide kdrew _ ?_); with_reducible assumption))
  clear hK K hHeld0
  try simp only [Act.put,List.setIfInBounds_toArray,List.set_cons_zero,List.set_cons_succ]
  refine wpAnyH_ready (rs := [15]) (by kernel_rfl) (by simp) ?_
  refine AllReadyH.cons (o := _) rfl (fun K hK => ?_) AllReadyH.nil
  go_simp
  (go_at_call 67; refine (unhide kC _ _ (by simp [go_sem]) (by simp [go_sem]) (by simp [go_sem]) (by simp [go_sem])).mono ?_; rintro e w9 ⟨rfl,hw9⟩)
  refine hK.out _ _ ?_ (fun hHeld2 => ?_)
  · (try dsimp only)
    (first | (with_reducible exact hS) | (with_reducible assumption) | (with_reducible refine unhide kdrew _ ?_; with_reducible assumption) | (with_reducible refine unhide kalloc _ _ ?_; with_reducible assumption) | (refine unhide kcall _ _ ?_ (by assumption); with_reducible assumption) | (with_reducible refine unhide kdrew _ (unhide kalloc _ _ ?_); with_reducible assumption) | (with_reducible refine unhide kalloc _ _ (unhide kdrew _ ?_); with_reducible assumption))
  clear hK K hHeld1 hw9
  try simp only [Act.put,List.setIfInBounds_toArray,List.set_cons_zero,List.set_cons_succ]
  refine takeH6 (i := 16) (d := 2) (v := ?_) rfl rfl (by kernel_rfl) (by kernel_rfl) (by kernel_rfl) (fun _ _ _ h => h) (Or.inl ⟨by rfl,?_⟩) (by assumption) ?_
  rotate_left
  · (intro W hSW; (try dsimp only at hSW); go_simp; (try rw [if_neg (by omega)]); try (with_reducible rfl))
  try simp only [Act.put,List.setIfInBounds_toArray,List.set_cons_zero,List.set_cons_succ]
  refine takeH6 (i := 17) (d := 3) (v := ?_) rfl rfl (by kernel_rfl) (by kernel_rfl) (by kernel_rfl) (fun _ _ _ h => h) (Or.inl ⟨by rfl,?_⟩) (by assumption) ?_
  rotate_left
  · (intro W hSW; (try dsimp only at hSW); go_simp; (try rw [if_neg (by omega)]); try (with_reducible rfl))
  try simp only [Act.put,List.setIfInBounds_toArray,List.set_cons_zero,List.set_cons_succ]
  refine wpAnyH_done (by kernel_rfl) ?_ _
  refine NoPanic.normal ?_
  have hHeld := hHeld2
  clear hHeld2

  go_wp2_with fail
  go_ret2
  exact ⟨rfl,(unhide hHeld.1).gr⟩
end Go.Proofs.YtfpfdnapamdhjaaGreatDoor
