/- Layer 6: maps.DeleteFunc with Offers' closure: the open ones stay. -/
import Derived.Test.YtepcnfnmphgccaaGreatDoorItOG
import Derived.Lib.SlMapFilter
import Derived.Maps.OwnSet
namespace Go.Proofs.YtepcnfnmphgccaaGreatDoor
open Go.RowKit Suf Val Go.Maps

def openV : Value → Bool
  | .agg ⟨[_, _, _, .bool q, _]⟩ => q
  | _ => false
def pdO (_ : Lit) (d : DataW Value) : Bool := match d with
  | .held v => !openV v
  | _ => false
theorem enters_opn : ∀ args w, (callFunc 36 args).run Tryz.prog w = .ok (.enter 36 args) w := enters_of Tryz.func36 (by kernel_rfl) rfl
set_option maxHeartbeats 2000000 in
theorem opn_closure (s0 s1 s2 : ByteArray) (a1 a2 p : Int) (q : Bool) (ua : Option Addr) (un uc : Nat) (W : World) :
    Calls Tryz.prog 36 #[.agg #[.string s0, .string s1, .string s2], .agg #[.int .i64 a1, .int .i64 a2, .int .i64 p, .bool q, .slice ua un uc]] W fun e w' => e = .returned (.bool (!q)) ∧ Below W.heap.size W w' := by
  have hB : Below W.heap.size W ((W.alloc (.cells #[.string s0, .string s1, .string s2] 24)).alloc (.cells #[.int .i64 a1, .int .i64 a2, .int .i64 p, .bool q, .slice ua un uc] 61)) := chain (boxb _) (boxb _)
  have HB := hide hB
  clear hB
  go_enter Tryz.func36, Tryz.ntmps36
  go_wp2_with fail
  go_ret
  exact ⟨rfl, unhide HB⟩
theorem Fk_in {es0 : List (Lit × DataW Value)} {left : Lit → Bool} (hap : es0.Pairwise (fun p q => p.1 ≠ q.1)) {kl : Lit} (hk : WideAt.IsKeyLit kl) (hlk : left kl = true) {d : DataW Value} (hat : ∀ zd, (Fk pdO es0 left).atKey kl zd = d) : (kl, d) ∈ es0 := by
  have hc := at_cameK hap hk hlk hat
  obtain ⟨p, hpm, hs⟩ := List.any_eq_true.1 (show (es0.filter fun p => !pdO p.1 p.2 || left p.1).any (fun p => p.1.sameKey kl) = true from has_true_of_atKey hat)
  have e1 := WideAt.sameKey_eq hs
  have hp := (List.mem_filter.1 hpm).1
  have := hc p hp e1
  rw [← e1, ← this]; exact hp
set_option maxRecDepth 100000 in
set_option maxHeartbeats 8000000 in
theorem delF_any (f : VOff → Option Value) (b n : Nat) (w : World) (hm : MapK offT w b f n) (hf : ∀ o v, okO o → f o = some v → ∃ a1 a2 p q ua un uc, v = .agg #[.int .i64 a1, .int .i64 a2, .int .i64 p, .bool q, .slice ua un uc]) :
    Calls Tryz.prog 35 #[.map (some b), .func (.func 36) #[] #[]] w fun e w' => e = .returned (.tuple #[]) ∧ MapK offT w' b (fun x => (f x).filter openV) n ∧ w.grownBy w' (some b) := by
  obtain ⟨k, D, hown, hkn, hD, hall⟩ := hm
  have hst : Hid (∀ w', w'.ownsMap Tryz.prog 24 selfElem b k (Lib.deleteFuncD pdO D) → MapK offT w' b (fun x => (f x).filter openV) n) := fun w' ho' => MapK.struck (T := offT) (pd := pdO) (keep := openV) (fun _ _ => rfl) hown hkn hD hall ho'
  have hown' := hown
  obtain ⟨es0, rfl, hap, hkeys⟩ := hown'.entries off_law
  have hval : Hid (∀ kl d, (kl, d) ∈ es0 → ∃ o : KO, ∃ a1 a2 p q ua un uc, kl = litO o.1 ∧ d = .held (.agg #[.int .i64 a1, .int .i64 a2, .int .i64 p, .bool q, .slice ua un uc])) := fun kl d hin => by
    have hkl := hkeys _ hin
    have hhas : has (.map es0) kl = true := List.any_eq_true.2 ⟨_, hin, WideAt.sameKey_self hkl⟩
    obtain ⟨o, ho, rfl⟩ := hall kl hhas
    have h1 := (hD o ho).1
    rw [show offT.lit o = litO o from rfl] at h1 hhas
    rw [hhas] at h1
    obtain ⟨v, hv⟩ := Option.isSome_iff_exists.1 h1.symm
    obtain ⟨a1, a2, p, q, ua, un, uc, rfl⟩ := hf o v ho hv
    have h2 := (hD o ho).2 _ hv .nil
    rw [WideAt.atKey_mem .nil hkl hap hin] at h2
    exact ⟨⟨o, ho⟩, a1, a2, p, q, ua, un, uc, rfl, h2⟩
  clear hD hall hf
  go_enter Tryz.func35, Tryz.ntmps35
  go_wp2_with (at_range; refine wpList_range_own _ rfl _ 76 rfl 24 61 off_law Tryz.underlying76 selfElem b k _ rfl hown ?_; intro w0 hrg0 hg0 hs0)
  go_frame
  go_loopw [8] (fun _ wr => ∃ (left : Lit → Bool) (cnt : Nat), wr.ranges Tryz.prog 24 selfElem b w.heap.size k (Fk pdO es0 left) left cnt ∧ w.grownBy wr (some b))
    (fun _ wr => wr.rangeLeft b w.heap.size)
  case atStart => exact ⟨_, _, by rw [Fk_start hkeys]; exact hrg0, hg0.but _⟩
  case round =>
    obtain ⟨left, cnt, hrg, hgw⟩ := hrel
    go_wp2_with (at_next; refine wpList_next_ranges _ rfl _ rfl 24 off_law selfElem id id (fun key _ _ => ⟨key, rfl⟩) (fun v _ _ => ⟨v, rfl⟩) b w.heap.size k _ _ _ rfl hrg ?_ ?_)
    · intro _ hl0
      go_wp2_with fail
      go_end0
      exact ⟨rfl, unhide hst _ (by rw [← Fk_end hl0]; exact hrg.owns), hgw⟩
    · intro key c kl yd yp w1 cnt1 hkey hlx hv hat hrg1 hlt hg1 hs1 hen
      have hgw1 := hgw.andThen hg1 (fun j hj => by cases hj; exact Or.inl (Nat.le_refl _))
      obtain ⟨o, a1, a2, p, q, ua, un, uc, rfl, rfl⟩ := unhide hval kl yd (Fk_in hap (off_law.key hkey) hlx hat)
      obtain rfl : key = encO o := off_law.inj hkey (key_off o.2)
      obtain rfl : c = .agg #[.int .i64 a1, .int .i64 a2, .int .i64 p, .bool q, .slice ua un uc] := by
        have := (Prod.mk.inj (Option.some.inj hv)).1
        exact DataW.held.inj this
      have henc : encO o = .agg #[.string (bytesT o.1.1), .string (bytesT o.1.2.1), .string (bytesT o.1.2.2)] := rfl
      rw [henc] at hen hkey
      obtain ⟨s0, hs0'⟩ : ∃ X, X = bytesT o.1.1 := ⟨_, rfl⟩
      obtain ⟨s1, hs1'⟩ : ∃ X, X = bytesT o.1.2.1 := ⟨_, rfl⟩
      obtain ⟨s2, hs2'⟩ : ∃ X, X = bytesT o.1.2.2 := ⟨_, rfl⟩
      rw [← hs0', ← hs1', ← hs2'] at hen hkey
      have hkl := hide (offT.isLit o.2)
      have hHAT := hide hat
      clear hs1 hs0' hs1' hs2' henc hat hv
      have hB12 : Hid (Below w1.heap.size w1 ((w1.alloc (.cells #[.string s0, .string s1, .string s2] 24)).alloc (.cells #[.int .i64 a1, .int .i64 a2, .int .i64 p, .bool q, .slice ua un uc] 61))) := chain (boxb _) (boxb _)
      have g0 := cell_box6 (.cells #[.int .i64 a1, .int .i64 a2, .int .i64 p, .bool q, .slice ua un uc] 61) (show (w1.alloc (.cells #[.string s0, .string s1, .string s2] 24)).cell? ⟨w1.heap.size, 0, none⟩ = some (.string s0) by simp [go_sem])
      have g1 := cell_box6 (.cells #[.int .i64 a1, .int .i64 a2, .int .i64 p, .bool q, .slice ua un uc] 61) (show (w1.alloc (.cells #[.string s0, .string s1, .string s2] 24)).cell? ⟨w1.heap.size, 1, none⟩ = some (.string s1) by simp [go_sem])
      have g2 := cell_box6 (.cells #[.int .i64 a1, .int .i64 a2, .int .i64 p, .bool q, .slice ua un uc] 61) (show (w1.alloc (.cells #[.string s0, .string s1, .string s2] 24)).cell? ⟨w1.heap.size, 2, none⟩ = some (.string s2) by simp [go_sem])
      have G := hide (And.intro g0 (And.intro g1 g2))
      have hc := hide (opn_closure s0 s1 s2 a1 a2 p q ua un uc)
      have HRG := hide hrg1
      have HGW := hide hgw1
      clear g0 g1 g2 hrg1 hgw1
      have hEN := hide enters_opn
      go_wp2_with fail
      refine (unhide hc _).mono ?_
      rintro e w2 ⟨rfl, hw2⟩
      have B2 := hide (chain (unhide hB12) hw2)
      have G2 := hide (And.intro (cell_kept hw2 (unhide G).1) (And.intro (cell_kept hw2 (unhide G).2.1) (cell_kept hw2 (unhide G).2.2)))
      have hg2 := gbelow (unhide B2)
      have hrg2 := (unhide HRG).kept hg2 (by simp) (by simp)
      clear hw2 G hc hB12
      cases q
      · obtain ⟨g0, g1, g2⟩ := unhide G2
        go_wp2_with (at_delete; refine wpList_delete_ranges _ rfl _ _ 76 24 rfl 61 off_law Tryz.underlying76 selfElem b w.heap.size k _ _ _ rfl hrg2 _ _ rfl hkey ?_; intro w3 cnt3 hrg3 hle hturn; go_frame)
        rw [strike_twice] at hrg3
        go_roundw
        case rel => exact ⟨_, cnt3, by rw [← Fk_struck hap (unhide hkl) hlx rfl (unhide hHAT)]; exact hrg3, ((unhide HGW).andThen hg2 (fun j hj => by cases hj)).andThen hturn.grown (fun j hj => by cases hj; exact Or.inr rfl)⟩
        case measure => rw [hrg3.left_eq, hrg.left_eq]; omega
      · go_wp2_with fail
        go_roundw
        case rel => exact ⟨_, cnt1, by rw [← Fk_stays hap (unhide hkl) hlx rfl (unhide hHAT)]; exact hrg2, (unhide HGW).andThen hg2 (fun j hj => by cases hj)⟩
        case measure => rw [hrg2.left_eq, hrg.left_eq]; exact hlt
end Go.Proofs.YtepcnfnmphgccaaGreatDoor
