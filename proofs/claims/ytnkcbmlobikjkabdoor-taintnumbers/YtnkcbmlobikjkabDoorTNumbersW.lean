/- TaintNumbers: the walk. -/
import Derived.Test.YtnkcbmlobikjkabDoorTaU
import Derived.Test.YtnkcbmlobikjkabDoorTaM
import Derived.Test.YtnkcbmlobikjkabDoorTaN
namespace Go.Proofs.YtnkcbmlobikjkabDoor.taintNumbers
open Go.RowKit Suf Val

def keyN (i : Nat) : Txt := [UInt8.ofNat (97 + i)]
def labN (k : Nat) : List Lab := (List.range k).map fun i => (keyN i, [49])
def tolN (k : Nat) : List VTol := (List.range k).map fun i => (keyN i, [], true)
theorem labN_next (k : Nat) : labN (k + 1) = labN k ++ [(keyN k, [49])] := by unfold labN; rw [List.range_succ, List.map_append]; rfl
theorem tolN_next (k : Nat) : tolN (k + 1) = tolN k ++ [(keyN k, [], true)] := by unfold tolN; rw [List.range_succ, List.map_append]; rfl
theorem labN_len (k : Nat) : (labN k).length = k := by unfold labN; simp
theorem tolN_len (k : Nat) : (tolN k).length = k := by unfold tolN; simp
theorem l5 : taintR (labN 5) = 3 := by decide +kernel
theorem l4 : taintR ((labN 5).take 4) = 0 := by decide +kernel
theorem t5 : tolsR (tolN 5) = 3 := by decide +kernel
theorem t4 : tolsR ((tolN 5).take 4) = 0 := by decide +kernel
theorem sh1 (c : UInt8) : short [c] := by unfold short; simp
theorem sh0 : short [] := by unfold short; simp
theorem labN_short (k : Nat) : ∀ y ∈ labN k, short y.1 ∧ short y.2 := fun y hy => by
  unfold labN at hy
  obtain ⟨i, _, rfl⟩ := List.mem_map.1 hy
  exact ⟨sh1 _, sh1 _⟩
theorem tolN_short (k : Nat) : ∀ y ∈ tolN k, short y.1 ∧ short y.2.1 := fun y hy => by
  unfold tolN at hy
  obtain ⟨i, _, rfl⟩ := List.mem_map.1 hy
  exact ⟨sh1 _, sh0⟩
/-- One byte as a text. -/
theorem conv_one (W : World) (z : Int) : (convert 24 9 (.slice (some ⟨W.heap.size, 0, none⟩) 1 1)).run Tryd.prog (W.alloc (.cells #[.int .u8 z] 5)) = .ok (.string ⟨#[UInt8.ofNat z.toNat]⟩) (W.alloc (.cells #[.int .u8 z] 5)) := by
  rw [run_convert_bytes_string _ _ _ _ _ _ _ Tryd.underlying24 Tryd.underlying5 Tryd.underlying9]
  rw [run_bytesToString _ _ _ _ [z] (by simp [go_sem])]
  rfl
theorem row_lt {w : World} {base : Nat} {T : TypeId} {sz : Nat} {v : Value} {n : Nat} {xs : List Value} (h : w.ownsRow base T sz v n xs) : ∀ k, v.ownBlock = some k → k < w.heap.size := fun k hk => (h.lt k hk).2

theorem blk_eq {a b j n m c d : Nat} (h1 : (Value.slice (some ⟨a, 0, none⟩) n c).ownBlock = some j) (h2 : (Value.slice (some ⟨b, 0, none⟩) m d).ownBlock = some j) : a = b := by
  have e1 : a = j := by injection h1
  have e2 : b = j := by injection h2
  rw [e1, e2]
set_option maxRecDepth 100000 in
set_option maxHeartbeats 8000000 in
theorem walk (w : World) (hL : Laid w) :
    Calls Tryd.prog 3 #[] w fun e w' => e = .returned (.bool true) ∧ Below w.heap.size w w' := by
  have HL := hide hL
  clear hL
  go_enter Tryd.func3, Tryd.ntmps3
  go_wp2_with fail
  go_loopw [1, 2, 3] (fun x y i W => ∃ k : Nat, k ≤ 5 ∧ i = .int .i64 k ∧ Hid (W.ownsRow w.heap.size 26 2 x k (flatL (labN k))) ∧ Hid (W.ownsRow w.heap.size 28 3 y k (flatT (tolN k))) ∧ Hid (∀ j, x.ownBlock = some j → y.ownBlock ≠ some j) ∧ Hid (Below w.heap.size w W)) (fun _ _ i _ => 5 - (intOf i).toNat)
  case atStart => exact ⟨0, Nat.zero_le _, rfl, row_nilL _ _, row_nilT _ _, fun j hj => (by cases hj), Below.refl _ _⟩
  case round =>
    obtain ⟨k, hk, rfl, hx, hy, hxy, hbel⟩ := hrel
    by_cases hlt : k < 5
    · have hcv := conv_one wr (97 + (k : Int))
      have hu8 : (97 + (k : Int)).toNat = 97 + k := by omega
      rw [hu8] at hcv
      clear hu8
      obtain ⟨c, hc⟩ : ∃ c, c = UInt8.ofNat (97 + k) := ⟨_, rfl⟩
      rw [← hc] at hcv
      have HC : Hid (keyN k = [c]) := by rw [hc]; rfl
      clear hc
      have A0 := hide (((unhide hx).alloc (.cells #[.int .u8 (97 + (k : Int))] 5)).alloc (.cells #[.string ⟨#[c]⟩, .string ⟨#[49]⟩] 26))
      have Y0 := hide (((unhide hy).alloc (.cells #[.int .u8 (97 + (k : Int))] 5)).alloc (.cells #[.string ⟨#[c]⟩, .string ⟨#[49]⟩] 26))
      have B0 := hide (chain (chain (unhide hbel) (box_below (.cells #[.int .u8 (97 + (k : Int))] 5))) (box_below (.cells #[.string ⟨#[c]⟩, .string ⟨#[49]⟩] 26)))
      have L0 : Hid (Labs ((wr.alloc (.cells #[.int .u8 (97 + (k : Int))] 5)).alloc (.cells #[.string ⟨#[c]⟩, .string ⟨#[49]⟩] 26)) (.slice (some ⟨wr.heap.size + 1, 0, none⟩) 1 1) [([c], [49])]) := labs_box (x := ([c], [49])) (by simp) (sh1 _) (sh1 _)
      go_wp2_with (first
        | (at_builtin; (refine wpList_append_lab1 rfl _ _ rfl w.heap.size _ k (flatL (labN k)) rfl (unhide A0) (wr.heap.size + 1) 1 1 [([c], [49])] rfl (unhide L0) rfl (by decide) (by omega) (unhide B0).size (wr.heap.size + 2) (by simp) ?_; intro g1 cap1 w1 hown1 hg1 hat1 hlt1; have B1 := hide (row_growT (unhide B0) (unhide A0) hg1); have Y1 := hide (row_otherT (unhide Y0) hg1 (fun j hj => unhide hxy j hj)); have D1 : Hid (u2.ownBlock ≠ some g1) := (fun e => (by rcases hat1 with h | h; exact unhide hxy g1 h e; have := row_lt (unhide hy) g1 e; omega)); have X1 := hide hown1; clear hown1 hg1 hat1 hlt1; have X2 := hide ((unhide X1).alloc (.cells #[.string ⟨#[c]⟩, .string ⟨#[]⟩, .bool true] 28)); have Y2 := hide ((unhide Y1).alloc (.cells #[.string ⟨#[c]⟩, .string ⟨#[]⟩, .bool true] 28)); have B2 := hide (chain (unhide B1) (box_below (.cells #[.string ⟨#[c]⟩, .string ⟨#[]⟩, .bool true] 28))); have L2 : Hid (Tols (w1.alloc (.cells #[.string ⟨#[c]⟩, .string ⟨#[]⟩, .bool true] 28)) (.slice (some ⟨w1.heap.size, 0, none⟩) 1 1) [([c], [], true)]) := tols_box (x := ([c], [], true)) rfl (sh1 _) sh0))
        | (at_builtin; (refine wpList_append_tol1 rfl _ _ rfl w.heap.size _ k (flatT (tolN k)) rfl (unhide Y2) w1.heap.size 1 1 [([c], [], true)] rfl (unhide L2) rfl (by decide) (by omega) (unhide B2).size (w1.heap.size + 1) (by simp) ?_; intro g2 cap2 w2 hown2 hg2 hat2 hlt2; have B3 := hide (row_growT (unhide B2) (unhide Y2) hg2); have X3 := hide (row_otherT (unhide X2) hg2 (fun j hj e => (by have e2 : g1 = j := (by injection e); subst e2; exact unhide D1 hj))); have D2 : Hid (g1 ≠ g2) := (fun e => (by subst e; rcases hat2 with h | h; exact unhide D1 h; have := row_lt (unhide X1) g1 rfl; omega)); have Y3 := hide hown2; clear hown2 hg2 hat2 hlt2)))
      go_roundw
      case rel => exact ⟨k + 1, by omega, by go_num, by rw [labN_next, flatL_append, unhide HC]; exact unhide X3, by rw [tolN_next, flatT_append, unhide HC]; exact unhide Y3, fun j hj e => unhide D2 (blk_eq hj e), B3⟩
      case measure => simp [intOf]; omega
    · obtain rfl : k = 5 := by omega
      obtain ⟨g1, cap1, hxe, hcap1⟩ : ∃ g cap, u1 = .slice (some ⟨g, 0, none⟩) 5 cap ∧ 5 ≤ cap := by
        rcases (unhide hx).2 with ⟨_, h0⟩ | ⟨g, cap, cur, e, _, _, hc, _⟩
        · cases h0
        · exact ⟨g, cap, e, hc⟩
      obtain ⟨g2, cap2, hye, hcap2⟩ : ∃ g cap, u2 = .slice (some ⟨g, 0, none⟩) 5 cap ∧ 5 ≤ cap := by
        rcases (unhide hy).2 with ⟨_, h0⟩ | ⟨g, cap, cur, e, _, _, hc, _⟩
        · cases h0
        · exact ⟨g, cap, e, hc⟩
      subst hxe
      subst hye
      have Q0 := hide (row_labs (unhide hx) (labN_len 5).symm (labN_short 5) (by rw [labN_len]; decide))
      have T0 := hide (row_tols (unhide hy) (tolN_len 5).symm (tolN_short 5) (by rw [tolN_len]; decide))
      have i1 : (4 : Int) ≤ (cap1 : Int) := by omega
      have i2 : (4 : Int) ≤ (cap2 : Int) := by omega
      clear hx hy hxy hcap1 hcap2
      go_wp2_with fail
      refine (live5_any _ ((unhide HL).below (unhide hbel))).mono ?_
      rintro e w3 ⟨rfl, hw3⟩
      have B3 := hide (chain (unhide hbel) hw3)
      have Q3 := hide ((unhide Q0).below hw3)
      have T3 := hide ((unhide T0).below hw3)
      clear hw3 hbel Q0 T0
      go_wp2_with fail
      refine (pcheck_any _ (labN 5) _ ((unhide HL).below (unhide B3)) (unhide Q3)).mono ?_
      rintro e w4 ⟨he, hw4⟩
      rw [l5] at he
      subst he
      have B4 := hide (chain (unhide B3) hw4)
      have Q4 := hide ((unhide Q3).below hw4)
      have T4 := hide ((unhide T3).below hw4)
      clear hw4 B3 Q3 T3
      go_wp2_with fail
      refine (pcheck_any _ ((labN 5).take 4) _ ((unhide HL).below (unhide B4)) ((unhide Q4).take (by rw [labN_len]; decide))).mono ?_
      rintro e w5 ⟨he, hw5⟩
      rw [l4] at he
      subst he
      have B5 := hide (chain (unhide B4) hw5)
      have T5 := hide ((unhide T4).below hw5)
      clear hw5 B4 Q4 T4
      go_wp2_with fail
      refine (ptols_any _ (tolN 5) _ ((unhide HL).below (unhide B5)) (unhide T5)).mono ?_
      rintro e w6 ⟨he, hw6⟩
      rw [t5] at he
      subst he
      have B6 := hide (chain (unhide B5) hw6)
      have T6 := hide ((unhide T5).below hw6)
      clear hw6 B5 T5
      go_wp2_with fail
      refine (ptols_any _ ((tolN 5).take 4) _ ((unhide HL).below (unhide B6)) ((unhide T6).take (by rw [tolN_len]; decide))).mono ?_
      rintro e w7 ⟨he, hw7⟩
      rw [t4] at he
      subst he
      have B7 := hide (chain (unhide B6) hw7)
      clear hw7 B6 T6
      go_wp2_with fail
      go_ret
      exact ⟨rfl, unhide B7⟩
end Go.Proofs.YtnkcbmlobikjkabDoor.taintNumbers
