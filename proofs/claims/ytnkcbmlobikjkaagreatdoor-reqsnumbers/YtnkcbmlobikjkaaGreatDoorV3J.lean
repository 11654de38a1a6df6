/- Layer 3: contracts of list, allBut. -/
import Derived.Test.YtnkcbmlobikjkaaGreatDoorV3I
namespace Go.Proofs.YtnkcbmlobikjkaaGreatDoor
open Go.RowKit Suf Val Go.Maps

theorem set_grown (W : World) (b o : Nat) (v : Value) : W.grownBy (W.setCell ⟨b, o, none⟩ v) (some b) :=
  ⟨rfl, rfl, rfl, by simp, fun k _ hk => Below.heap_setCell _ _ _ k (fun e => hk (by rw [e]))⟩
def put6 (w : World) (B : Nat) (a b c d e f : Value) : World := (((((w.setCell ⟨B, 0, none⟩ a).setCell ⟨B, 1, none⟩ b).setCell ⟨B, 2, none⟩ c).setCell ⟨B, 3, none⟩ d).setCell ⟨B, 4, none⟩ e).setCell ⟨B, 5, none⟩ f
theorem put6_grown (w : World) (B : Nat) (a b c d e f : Value) : w.grownBy (put6 w B a b c d e f) (some B) :=
  (((((set_grown w B 0 a).trans (set_grown _ B 1 b)).trans (set_grown _ B 2 c)).trans (set_grown _ B 3 d)).trans (set_grown _ B 4 e)).trans (set_grown _ B 5 f)
/-- Where a set that is told will lie: all zero, free to be written. -/
def Slot (w : World) (B : Nat) : Prop := Six w B (.bool false) (.bool false) (.bool false) (.slice none 0 0) (.int .i64 0) (.int .i64 0) ∧ (∀ o, w.frozen? ⟨B, o, none⟩ = false) ∧ B < w.heap.size
theorem Slot.below {w w' : World} {B : Nat} (h : Slot w B) (hb : Below w.heap.size w w') : Slot w' B := ⟨h.1.below hb, fun o => by rw [hb.frozen (p := ⟨B, o, none⟩) h.2.2]; exact h.2.1 o, Nat.lt_of_lt_of_le h.2.2 hb.size⟩
theorem slot_new (w : World) (t : TypeId) : Slot (w.alloc (.cells #[.bool false, .bool false, .bool false, .slice none 0 0, .int .i64 0, .int .i64 0] t)) w.heap.size :=
  ⟨six_new _ _ _ _ _ _ _ _, fun o => by simp [go_sem], by simp⟩
theorem Own.grown {w w' : World} {base B : Nat} {v : Value} {l : List Txt} (h : Own w base v l) (hg : w.grownBy w' (some B)) (hB : B < base) : Own w' base v l := ⟨h.1.kept hg (by
    rcases h.1.2 with ⟨rfl, _⟩ | ⟨g, cap, cur, rfl, hb, _⟩
    · exact Or.inl rfl
    · exact Or.inr (fun e => by
        have e2 : g = B := by injection e
        omega)), h.2⟩
theorem put6_below {w w1 : World} {B : Nat} (a b c d e f : Value) (h : Below w.heap.size w w1) (hB : w.heap.size ≤ B) : Below w.heap.size w (put6 w1 B a b c d e f) := grown_below h (put6_grown _ _ _ _ _ _ _ _) hB
/-- A set that is told: its fields, and the list of its own. -/
def told (s : VSet) (v : Value) : Value := .agg #[.bool s.miss, .bool s.no, .bool s.num, v, .int .i64 s.lo, .int .i64 s.hi]

set_option maxHeartbeats 1000000 in
theorem list_any (miss : Bool) (b : Nat) (l : List Txt) (w : World) (hk : Keys w b l) (hn : (rising l).length ≤ 1000) :
    Calls Tryz.prog 69 #[.bool miss, .map (some b)] w fun e w' => ∃ v, e = .returned (.agg #[.bool miss, .bool false, .bool false, v, .int .i64 0, .int .i64 0]) ∧ Own w' w.heap.size v (rising l) ∧ Below w.heap.size w w' := by
  have HK := hide hk
  have HN := hide hn
  clear hk hn
  go_enter Tryz.func69, Tryz.ntmps69
  go_wp2_with fail
  refine (rising_any b l _ ((unhide HK).below (box_below _)) (unhide HN)).mono ?_
  rintro e w1 ⟨v, rfl, hown, hw1⟩
  obtain ⟨a, c, rfl⟩ := hown.strs.val
  obtain ⟨hsix, hf, _⟩ := (slot_new w 42).below hw1
  obtain ⟨k0, k1, k2, k3, k4, k5⟩ := hsix
  have HB := hide (chain (box_below _) hw1)
  have HO := hide hown
  obtain ⟨n, hn⟩ : ∃ n, n = (rising l).length := ⟨_, rfl⟩
  rw [← hn] at HO ⊢
  clear hw1 hown hn
  go_wp2_with fail
  exact bodyPost_ret (v := .agg #[.bool miss, .bool false, .bool false, .slice a n c, .int .i64 0, .int .i64 0]) (by simp [results, Tryz.results69, go_sem, k0, k1, k2, k3, k4, k5]) rfl
    ⟨_, rfl, ((unhide HO).grown (put6_grown w1 w.heap.size _ _ _ _ _ _) (by simp)).mono (by simp), put6_below _ _ _ _ _ _ (unhide HB) (Nat.le_refl _)⟩

set_option maxHeartbeats 1000000 in
theorem allBut_any (miss : Bool) (b : Nat) (l : List Txt) (w : World) (hk : Keys w b l) (hn : (rising l).length ≤ 1000) :
    Calls Tryz.prog 71 #[.bool miss, .map (some b)] w fun e w' =>
      (64 < (rising l).length ∧ e = .returned (.tuple #[.agg #[.bool false, .bool false, .bool false, .slice none 0 0, .int .i64 0, .int .i64 0], .int .i64 3]) ∧ Below w.heap.size w w')
      ∨ ((rising l).length ≤ 64 ∧ ∃ v, e = .returned (.tuple #[.agg #[.bool miss, .bool true, .bool false, v, .int .i64 0, .int .i64 0], .int .i64 0]) ∧ Own w' w.heap.size v (rising l) ∧ Below w.heap.size w w') := by
  have HK := hide hk
  have HN := hide hn
  obtain ⟨n0, D, ho, hD, _⟩ := hk.below (box_below (.cells #[.bool false, .bool false, .bool false, .slice none 0 0, .int .i64 0, .int .i64 0] 42))
  have HO := hide ho
  have hz := keys_size ho hD
  obtain ⟨m, hm⟩ : ∃ m, m = (rising l).length := ⟨_, rfl⟩
  rw [← hm] at hz hn ⊢
  have HZ := hide hz
  have HM := hide hm
  clear hk ho hD hz hm
  by_cases h64 : 64 < m
  · have hi : 64 < (m : Int) := by omega
    go_enter Tryz.func71, Tryz.ntmps71
    go_wp2_with (at_len; refine wpList_len_own _ rfl _ 97 rfl 9 122 Tryz.underlying97 (unitElem (H := Unit)) b n0 D rfl (unhide HO) ?_; rw [unhide HZ])
    exact bodyPost_ret (v := .tuple #[.agg #[.bool false, .bool false, .bool false, .slice none 0 0, .int .i64 0, .int .i64 0], .int .i64 3]) (by simp [results, Tryz.results71, go_sem]) rfl
      (Or.inl ⟨h64, rfl, box_below _⟩)
  · have hi : ¬ 64 < (m : Int) := by omega
    go_enter Tryz.func71, Tryz.ntmps71
    go_wp2_with (at_len; refine wpList_len_own _ rfl _ 97 rfl 9 122 Tryz.underlying97 (unitElem (H := Unit)) b n0 D rfl (unhide HO) ?_; rw [unhide HZ])
    refine (rising_any b l _ ((unhide HK).below (box_below _)) (unhide HN)).mono ?_
    rintro e w1 ⟨v, rfl, hown, hw1⟩
    obtain ⟨a, c, rfl⟩ := hown.strs.val
    obtain ⟨hsix, hf, _⟩ := (slot_new w 42).below hw1
    obtain ⟨k0, k1, k2, k3, k4, k5⟩ := hsix
    have HB := hide (chain (box_below _) hw1)
    have HO2 := hide hown
    obtain ⟨n, hn2⟩ : ∃ n, n = (rising l).length := ⟨_, rfl⟩
    rw [← hn2] at HO2 ⊢
    clear hw1 hown hn2
    go_wp2_with fail
    exact bodyPost_ret (v := .tuple #[.agg #[.bool miss, .bool true, .bool false, .slice a n c, .int .i64 0, .int .i64 0], .int .i64 0]) (by simp [results, Tryz.results71, go_sem, k0, k1, k2, k3, k4, k5]) rfl
      (Or.inr ⟨by omega, _, rfl, ((unhide HO2).grown (put6_grown w1 w.heap.size _ _ _ _ _ _) (by simp)).mono (by simp), put6_below _ _ _ _ _ _ (unhide HB) (Nat.le_refl _)⟩)

end Go.Proofs.YtnkcbmlobikjkaaGreatDoor
