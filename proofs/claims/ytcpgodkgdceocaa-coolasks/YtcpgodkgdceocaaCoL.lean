/- Layer 7: slices.Grow, slices.Concat of three; Put. -/
import Derived.Test.YtcpgodkgdceocaaCoK
import Derived.Test.YtcpgodkgdceocaaGrowL
namespace Go.Proofs.Ytcpgodkgdceocaa
open Go.RowKit Suf Val

theorem infoCool : (Try.prog.info? 25).map (fun i => (i.zero, i.size, i.bytes)) = some (some (.agg #[.string ⟨#[]⟩, .string ⟨#[]⟩, .string ⟨#[]⟩, .int .i64 0]), 4, 56) := by kernel_rfl
theorem grow7_any (n base : Nat) (w : World) (hn : n ≤ 200) (hbase : base ≤ w.heap.size) :
    Calls Try.prog 38 #[.slice none 0 0, .int .i64 n] w fun e w' => (∃ v, e = .returned v ∧ OwnC w' base v []) ∧ Below w.heap.size w w' := by
  by_cases h0 : n = 0
  · subst h0
    refine (Any8.slices_Grow_room Try.growR none 0 0 0 w (Nat.le_refl _) (by decide) (by decide) (by decide)).mono ?_
    rintro e w' ⟨rfl, rfl⟩
    exact ⟨⟨_, rfl, ownC_nil _ _⟩, Below.refl _ _⟩
  · obtain ⟨i, hi, hz, hz1, hz2⟩ := ginfo infoCool
    refine (Any8.slices_Grow_grow Try.growR i _ hi hz (by rw [hz1]; decide) none 0 0 n [] w (Nat.le_refl _) (by omega) (by rw [hz2]; omega) (by omega) (by simp) (fun _ => rfl) (fun a h => by cases h)).mono ?_
    rintro e w' ⟨rfl, rfl⟩
    have hge := grownCap_ge w (0 + n) 0 25
    have hle := grownCap_le_maxLen w (0 + n) 0 25 (by unfold maxLen; omega)
    refine ⟨⟨_, rfl, ⟨rfl, Or.inr ⟨w.heap.size, _, _, rfl, hbase, heap_alloc_new w.drew _, Nat.zero_le _, hle, ?_, by simp [flatC]⟩⟩, fun x hx => (by cases hx), by simp⟩, chain (Below.refl _ _).drew (boxb _)⟩
    rw [Array.size_append, Array.size_append, size_zeroCells, size_zeroCells]
    show 0 + _ * 4 + _ * 4 = _ * 4
    show 0 + (0 + n - 0) * 4 + (grownCap w (0 + n) 0 25 - (0 + n)) * 4 = grownCap w (0 + n) 0 25 * 4
    omega
set_option maxRecDepth 100000 in
set_option maxHeartbeats 8000000 in
theorem concat7_any (B : Nat) (v1 v2 v3 : Value) (l1 l2 l3 : List VCool) (w : World) (h0 : w.cell? ⟨B, 0, none⟩ = some v1) (h1 : w.cell? ⟨B, 1, none⟩ = some v2) (h2 : w.cell? ⟨B, 2, none⟩ = some v3) (g1 : Lst coolK w v1 l1) (g2 : Lst coolK w v2 l2) (g3 : Lst coolK w v3 l3) (hl : l1.length ≤ 60 + 12 ∧ l2.length ≤ 1 ∧ l3.length ≤ 60 + 12) :
    Calls Try.prog 29 #[.slice (some ⟨B, 0, none⟩) 3 3] w fun e w' => (∃ v, e = .returned v ∧ OwnC w' w.heap.size v (l1 ++ l2 ++ l3)) ∧ Below w.heap.size w w' := by
  have H0 := hide h0
  have H1 := hide h1
  have H2 := hide h2
  have G1 := hide g1
  have G2 := hide g2
  have G3 := hide g3
  obtain ⟨a1, c1, rfl⟩ := g1.val
  obtain ⟨a2, c2, rfl⟩ := g2.val
  obtain ⟨a3, c3, rfl⟩ := g3.val
  obtain ⟨n1, hn1⟩ : ∃ n, n = l1.length := ⟨_, rfl⟩
  obtain ⟨n2, hn2⟩ : ∃ n, n = l2.length := ⟨_, rfl⟩
  obtain ⟨n3, hn3⟩ : ∃ n, n = l3.length := ⟨_, rfl⟩
  rw [← hn1] at H0 G1 hl
  rw [← hn2] at H1 G2 hl
  rw [← hn3] at H2 G3 hl
  obtain ⟨k1, k2, k3⟩ := hl
  have hb : Hid (∀ a b c : List VCool, a.length ≤ n1 + n2 + n3 → (a.length + 0) * 56 ≤ 140737488355328) := fun a b c h => by omega
  have N1 := hide hn1
  have N2 := hide hn2
  have N3 := hide hn3
  clear h0 h1 h2 g1 g2 g3 hn1 hn2 hn3
  go_enter Try.func29, Try.ntmps29
  go_wp2_with fail
  go_loopw [11, 3] (fun i s W => Hid (Below w.heap.size w W) ∧ ((i = .int .i64 0 ∧ s = .int .i64 0) ∨ (i = .int .i64 1 ∧ s = .int .i64 n1) ∨ (i = .int .i64 2 ∧ s = .int .i64 ((n1 : Int) + n2)) ∨ (i = .int .i64 3 ∧ s = .int .i64 ((n1 : Int) + n2 + n3)))) (fun i _ _ => 3 - (intOf i).toNat)
  case atStart => exact ⟨Below.refl _ _, Or.inl ⟨rfl, rfl⟩⟩
  case round =>
    obtain ⟨hbel, hrel⟩ := hrel
    have c0 := cell_kept (unhide hbel) (unhide H0)
    have c1 := cell_kept (unhide hbel) (unhide H1)
    have c2 := cell_kept (unhide hbel) (unhide H2)
    rcases hrel with ⟨rfl, rfl⟩ | ⟨rfl, rfl⟩ | ⟨rfl, rfl⟩ | ⟨rfl, rfl⟩
    · go_wp2_with fail
      go_roundw
      case rel => exact ⟨hbel, Or.inr (Or.inl ⟨by go_num, by go_num⟩)⟩
      case measure => simp [intOf]
    · go_wp2_with fail
      go_roundw
      case rel => exact ⟨hbel, Or.inr (Or.inr (Or.inl ⟨by go_num, by go_num⟩))⟩
      case measure => simp [intOf]
    · go_wp2_with fail
      go_roundw
      case rel => exact ⟨hbel, Or.inr (Or.inr (Or.inr ⟨by go_num, by go_num⟩))⟩
      case measure => simp [intOf]
    · clear c0 c1 c2
      go_wp2_with fail
      refine (grow7_any (n1 + n2 + n3) w.heap.size _ (by omega) (unhide hbel).size).mono ?_
      rintro e w1 ⟨⟨v0, rfl, hrow0⟩, hw1⟩
      have B1 := hide (chain (unhide hbel) hw1)
      have R0 := hide hrow0
      clear hrow0 hw1 hbel
      go_wp2_with fail
      go_loopw [27, 6] (fun i o W => Hid (Below w.heap.size w W) ∧ ((i = .int .i64 0 ∧ Hid (OwnC W w.heap.size o [])) ∨ (i = .int .i64 1 ∧ Hid (OwnC W w.heap.size o l1)) ∨ (i = .int .i64 2 ∧ Hid (OwnC W w.heap.size o (l1 ++ l2))) ∨ (i = .int .i64 3 ∧ Hid (OwnC W w.heap.size o (l1 ++ l2 ++ l3))))) (fun i _ _ => 3 - (intOf i).toNat)
      case atStart => exact ⟨B1, Or.inl ⟨rfl, R0⟩⟩
      case round =>
        obtain ⟨hbel, hrel⟩ := hrel
        have c0 := cell_kept (unhide hbel) (unhide H0)
        have c1 := cell_kept (unhide hbel) (unhide H1)
        have c2 := cell_kept (unhide hbel) (unhide H2)
        rcases hrel with ⟨rfl, hr⟩ | ⟨rfl, hr⟩ | ⟨rfl, hr⟩ | ⟨rfl, hr⟩
        · have hx : Hid ((([] : List VCool).length + l1.length) * 56 ≤ 140737488355328) := by have := unhide N1; show (0 + _) * 56 ≤ _; omega
          go_wp2_with (at_builtin; refine append_cools rfl _ _ rfl w.heap.size _ [] rfl (unhide hr) _ l1 rfl ((unhide G1).below (unhide hbel)) (unhide hx) (unhide hbel).size ?_; intro v' w9 hown hg; have H9 := hide (And.intro hown hg); clear hown hg c0 c1 c2; go_frame)
          obtain ⟨hown, hg⟩ := unhide H9
          have B9 := hide (grow_on (unhide hbel) (unhide hr).1 hg)
          have R9 := hide hown
          rw [List.nil_append] at R9
          clear H9 hown hg
          go_wp2_with fail
          go_roundw
          case rel => exact ⟨B9, Or.inr (Or.inl ⟨by go_num, R9⟩)⟩
          case measure => simp [intOf]
        · have hx : Hid ((l1.length + l2.length) * 56 ≤ 140737488355328) := by have := unhide N1; have := unhide N2; show _ ≤ _; omega
          go_wp2_with (at_builtin; refine append_cools rfl _ _ rfl w.heap.size _ l1 rfl (unhide hr) _ l2 rfl ((unhide G2).below (unhide hbel)) (unhide hx) (unhide hbel).size ?_; intro v' w9 hown hg; have H9 := hide (And.intro hown hg); clear hown hg c0 c1 c2; go_frame)
          obtain ⟨hown, hg⟩ := unhide H9
          have B9 := hide (grow_on (unhide hbel) (unhide hr).1 hg)
          have R9 := hide hown
          clear H9 hown hg
          go_wp2_with fail
          go_roundw
          case rel => exact ⟨B9, Or.inr (Or.inr (Or.inl ⟨by go_num, R9⟩))⟩
          case measure => simp [intOf]
        · have hx : Hid (((l1 ++ l2).length + l3.length) * 56 ≤ 140737488355328) := by have := unhide N1; have := unhide N2; have := unhide N3; show _ ≤ _; rw [List.length_append]; omega
          go_wp2_with (at_builtin; refine append_cools rfl _ _ rfl w.heap.size _ (l1 ++ l2) rfl (unhide hr) _ l3 rfl ((unhide G3).below (unhide hbel)) (unhide hx) (unhide hbel).size ?_; intro v' w9 hown hg; have H9 := hide (And.intro hown hg); clear hown hg c0 c1 c2; go_frame)
          obtain ⟨hown, hg⟩ := unhide H9
          have B9 := hide (grow_on (unhide hbel) (unhide hr).1 hg)
          have R9 := hide hown
          clear H9 hown hg
          go_wp2_with fail
          go_roundw
          case rel => exact ⟨B9, Or.inr (Or.inr (Or.inr ⟨by go_num, R9⟩))⟩
          case measure => simp [intOf]
        · clear c0 c1 c2
          go_wp2_with fail
          go_ret
          exact ⟨⟨_, rfl, unhide hr⟩, unhide hbel⟩
theorem gadd0 (a : Option Addr) : a.map (fun x => x.add 0) = a := by
  cases a with
  | none => rfl
  | some x =>
    obtain ⟨b, o, s⟩ := x
    show some (Addr.add _ 0) = _
    unfold Addr.add
    split <;> simp_all
theorem slice_head7 {a : Option Addr} {n c i : Nat} (h : i ≤ c) (V : World) : (Instr.slice 29 (.slice a n c) none (some (.int .i64 (i : Int))) none).run Try.prog V = .ok (.slice a i c) V := by
  have he : Try.prog.elem 29 = 25 := by kernel_rfl
  rw [run_slice_h (ht := elC) (h0 := by omega) (h2 := by omega), he, show (Go.sizeOf 25).run Try.prog V = .ok 4 V by kernel_rfl]
  simp only [Result.andThen, sliced, Int.toNat_natCast]
  by_cases hc : c = 0
  · rw [if_pos hc]; rfl
  · rw [if_neg hc]
    show Result.ok (Value.slice (a.map fun x => x.add (0 * 4)) (i - 0) (c - 0)) V = _
    rw [show 0 * 4 = 0 from rfl, gadd0]; rfl
theorem slice_tail7 {a : Option Addr} {n c m : Nat} (h : m ≤ n) (hc : n ≤ c) : ∃ a' : Option Addr, (∀ V, (Instr.slice 29 (.slice a n c) (some (.int .i64 (m : Int))) none none).run Try.prog V = .ok (.slice a' (n - m) (c - m)) V) ∧ ∀ {W : World} {l : List VCool}, Lst coolK W (.slice a n c) l → Lst coolK W (.slice a' (n - m) (c - m)) (l.drop m) := by
  have he : Try.prog.elem 29 = 25 := by kernel_rfl
  refine ⟨if c = m then a else a.map (·.add (m * 4)), fun V => ?_, fun {W l} hl => ?_⟩
  · rw [run_slice_l (ht := elC) (h0 := by omega) (h1 := by omega), he, show (Go.sizeOf 25).run Try.prog V = .ok 4 V by kernel_rfl]
    simp only [Result.andThen, sliced, Int.toNat_natCast]
  · have hn := hl.cap.1
    by_cases hm : m = n
    · rw [List.drop_eq_nil_of_le (by omega), hm, Nat.sub_self]
      exact lst_zero _ _ _ _
    · obtain ⟨b, o, rfl, _⟩ := hl.at (j := m) (by omega)
      rw [if_neg (by omega)]
      show Lst coolK W (.slice (some ((⟨b, o, none⟩ : Addr).add (m * 4))) _ _) _
      rw [gadd]
      exact hl.drop (K := coolK) (by omega)
end Go.Proofs.Ytcpgodkgdceocaa
