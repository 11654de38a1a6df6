/- Proved: AmountBack returns true for every input. No condition. -/
import Derived.Test.YtkippgdboodlfaaAmtU
import Derived.Deep.DeepCutAuto
namespace Go.Proofs.Ytkippgdboodlfaa.amountBack
open Go.ChangeShapes Go.WideShapes Go.ChangeAt Go.RowKit
attribute [local go_sem] eq2

theorem eAdd_iff (a b c d : Int) : eAdd a b c d = 0 ↔ chkA a b = 0 ∧ chkA c d = 0 ∧ chkA (a + c) (b + d) = 0 := by
  unfold eAdd; rw [fst2_iff, chkB_iff]; exact ⟨fun h => ⟨h.1.1, h.1.2, h.2⟩, fun h => ⟨⟨h.1, h.2.1⟩, h.2.2⟩⟩
theorem add_comm0 (a b c d : Int) : (eAdd c d a b == 0) = (eAdd a b c d == 0) := by
  rw [Bool.eq_iff_iff, beq_iff_eq, beq_iff_eq, eAdd_iff, eAdd_iff, Int.add_comm c a, Int.add_comm d b]
  exact ⟨fun h => ⟨h.2.1, h.1, h.2.2⟩, fun h => ⟨h.2.1, h.1, h.2.2⟩⟩
theorem keep_bool (e n : Int) : keep e n = if (e == 0) = true then n else 0 := by
  unfold keep; simp
theorem add_comm1 (a b c d : Int) : keep (eAdd c d a b) (c + a) = keep (eAdd a b c d) (a + c) := by
  rw [keep_bool, keep_bool, add_comm0, Int.add_comm c a]
theorem add_comm2 (a b c d : Int) : keep (eAdd c d a b) (d + b) = keep (eAdd a b c d) (b + d) := by
  rw [keep_bool, keep_bool, add_comm0, Int.add_comm d b]

theorem add_bd (a b c d : Int) (h : eAdd a b c d = 0) : ((0 ≤ a ∧ a ≤ 1125899906842624) ∧ (0 ≤ b ∧ b ≤ 1125899906842624)) ∧ ((0 ≤ c ∧ c ≤ 1125899906842624) ∧ (0 ≤ d ∧ d ≤ 1125899906842624)) ∧ ((0 ≤ a + c ∧ a + c ≤ 1125899906842624) ∧ (0 ≤ b + d ∧ b + d ≤ 1125899906842624)) := by
  rw [eAdd_iff, chkA_iff, chkA_iff, chkA_iff] at h; exact h
theorem back_sub (a b c d : Int) (h : eAdd a b c d = 0) : eSub (a + c) (b + d) c d = 0 := by
  have k := (eAdd_iff a b c d).1 h
  have g := add_bd a b c d h
  exact eSub_yes _ _ _ _ ((chkB_iff _ _ _ _).2 ⟨k.2.2, k.2.1⟩) (by omega)
theorem back_fit1 (a b c d : Int) (h : eAdd a b c d = 0) : fitsB a b (a + c) (b + d) = true := by
  have k := (eAdd_iff a b c d).1 h
  have g := add_bd a b c d h
  unfold fitsB; exact decide_eq_true ⟨(chkB_iff _ _ _ _).2 ⟨k.1, k.2.2⟩, by omega, by omega⟩
theorem back_fit2 (a b c d : Int) (h : eAdd a b c d = 0) : fitsB c d (a + c) (b + d) = true := by
  have k := (eAdd_iff a b c d).1 h
  have g := add_bd a b c d h
  unfold fitsB; exact decide_eq_true ⟨(chkB_iff _ _ _ _).2 ⟨k.2.1, k.2.2⟩, by omega, by omega⟩
theorem assoc0 (a b c d e f : Int) (h : eAdd a b c d = 0) (g : eAdd c d e f = 0) : (eAdd a b (c + e) (d + f) == 0) = (eAdd (a + c) (b + d) e f == 0) := by
  have k := (eAdd_iff a b c d).1 h
  have l := (eAdd_iff c d e f).1 g
  rw [Bool.eq_iff_iff, beq_iff_eq, beq_iff_eq, eAdd_iff, eAdd_iff, ← Int.add_assoc, ← Int.add_assoc]
  exact ⟨fun x => ⟨k.2.2, l.2.1, x.2.2⟩, fun x => ⟨k.1, l.2.2, x.2.2⟩⟩
theorem assoc1 (a b c d e f : Int) (h : eAdd a b c d = 0) (g : eAdd c d e f = 0) : keep (eAdd a b (c + e) (d + f)) (a + (c + e)) = keep (eAdd (a + c) (b + d) e f) (a + c + e) := by
  rw [keep_bool, keep_bool, assoc0 a b c d e f h g, Int.add_assoc]
theorem assoc2 (a b c d e f : Int) (h : eAdd a b c d = 0) (g : eAdd c d e f = 0) : keep (eAdd a b (c + e) (d + f)) (b + (d + f)) = keep (eAdd (a + c) (b + d) e f) (b + d + f) := by
  rw [keep_bool, keep_bool, assoc0 a b c d e f h g, Int.add_assoc]

theorem sub_fit (a b c d : Int) : (eSub c d a b == 0) = fitsB a b c d := by
  have hc : chkB c d a b = 0 ↔ chkB a b c d = 0 := by rw [chkB_iff, chkB_iff]; exact And.comm
  unfold fitsB
  rw [Bool.eq_iff_iff, beq_iff_eq, decide_eq_true_eq, ← hc]
  unfold eSub; rw [fst2_iff]
  by_cases h : a ≤ c ∧ b ≤ d
  · rw [if_pos h]; exact ⟨fun x => ⟨x.1, h⟩, fun x => ⟨x.1, rfl⟩⟩
  · rw [if_neg h]; exact ⟨fun x => by omega, fun x => absurd x.2 h⟩
theorem fit_self (a b : Int) : (chkA a b == 0) = fitsB a b a b := by
  unfold fitsB
  rw [Bool.eq_iff_iff, beq_iff_eq, decide_eq_true_eq, chkB_iff]
  exact ⟨fun x => ⟨⟨x, x⟩, Int.le_refl _, Int.le_refl _⟩, fun x => x.1.1⟩
theorem fit_trans (a b c d e f : Int) (h : fitsB a b c d = true) (g : fitsB c d e f = true) : fitsB a b e f = true := by
  unfold fitsB at *
  rw [decide_eq_true_eq, chkB_iff] at *
  exact ⟨⟨h.1.1, g.1.2⟩, by omega, by omega⟩
theorem fit_less (a b c d : Int) (h : fitsB a b c d = true) : fitsB (c - a) (d - b) c d = true := by
  unfold fitsB at *
  rw [decide_eq_true_eq, chkB_iff, chkA_iff, chkA_iff] at *
  exact ⟨⟨by omega, h.1.2⟩, by omega, by omega⟩
theorem pb_range (n : Int) (k : Nat) : 0 ≤ pb n k ∧ pb n k < 256 := by unfold pb; omega
theorem keep_range (e n : Int) (h : 0 ≤ n ∧ n < 256) : 0 ≤ keep e n ∧ keep e n < 256 := by unfold keep; split <;> omega
theorem pbs_range (a b e : Int) (j : Nat) : 0 ≤ keep e (pbs a b j) ∧ keep e (pbs a b j) < 256 := by
  apply keep_range; unfold pbs; split <;> exact pb_range _ _
theorem acc_lo (a b : Int) (h0 : 0 ≤ a) (h1 : a ≤ 1125899906842624) : acc (pbs a b) 0 7 = a := by
  simp [acc, pbs, pb]; omega
theorem acc_hi (a b : Int) (h0 : 0 ≤ b) (h1 : b ≤ 1125899906842624) : acc (pbs a b) 7 7 = b := by
  simp [acc, pbs, pb]; omega
theorem acc_keep1 (a b : Int) : acc (fun j => keep (chkA a b) (pbs a b j)) 0 7 = keep (chkA a b) a := by
  by_cases h : chkA a b = 0
  · have g := (chkA_iff a b).1 h
    rw [show (fun j => keep (chkA a b) (pbs a b j)) = pbs a b from funext fun j => keep_yes _ _ h, keep_yes _ _ h]
    exact acc_lo a b g.1.1 g.1.2
  · rw [show (fun j => keep (chkA a b) (pbs a b j)) = fun _ => 0 from funext fun j => keep_no _ _ h, keep_no _ _ h]; rfl
theorem acc_keep2 (a b : Int) : acc (fun j => keep (chkA a b) (pbs a b j)) 7 7 = keep (chkA a b) b := by
  by_cases h : chkA a b = 0
  · have g := (chkA_iff a b).1 h
    rw [show (fun j => keep (chkA a b) (pbs a b j)) = pbs a b from funext fun j => keep_yes _ _ h, keep_yes _ _ h]
    exact acc_hi a b g.2.1 g.2.2
  · rw [show (fun j => keep (chkA a b) (pbs a b j)) = fun _ => 0 from funext fun j => keep_no _ _ h, keep_no _ _ h]; rfl
theorem chk_keep (a b : Int) : chkA (keep (chkA a b) a) (keep (chkA a b) b) = 0 := by
  by_cases h : chkA a b = 0
  · rw [keep_yes _ _ h, keep_yes _ _ h]; exact h
  · rw [keep_no _ _ h, keep_no _ _ h]; rfl

/-- Three boxed pairs lie at block B and the two behind it. -/
theorem keep_three {w W w1 : World} {B : Nat} {a b c d e f : Value}
    (h : W.cell? ⟨B, 0, none⟩ = some a ∧ W.cell? ⟨B, 1, none⟩ = some b ∧ W.cell? ⟨B + 1, 0, none⟩ = some c ∧ W.cell? ⟨B + 1, 1, none⟩ = some d ∧ W.cell? ⟨B + 1 + 1, 0, none⟩ = some e ∧ W.cell? ⟨B + 1 + 1, 1, none⟩ = some f ∧ Below B w W)
    (hb : Below W.heap.size W w1) :
    w1.cell? ⟨B, 0, none⟩ = some a ∧ w1.cell? ⟨B, 1, none⟩ = some b ∧ w1.cell? ⟨B + 1, 0, none⟩ = some c ∧ w1.cell? ⟨B + 1, 1, none⟩ = some d ∧ w1.cell? ⟨B + 1 + 1, 0, none⟩ = some e ∧ w1.cell? ⟨B + 1 + 1, 1, none⟩ = some f ∧ Below B w w1 := by
  obtain ⟨h1, h2, h3, h4, h5, h6, h7⟩ := h
  exact ⟨cell_kept hb h1, cell_kept hb h2, cell_kept hb h3, cell_kept hb h4, cell_kept hb h5, cell_kept hb h6, h7.trans (hb.mono (Nat.le_of_lt (World.block_lt_of_cell? W _ h1)))⟩
theorem keep_threeB {w W w1 : World} {B : Nat} {a b c d e f : Value} {o : Obj}
    (h : W.cell? ⟨B, 0, none⟩ = some a ∧ W.cell? ⟨B, 1, none⟩ = some b ∧ W.cell? ⟨B + 1, 0, none⟩ = some c ∧ W.cell? ⟨B + 1, 1, none⟩ = some d ∧ W.cell? ⟨B + 1 + 1, 0, none⟩ = some e ∧ W.cell? ⟨B + 1 + 1, 1, none⟩ = some f ∧ Below B w W)
    (hb : Below (W.alloc o).heap.size (W.alloc o) w1) :
    w1.cell? ⟨B, 0, none⟩ = some a ∧ w1.cell? ⟨B, 1, none⟩ = some b ∧ w1.cell? ⟨B + 1, 0, none⟩ = some c ∧ w1.cell? ⟨B + 1, 1, none⟩ = some d ∧ w1.cell? ⟨B + 1 + 1, 0, none⟩ = some e ∧ w1.cell? ⟨B + 1 + 1, 1, none⟩ = some f ∧ Below B w w1 := by
  obtain ⟨h1, h2, h3, h4, h5, h6, h7⟩ := h
  exact ⟨kept1 hb h1, kept1 hb h2, kept1 hb h3, kept1 hb h4, kept1 hb h5, kept1 hb h6, below_box h7 (Nat.le_of_lt (World.block_lt_of_cell? W _ h1)) hb⟩
theorem alloc_three {w W : World} {B : Nat} {a b c d e f : Value} {o : Obj}
    (h : W.cell? ⟨B, 0, none⟩ = some a ∧ W.cell? ⟨B, 1, none⟩ = some b ∧ W.cell? ⟨B + 1, 0, none⟩ = some c ∧ W.cell? ⟨B + 1, 1, none⟩ = some d ∧ W.cell? ⟨B + 1 + 1, 0, none⟩ = some e ∧ W.cell? ⟨B + 1 + 1, 1, none⟩ = some f ∧ Below B w W) :
    (W.alloc o).cell? ⟨B, 0, none⟩ = some a ∧ (W.alloc o).cell? ⟨B, 1, none⟩ = some b ∧ (W.alloc o).cell? ⟨B + 1, 0, none⟩ = some c ∧ (W.alloc o).cell? ⟨B + 1, 1, none⟩ = some d ∧ (W.alloc o).cell? ⟨B + 1 + 1, 0, none⟩ = some e ∧ (W.alloc o).cell? ⟨B + 1 + 1, 1, none⟩ = some f ∧ Below B w (W.alloc o) :=
  keep_threeB h (Below.refl _ _)
theorem start_three {w : World} {a b c d e f : Value} {t : TypeId} :
    (((w.alloc (.cells #[a, b] t)).alloc (.cells #[c, d] t)).alloc (.cells #[e, f] t)).cell? ⟨w.heap.size, 0, none⟩ = some a ∧ (((w.alloc (.cells #[a, b] t)).alloc (.cells #[c, d] t)).alloc (.cells #[e, f] t)).cell? ⟨w.heap.size, 1, none⟩ = some b ∧
    (((w.alloc (.cells #[a, b] t)).alloc (.cells #[c, d] t)).alloc (.cells #[e, f] t)).cell? ⟨w.heap.size + 1, 0, none⟩ = some c ∧ (((w.alloc (.cells #[a, b] t)).alloc (.cells #[c, d] t)).alloc (.cells #[e, f] t)).cell? ⟨w.heap.size + 1, 1, none⟩ = some d ∧
    (((w.alloc (.cells #[a, b] t)).alloc (.cells #[c, d] t)).alloc (.cells #[e, f] t)).cell? ⟨w.heap.size + 1 + 1, 0, none⟩ = some e ∧ (((w.alloc (.cells #[a, b] t)).alloc (.cells #[c, d] t)).alloc (.cells #[e, f] t)).cell? ⟨w.heap.size + 1 + 1, 1, none⟩ = some f ∧
    Below w.heap.size w (((w.alloc (.cells #[a, b] t)).alloc (.cells #[c, d] t)).alloc (.cells #[e, f] t)) :=
  ⟨by simp [go_sem], by simp [go_sem], by simp [go_sem], by simp [go_sem], by simp [go_sem], by simp [go_sem], below3⟩
theorem sizes_three {W : World} {B : Nat} {a e : Value} (h1 : W.cell? ⟨B, 0, none⟩ = some a) (h5 : W.cell? ⟨B + 1 + 1, 0, none⟩ = some e) : B < W.heap.size ∧ B + 1 < W.heap.size ∧ B + 1 + 1 < W.heap.size := by
  have l := World.block_lt_of_cell? W _ h1
  have m := World.block_lt_of_cell? W _ h5
  simp only at l m
  omega

set_option maxRecDepth 100000 in
set_option maxHeartbeats 2000000 in
theorem walk (a0 a1 b0 b1 c0 c1 : Int) (w : World) (_ : (Lit.int .i64 a0).wf = true) (_ : (Lit.int .i64 a1).wf = true) (_ : (Lit.int .i64 b0).wf = true) (_ : (Lit.int .i64 b1).wf = true) (_ : (Lit.int .i64 c0).wf = true) (_ : (Lit.int .i64 c1).wf = true) :
    Calls Try.prog 8 #[.agg #[.int .i64 a0, .int .i64 a1], .agg #[.int .i64 b0, .int .i64 b1], .agg #[.int .i64 c0, .int .i64 c1]] w fun e w' => e = .returned (.bool true) ∧ Below w.heap.size w w' := by
  have hcm := hide (add_comm0 a0 a1 b0 b1)
  go_enter Try.func8, Try.ntmps8
  go_wp2_with fail
  refine (add_any _ _ _ _ _).mono ?_
  rintro e w1 ⟨rfl, hw1⟩
  have X1 := hide (keep_three start_three hw1)
  obtain ⟨h10, h11, h12, h13, h14, h15, _⟩ := unhide X1
  obtain ⟨z10, z11, z12⟩ := sizes_three h10 h14
  clear hw1
  go_wp2_with fail
  refine (add_any _ _ _ _ _).mono ?_
  rintro e w2 ⟨he, hw2⟩
  rw [add_comm1, add_comm2] at he
  subst he
  have X2 := hide (keep_threeB (unhide X1) hw2)
  obtain ⟨s0, s1⟩ := kept_box hw2
  clear X1 h10 h11 h12 h13 h14 h15 z10 z11 z12
  obtain ⟨h20, h21, h22, h23, h24, h25, _⟩ := unhide X2
  obtain ⟨z20, z21, z22⟩ := sizes_three h20 h24
  have y2 := World.block_lt_of_cell? _ _ s0
  simp only at y2
  clear hw2
  have hcm2 := unhide hcm
  go_upto_if 51 with fail
  go_cut [12] (fun _ W => Hid (W.cell? ⟨w.heap.size, 0, none⟩ = some (.int .i64 a0) ∧ W.cell? ⟨w.heap.size, 1, none⟩ = some (.int .i64 a1) ∧ W.cell? ⟨w.heap.size + 1, 0, none⟩ = some (.int .i64 b0) ∧ W.cell? ⟨w.heap.size + 1, 1, none⟩ = some (.int .i64 b1)
      ∧ W.cell? ⟨w.heap.size + 1 + 1, 0, none⟩ = some (.int .i64 c0) ∧ W.cell? ⟨w.heap.size + 1 + 1, 1, none⟩ = some (.int .i64 c1) ∧ Below w.heap.size w W))
  case first =>
    by_cases hE : eAdd a0 a1 b0 b1 = 0
    · have hb : (eAdd a0 a1 b0 b1 == 0) = true := by rw [hE]; rfl
      rw [hE, keep_yes 0 _ rfl] at s0 s1
      have q1 := hide (back_sub a0 a1 b0 b1 hE)
      have q2 := hide (back_fit1 a0 a1 b0 b1 hE)
      have q3 := hide (back_fit2 a0 a1 b0 b1 hE)
      have HE := hide hE
      clear hE
      go_wp2_with fail
      refine (sub_any _ _ _ _ _).mono ?_
      rintro e w3 ⟨he, hw3⟩
      rw [unhide q1, keep_yes 0 _ rfl, keep_yes 0 _ rfl, Int.add_sub_cancel, Int.add_sub_cancel] at he
      subst he
      have X3 := hide (keep_threeB (unhide X2) hw3)
      replace s0 := kept1 hw3 s0
      replace s1 := kept1 hw3 s1
      clear X2 y2 hcm2
      clear h20 h21 h22 h23 h24 h25 z20 z21 z22
      obtain ⟨h30, h31, h32, h33, h34, h35, _⟩ := unhide X3
      obtain ⟨z30, z31, z32⟩ := sizes_three h30 h34
      have y3 := World.block_lt_of_cell? _ _ s0
      simp only at y3
      clear hw3
      go_wp2_with fail
      refine (fits_any _ _ _ _ _).mono ?_
      rintro e w4 ⟨he, hw4⟩
      rw [unhide q2] at he
      subst he
      have X4 := hide (keep_threeB (unhide X3) hw4)
      replace s0 := kept1 hw4 s0
      replace s1 := kept1 hw4 s1
      clear X3 y3 hw4
      clear h30 h31 h32 h33 h34 h35 z30 z31 z32
      obtain ⟨h40, h41, h42, h43, h44, h45, _⟩ := unhide X4
      obtain ⟨z40, z41, z42⟩ := sizes_three h40 h44
      go_wp2_with fail
      refine (fits_any _ _ _ _ _).mono ?_
      rintro e w5 ⟨he, hw5⟩
      rw [unhide q3] at he
      subst he
      have X5 := hide (keep_three (unhide X4) hw5)
      replace s0 := cell_kept hw5 s0
      replace s1 := cell_kept hw5 s1
      clear X4 hw5
      clear h40 h41 h42 h43 h44 h45 z40 z41 z42
      obtain ⟨h50, h51, h52, h53, h54, h55, _⟩ := unhide X5
      obtain ⟨z50, z51, z52⟩ := sizes_three h50 h54
      go_wp2_with fail
      refine (add_any _ _ _ _ _).mono ?_
      rintro e w6 ⟨rfl, hw6⟩
      have X6 := hide (keep_three (unhide X5) hw6)
      clear X5 hw6 s0 s1
      clear h50 h51 h52 h53 h54 h55 z50 z51 z52
      obtain ⟨h60, h61, h62, h63, h64, h65, _⟩ := unhide X6
      obtain ⟨z60, z61, z62⟩ := sizes_three h60 h64
      go_wp2_with fail
      refine (add_any _ _ _ _ _).mono ?_
      rintro e w7 ⟨he, hw7⟩
      have X7 := hide (keep_threeB (unhide X6) hw7)
      obtain ⟨u0, u1⟩ := kept_box hw7
      clear X6 hw7
      clear h60 h61 h62 h63 h64 h65 z60 z61 z62
      obtain ⟨h70, h71, h72, h73, h74, h75, _⟩ := unhide X7
      obtain ⟨z70, z71, z72⟩ := sizes_three h70 h74
      have y7 := World.block_lt_of_cell? _ _ u0
      simp only at y7
      by_cases hI : eAdd b0 b1 c0 c1 = 0
      · have hi : (eAdd b0 b1 c0 c1 == 0) = true := by rw [hI]; rfl
        have p0 := hide (assoc0 a0 a1 b0 b1 c0 c1 (unhide HE) hI)
        have p1 := hide (assoc1 a0 a1 b0 b1 c0 c1 (unhide HE) hI)
        have p2 := hide (assoc2 a0 a1 b0 b1 c0 c1 (unhide HE) hI)
        rw [hI, keep_yes 0 _ rfl, keep_yes 0 _ rfl] at he
        subst he
        clear hI
        go_wp2_with fail
        refine (add_any _ _ _ _ _).mono ?_
        rintro e w8 ⟨he, hw8⟩
        rw [unhide p1, unhide p2] at he
        subst he
        have X8 := hide (keep_threeB (unhide X7) hw8)
        replace u0 := kept1 hw8 u0
        replace u1 := kept1 hw8 u1
        clear X7 y7 hw8
        clear h70 h71 h72 h73 h74 h75 z70 z71 z72
        obtain ⟨h80, h81, h82, h83, h84, h85, _⟩ := unhide X8
        obtain ⟨z80, z81, z82⟩ := sizes_three h80 h84
        have y8 := World.block_lt_of_cell? _ _ u0
        simp only at y8
        have p3 := unhide p0
        go_wp2_with fail
        go_meet
        case rel => exact alloc_three (unhide X8)
      · have hi : (eAdd b0 b1 c0 c1 == 0) = false := beq_eq_false_iff_ne.2 hI
        subst he
        clear hI
        go_wp2_with fail
        go_meet
        case rel => exact alloc_three (unhide X7)
    · have hb : (eAdd a0 a1 b0 b1 == 0) = false := beq_eq_false_iff_ne.2 hE
      clear hE
      go_wp2_with fail
      go_meet
      case rel => exact alloc_three (unhide X2)
  case rest =>
    clear hcm2 h20 h21 h22 h23 h24 h25 z20 z21 z22 y2 s0 s1 X2 hcm
    have X3 := hcut
    clear hcut
    obtain ⟨h30, h31, h32, h33, h34, h35, _⟩ := unhide X3
    obtain ⟨z30, z31, z32⟩ := sizes_three h30 h34
    go_wp2_with fail
    refine (pack_any _ _ _).mono ?_
    rintro e w4 ⟨he, hw4⟩
    obtain ⟨f, hf⟩ : ∃ f : Nat → Int, f = fun j => keep (chkA a0 a1) (pbs a0 a1 j) := ⟨_, rfl⟩
    have f1 := hide ((congrArg (fun g => acc g 0 7) hf).trans (acc_keep1 a0 a1))
    have f2 := hide ((congrArg (fun g => acc g 7 7) hf).trans (acc_keep2 a0 a1))
    have f3 : Hid (∀ j, j < 14 → 0 ≤ f j ∧ f j < 256) := fun j _ => by rw [hf]; exact pbs_range _ _ _ _
    have f4 := hide (chk_keep a0 a1)
    rw [← hf] at he
    subst he
    clear hf
    have X4 := hide (keep_three (unhide X3) hw4)
    clear X3 hw4 h30 h31 h32 h33 h34 h35 z30 z31 z32
    obtain ⟨h40, h41, h42, h43, h44, h45, _⟩ := unhide X4
    obtain ⟨z40, z41, z42⟩ := sizes_three h40 h44
    go_wp2_with fail
    refine (unpack_any f _ (unhide f3)).mono ?_
    rintro e w5 ⟨he, hw5⟩
    rw [unhide f1, unhide f2, unhide f4, keep_yes 0 _ rfl, keep_yes 0 _ rfl] at he
    subst he
    have X5 := hide (keep_threeB (unhide X4) hw5)
    clear X4 hw5 h40 h41 h42 h43 h44 h45 z40 z41 z42 f1 f2 f3 f4
    obtain ⟨h50, h51, h52, h53, h54, h55, _⟩ := unhide X5
    obtain ⟨z50, z51, z52⟩ := sizes_three h50 h54
    -- the tail's cases
    by_cases hP : chkA a0 a1 = 0
    · cases F1 : fitsB a0 a1 b0 b1
      · have k0 := keep_yes (chkA a0 a1) a0 hP
        have k1 := keep_yes (chkA a0 a1) a1 hP
        have k2 : (chkA a0 a1 != 0) = false := by rw [hP]; rfl
        have k3 : (chkA a0 a1 == 0) = true := by rw [hP]; rfl
        have H5 := hide ((fit_self a0 a1).symm.trans k3)
        have H1 := hide F1
        have m1 : (eSub b0 b1 a0 a1 == 0) = false := (sub_fit a0 a1 b0 b1).trans F1
        have m2 : (eSub b0 b1 a0 a1 != 0) = true := by rw [bne, m1]; rfl
        clear F1 hP
        go_wp2_with fail
        refine (fits_any _ _ _ _ _).mono ?_
        rintro e w6 ⟨he, hw6⟩
        rw [unhide H1] at he
        subst he
        have X6 := hide (keep_threeB (unhide X5) hw6)
        clear X5 hw6 h50 h51 h52 h53 h54 h55 z50 z51 z52
        obtain ⟨h60, h61, h62, h63, h64, h65, _⟩ := unhide X6
        obtain ⟨z60, z61, z62⟩ := sizes_three h60 h64
        go_wp2_with fail
        refine (sub_any _ _ _ _ _).mono ?_
        rintro e w7 ⟨he, hw7⟩
        subst he
        have X7 := hide (keep_three (unhide X6) hw7)
        clear X6 hw7 h60 h61 h62 h63 h64 h65 z60 z61 z62
        obtain ⟨h70, h71, h72, h73, h74, h75, _⟩ := unhide X7
        obtain ⟨z70, z71, z72⟩ := sizes_three h70 h74
        go_wp2_with fail
        refine (fits_any _ _ _ _ _).mono ?_
        rintro e w8 ⟨he, hw8⟩
        rw [unhide H1] at he
        subst he
        have X8 := hide (keep_threeB (unhide X7) hw8)
        clear X7 hw8 h70 h71 h72 h73 h74 h75 z70 z71 z72
        obtain ⟨h80, h81, h82, h83, h84, h85, _⟩ := unhide X8
        obtain ⟨z80, z81, z82⟩ := sizes_three h80 h84
        go_wp2_with fail
        refine (live_any _).mono ?_
        rintro e w9 ⟨he, hw9⟩
        subst he
        have X9 := hide (keep_three (unhide X8) hw9)
        clear X8 hw9 h80 h81 h82 h83 h84 h85 z80 z81 z82
        obtain ⟨h90, h91, h92, h93, h94, h95, _⟩ := unhide X9
        obtain ⟨z90, z91, z92⟩ := sizes_three h90 h94
        go_wp2_with fail
        refine (fits_any _ _ _ _ _).mono ?_
        rintro e w10 ⟨he, hw10⟩
        rw [unhide H5] at he
        subst he
        have X10 := hide (keep_three (unhide X9) hw10)
        clear X9 hw10 h90 h91 h92 h93 h94 h95 z90 z91 z92
        obtain ⟨h100, h101, h102, h103, h104, h105, _⟩ := unhide X10
        obtain ⟨z100, z101, z102⟩ := sizes_three h100 h104
        go_wp2_with fail
        go_ret
        exact ⟨rfl, (unhide X10).2.2.2.2.2.2⟩
      · cases F2 : fitsB b0 b1 c0 c1
        · have k0 := keep_yes (chkA a0 a1) a0 hP
          have k1 := keep_yes (chkA a0 a1) a1 hP
          have k2 : (chkA a0 a1 != 0) = false := by rw [hP]; rfl
          have k3 : (chkA a0 a1 == 0) = true := by rw [hP]; rfl
          have H5 := hide ((fit_self a0 a1).symm.trans k3)
          have H1 := hide F1
          have H4 := hide (fit_less _ _ _ _ F1)
          have H6 := hide (beq_iff_eq.1 ((sub_fit a0 a1 b0 b1).trans F1))
          have H2 := hide F2
          clear F1 F2 hP
          go_wp2_with fail
          refine (fits_any _ _ _ _ _).mono ?_
          rintro e w6 ⟨he, hw6⟩
          rw [unhide H1] at he
          subst he
          have X6 := hide (keep_threeB (unhide X5) hw6)
          clear X5 hw6 h50 h51 h52 h53 h54 h55 z50 z51 z52
          obtain ⟨h60, h61, h62, h63, h64, h65, _⟩ := unhide X6
          obtain ⟨z60, z61, z62⟩ := sizes_three h60 h64
          go_wp2_with fail
          refine (fits_any _ _ _ _ _).mono ?_
          rintro e w7 ⟨he, hw7⟩
          rw [unhide H2] at he
          subst he
          have X7 := hide (keep_three (unhide X6) hw7)
          clear X6 hw7 h60 h61 h62 h63 h64 h65 z60 z61 z62
          obtain ⟨h70, h71, h72, h73, h74, h75, _⟩ := unhide X7
          obtain ⟨z70, z71, z72⟩ := sizes_three h70 h74
          go_wp2_with fail
          refine (sub_any _ _ _ _ _).mono ?_
          rintro e w8 ⟨he, hw8⟩
          rw [unhide H6, keep_yes 0 _ rfl, keep_yes 0 _ rfl] at he
          subst he
          have X8 := hide (keep_three (unhide X7) hw8)
          clear X7 hw8 h70 h71 h72 h73 h74 h75 z70 z71 z72
          obtain ⟨h80, h81, h82, h83, h84, h85, _⟩ := unhide X8
          obtain ⟨z80, z81, z82⟩ := sizes_three h80 h84
          go_wp2_with fail
          refine (fits_any _ _ _ _ _).mono ?_
          rintro e w9 ⟨he, hw9⟩
          rw [unhide H1] at he
          subst he
          have X9 := hide (keep_threeB (unhide X8) hw9)
          obtain ⟨d0, d1⟩ := kept_box hw9
          clear X8 hw9 h80 h81 h82 h83 h84 h85 z80 z81 z82
          obtain ⟨h90, h91, h92, h93, h94, h95, _⟩ := unhide X9
          obtain ⟨z90, z91, z92⟩ := sizes_three h90 h94
          go_wp2_with fail
          refine (fits_any _ _ _ _ _).mono ?_
          rintro e w10 ⟨he, hw10⟩
          rw [unhide H4] at he
          subst he
          have X10 := hide (keep_three (unhide X9) hw10)
          clear X9 hw10 h90 h91 h92 h93 h94 h95 z90 z91 z92
          obtain ⟨h100, h101, h102, h103, h104, h105, _⟩ := unhide X10
          obtain ⟨z100, z101, z102⟩ := sizes_three h100 h104
          go_wp2_with fail
          refine (live_any _).mono ?_
          rintro e w11 ⟨he, hw11⟩
          subst he
          have X11 := hide (keep_three (unhide X10) hw11)
          clear X10 hw11 h100 h101 h102 h103 h104 h105 z100 z101 z102
          obtain ⟨h110, h111, h112, h113, h114, h115, _⟩ := unhide X11
          obtain ⟨z110, z111, z112⟩ := sizes_three h110 h114
          go_wp2_with fail
          refine (fits_any _ _ _ _ _).mono ?_
          rintro e w12 ⟨he, hw12⟩
          rw [unhide H5] at he
          subst he
          have X12 := hide (keep_three (unhide X11) hw12)
          clear X11 hw12 h110 h111 h112 h113 h114 h115 z110 z111 z112
          obtain ⟨h120, h121, h122, h123, h124, h125, _⟩ := unhide X12
          obtain ⟨z120, z121, z122⟩ := sizes_three h120 h124
          go_wp2_with fail
          go_ret
          exact ⟨rfl, (unhide X12).2.2.2.2.2.2⟩
        · have k0 := keep_yes (chkA a0 a1) a0 hP
          have k1 := keep_yes (chkA a0 a1) a1 hP
          have k2 : (chkA a0 a1 != 0) = false := by rw [hP]; rfl
          have k3 : (chkA a0 a1 == 0) = true := by rw [hP]; rfl
          have H5 := hide ((fit_self a0 a1).symm.trans k3)
          have H1 := hide F1
          have H4 := hide (fit_less _ _ _ _ F1)
          have H6 := hide (beq_iff_eq.1 ((sub_fit a0 a1 b0 b1).trans F1))
          have H2 := hide F2
          have H3 := hide (fit_trans _ _ _ _ _ _ F1 F2)
          clear F1 F2 hP
          go_wp2_with fail
          refine (fits_any _ _ _ _ _).mono ?_
          rintro e w6 ⟨he, hw6⟩
          rw [unhide H1] at he
          subst he
          have X6 := hide (keep_threeB (unhide X5) hw6)
          clear X5 hw6 h50 h51 h52 h53 h54 h55 z50 z51 z52
          obtain ⟨h60, h61, h62, h63, h64, h65, _⟩ := unhide X6
          obtain ⟨z60, z61, z62⟩ := sizes_three h60 h64
          go_wp2_with fail
          refine (fits_any _ _ _ _ _).mono ?_
          rintro e w7 ⟨he, hw7⟩
          rw [unhide H2] at he
          subst he
          have X7 := hide (keep_three (unhide X6) hw7)
          clear X6 hw7 h60 h61 h62 h63 h64 h65 z60 z61 z62
          obtain ⟨h70, h71, h72, h73, h74, h75, _⟩ := unhide X7
          obtain ⟨z70, z71, z72⟩ := sizes_three h70 h74
          go_wp2_with fail
          refine (fits_any _ _ _ _ _).mono ?_
          rintro e w8 ⟨he, hw8⟩
          rw [unhide H3] at he
          subst he
          have X8 := hide (keep_three (unhide X7) hw8)
          clear X7 hw8 h70 h71 h72 h73 h74 h75 z70 z71 z72
          obtain ⟨h80, h81, h82, h83, h84, h85, _⟩ := unhide X8
          obtain ⟨z80, z81, z82⟩ := sizes_three h80 h84
          go_wp2_with fail
          refine (sub_any _ _ _ _ _).mono ?_
          rintro e w9 ⟨he, hw9⟩
          rw [unhide H6, keep_yes 0 _ rfl, keep_yes 0 _ rfl] at he
          subst he
          have X9 := hide (keep_three (unhide X8) hw9)
          clear X8 hw9 h80 h81 h82 h83 h84 h85 z80 z81 z82
          obtain ⟨h90, h91, h92, h93, h94, h95, _⟩ := unhide X9
          obtain ⟨z90, z91, z92⟩ := sizes_three h90 h94
          go_wp2_with fail
          refine (fits_any _ _ _ _ _).mono ?_
          rintro e w10 ⟨he, hw10⟩
          rw [unhide H1] at he
          subst he
          have X10 := hide (keep_threeB (unhide X9) hw10)
          obtain ⟨d0, d1⟩ := kept_box hw10
          clear X9 hw10 h90 h91 h92 h93 h94 h95 z90 z91 z92
          obtain ⟨h100, h101, h102, h103, h104, h105, _⟩ := unhide X10
          obtain ⟨z100, z101, z102⟩ := sizes_three h100 h104
          go_wp2_with fail
          refine (fits_any _ _ _ _ _).mono ?_
          rintro e w11 ⟨he, hw11⟩
          rw [unhide H4] at he
          subst he
          have X11 := hide (keep_three (unhide X10) hw11)
          clear X10 hw11 h100 h101 h102 h103 h104 h105 z100 z101 z102
          obtain ⟨h110, h111, h112, h113, h114, h115, _⟩ := unhide X11
          obtain ⟨z110, z111, z112⟩ := sizes_three h110 h114
          go_wp2_with fail
          refine (live_any _).mono ?_
          rintro e w12 ⟨he, hw12⟩
          subst he
          have X12 := hide (keep_three (unhide X11) hw12)
          clear X11 hw12 h110 h111 h112 h113 h114 h115 z110 z111 z112
          obtain ⟨h120, h121, h122, h123, h124, h125, _⟩ := unhide X12
          obtain ⟨z120, z121, z122⟩ := sizes_three h120 h124
          go_wp2_with fail
          refine (fits_any _ _ _ _ _).mono ?_
          rintro e w13 ⟨he, hw13⟩
          rw [unhide H5] at he
          subst he
          have X13 := hide (keep_three (unhide X12) hw13)
          clear X12 hw13 h120 h121 h122 h123 h124 h125 z120 z121 z122
          obtain ⟨h130, h131, h132, h133, h134, h135, _⟩ := unhide X13
          obtain ⟨z130, z131, z132⟩ := sizes_three h130 h134
          go_wp2_with fail
          go_ret
          exact ⟨rfl, (unhide X13).2.2.2.2.2.2⟩
    · have F1 : fitsB a0 a1 b0 b1 = false := by
        unfold fitsB; rw [decide_eq_false_iff_not, chkB_iff]; intro h; exact hP h.1.1
      have k2 : (chkA a0 a1 != 0) = true := bne_iff_ne.2 hP
      have k3 : (chkA a0 a1 == 0) = false := beq_eq_false_iff_ne.2 hP
      have H5 := hide ((fit_self a0 a1).symm.trans k3)
      have H1 := hide F1
      have m1 : (eSub b0 b1 a0 a1 == 0) = false := (sub_fit a0 a1 b0 b1).trans F1
      have m2 : (eSub b0 b1 a0 a1 != 0) = true := by rw [bne, m1]; rfl
      clear F1 hP
      go_wp2_with fail
      refine (fits_any _ _ _ _ _).mono ?_
      rintro e w6 ⟨he, hw6⟩
      rw [unhide H1] at he
      subst he
      have X6 := hide (keep_threeB (unhide X5) hw6)
      clear X5 hw6 h50 h51 h52 h53 h54 h55 z50 z51 z52
      obtain ⟨h60, h61, h62, h63, h64, h65, _⟩ := unhide X6
      obtain ⟨z60, z61, z62⟩ := sizes_three h60 h64
      go_wp2_with fail
      refine (sub_any _ _ _ _ _).mono ?_
      rintro e w7 ⟨he, hw7⟩
      subst he
      have X7 := hide (keep_three (unhide X6) hw7)
      clear X6 hw7 h60 h61 h62 h63 h64 h65 z60 z61 z62
      obtain ⟨h70, h71, h72, h73, h74, h75, _⟩ := unhide X7
      obtain ⟨z70, z71, z72⟩ := sizes_three h70 h74
      go_wp2_with fail
      refine (fits_any _ _ _ _ _).mono ?_
      rintro e w8 ⟨he, hw8⟩
      rw [unhide H1] at he
      subst he
      have X8 := hide (keep_threeB (unhide X7) hw8)
      clear X7 hw8 h70 h71 h72 h73 h74 h75 z70 z71 z72
      obtain ⟨h80, h81, h82, h83, h84, h85, _⟩ := unhide X8
      obtain ⟨z80, z81, z82⟩ := sizes_three h80 h84
      go_wp2_with fail
      refine (live_any _).mono ?_
      rintro e w9 ⟨he, hw9⟩
      subst he
      have X9 := hide (keep_three (unhide X8) hw9)
      clear X8 hw9 h80 h81 h82 h83 h84 h85 z80 z81 z82
      obtain ⟨h90, h91, h92, h93, h94, h95, _⟩ := unhide X9
      obtain ⟨z90, z91, z92⟩ := sizes_three h90 h94
      go_wp2_with fail
      refine (fits_any _ _ _ _ _).mono ?_
      rintro e w10 ⟨he, hw10⟩
      rw [unhide H5] at he
      subst he
      have X10 := hide (keep_three (unhide X9) hw10)
      clear X9 hw10 h90 h91 h92 h93 h94 h95 z90 z91 z92
      obtain ⟨h100, h101, h102, h103, h104, h105, _⟩ := unhide X10
      obtain ⟨z100, z101, z102⟩ := sizes_three h100 h104
      go_wp2_with fail
      go_ret
      exact ⟨rfl, (unhide X10).2.2.2.2.2.2⟩

set_option maxRecDepth 100000 in
theorem lifted (os : Os) (started : os.Started) (H : Type) (enc : TypeId × Value → H) :
    ReturnsInHanded {} Try.checked os 8 .any (Rows.amountBackSpec.pre6 enc Try.prog Try.f8 Rows.amountBackRow.domain false) (Rows.amountBackSpec.post enc Try.prog Try.f8 false true false false) := by
  refine returnsInHanded_of_change (C := Try.checked) own started (by kernel_rfl) Try.func8
    (ChangeSpec.witness6 (enc := enc) (C := Try.checked) false ⟨#[], #[.agg #[.int .i64 0, .int .i64 0], .agg #[.int .i64 0, .int .i64 0], .agg #[.int .i64 0, .int .i64 0]], []⟩ 8 (by kernel_rfl) (by kernel_rfl) (by kernel_rfl) (by kernel_rfl)) ?_
  intro W base args ds gs before hval0 hW hcnd _
  have hval : ∀ (j : Nat) t v, Try.f8.params[j]? = some t → args[j]? = some v → Value.okWide Try.prog W .any base t v := hval0
  have hW' := hW
  obtain ⟨p, q, hA0, hV, rfl, hfz, hnd⟩ := hW
  have hA : DataW.TrodAll enc Try.prog W 0 (fun _ => true) true Try.f8.params.toList args.toList ds p := hA0
  rw [Try.params8] at hA hval
  obtain ⟨v0, vs0, d0, ds0, p0, q0, hargs, rfl, rfl, h0, r0⟩ := trodAll_cons hA
  obtain ⟨v1, vs1, d1, ds1, p1, q1, rfl, rfl, rfl, h1, r1⟩ := trodAll_cons r0
  obtain ⟨v2, vs2, d2, ds2, p2, q2, rfl, rfl, rfl, h2, r2⟩ := trodAll_cons r1
  obtain ⟨rfl, rfl, rfl⟩ := trodAll_nil r2
  obtain rfl : args = #[v0, v1, v2] := by cases args; simp_all
  obtain ⟨rfl, rfl⟩ := trodVars_none hV
  have lt0 := places_lt h0
  obtain ⟨a0, b0, rfl, wa0, wb0⟩ := open_pair (hval 0 26 v0 rfl rfl) h0
  have lt1 := places_lt h1
  obtain ⟨a1, b1, rfl, wa1, wb1⟩ := open_pair (hval 1 26 v1 rfl rfl) h1
  have lt2 := places_lt h2
  obtain ⟨a2, b2, rfl, wa2, wb2⟩ := open_pair (hval 2 26 v2 rfl rfl) h2
  clear hA0 hval0
  refine (walk a0 b0 a1 b1 a2 b2 W wa0 wb0 wa1 wb1 wa2 wb2).mono fun e W' ⟨he, bel⟩ => ?_
  subst he
  exact ⟨_, rfl, _, _, _, [], _, [], hW', trodAll_mk1 (shut_bool Try.underlying4 _), (trodAll_cons_mk (Below.trod laidOut (by kernel_rfl) (of_decide_eq_true (by kernel_rfl)) h0 bel lt0) (trodAll_cons_mk (Below.trod laidOut (by kernel_rfl) (of_decide_eq_true (by kernel_rfl)) h1 bel lt1) (trodAll_cons_mk (Below.trod laidOut (by kernel_rfl) (of_decide_eq_true (by kernel_rfl)) h2 bel lt2) trodAll_mk0))), rfl, bel.frame _, fun h => by cases h⟩

theorem proved : Rows.AmountBackSaid :=
  OpenClaim.holds_of_wide 8 Try.f8 rfl rfl rfl rfl rfl rfl rfl ⟨rfl, rfl, rfl, rfl, rfl⟩ rfl rfl rfl rfl rfl (by kernel_rfl) Try.func8 (by kernel_rfl)
    (of_decide_eq_true (by kernel_rfl)) (by unfold Func.isWrapper; first | (rw [if_pos (by decide +kernel)]; kernel_rfl) | (rw [if_neg (by decide +kernel)]; exact ⟨rfl, rfl⟩))
    (fun os started H enc _ => lifted os started H enc)
end Go.Proofs.Ytkippgdboodlfaa.amountBack
namespace Go.Proofs.Ytkippgdboodlfaa
theorem amountBack_holds : Rows.AmountBackSaid := amountBack.proved
#print axioms amountBack_holds
end Go.Proofs.Ytkippgdboodlfaa
