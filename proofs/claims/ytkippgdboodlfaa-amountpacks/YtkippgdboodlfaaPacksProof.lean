/- Proved: AmountPacks returns true for every input. No condition. -/
import Derived.Test.YtkippgdboodlfaaAmtW
namespace Go.Proofs.Ytkippgdboodlfaa.amountPacks
open Go.ChangeShapes Go.WideShapes Go.ChangeAt Go.RowKit

attribute [local go_sem] eq2
attribute [local go_sem] eq14

theorem Try.cells37 : Try.prog.cellsOf 37 = 14 := by kernel_rfl
/-- An argument of fourteen bytes. -/
theorem open_14 {H : Type} {enc : TypeId × Value → H} {W : World} {r : Reach} {base b0 : Nat} {spare : Nat → Bool} {held : Bool} {v : Value} {d : DataW H} {p : List MemPlace}
    (hv : Value.okWide Try.prog W r b0 37 v) (h : DataW.Trod enc Try.prog W base spare held 37 v d p) :
    ∃ f : Nat → Int, v = arr14 f ∧ ∀ j, j < 14 → 0 ≤ f j ∧ f j < 256 := by
  simp only [Value.okWide, Try.underlying37] at hv
  obtain ⟨cs, rfl, hsz, _⟩ := hv
  rw [Try.cells37] at hsz
  obtain ⟨fuel, hf⟩ := h
  obtain ⟨xs, m, _, _, _, hl, hx⟩ := DataW.trod_array Try.underlying37 hf
  have each : ∀ j, j < 14 → ∃ n : Int, cs[j]? = some (.int .u8 n) ∧ 0 ≤ n ∧ n < 256 := by
    intro j hj
    have e := hx j hj
    rw [Try.cells5, Nat.mul_one] at e
    obtain ⟨y, hy⟩ : ∃ y, xs[j]? = some y := ⟨xs[j], List.getElem?_eq_getElem (by omega)⟩
    rw [hy] at e
    obtain ⟨n, hn, _, wn⟩ := DataW.trod_int Try.underlying5 e
    refine ⟨n, ?_, ?_⟩
    · have hj2 : j < cs.toList.length := by simp; omega
      have : (cs.toList.drop j).take 1 = [cs.toList[j]] := by
        rw [List.drop_eq_getElem_cons hj2]; rfl
      simp only [Value.cells] at hn
      rw [this] at hn
      injection hn with hn1 _
      rw [← hn1]
      simp at hj2
      simp [hj2]
    · simp [Lit.wf, IntKind.min, IntKind.max, IntKind.signed, IntKind.bits] at wn
      omega
  refine ⟨fun j => intOf (cs[j]?.getD undef), ?_, ?_⟩
  · obtain ⟨l⟩ := cs
    match l, hsz with
    | [x0, x1, x2, x3, x4, x5, x6, x7, x8, x9, x10, x11, x12, x13], _ =>
      obtain ⟨n0, q0, _⟩ := each 0 (by omega)
      replace q0 : x0 = .int .u8 n0 := Option.some.inj q0
      obtain ⟨n1, q1, _⟩ := each 1 (by omega)
      replace q1 : x1 = .int .u8 n1 := Option.some.inj q1
      obtain ⟨n2, q2, _⟩ := each 2 (by omega)
      replace q2 : x2 = .int .u8 n2 := Option.some.inj q2
      obtain ⟨n3, q3, _⟩ := each 3 (by omega)
      replace q3 : x3 = .int .u8 n3 := Option.some.inj q3
      obtain ⟨n4, q4, _⟩ := each 4 (by omega)
      replace q4 : x4 = .int .u8 n4 := Option.some.inj q4
      obtain ⟨n5, q5, _⟩ := each 5 (by omega)
      replace q5 : x5 = .int .u8 n5 := Option.some.inj q5
      obtain ⟨n6, q6, _⟩ := each 6 (by omega)
      replace q6 : x6 = .int .u8 n6 := Option.some.inj q6
      obtain ⟨n7, q7, _⟩ := each 7 (by omega)
      replace q7 : x7 = .int .u8 n7 := Option.some.inj q7
      obtain ⟨n8, q8, _⟩ := each 8 (by omega)
      replace q8 : x8 = .int .u8 n8 := Option.some.inj q8
      obtain ⟨n9, q9, _⟩ := each 9 (by omega)
      replace q9 : x9 = .int .u8 n9 := Option.some.inj q9
      obtain ⟨n10, q10, _⟩ := each 10 (by omega)
      replace q10 : x10 = .int .u8 n10 := Option.some.inj q10
      obtain ⟨n11, q11, _⟩ := each 11 (by omega)
      replace q11 : x11 = .int .u8 n11 := Option.some.inj q11
      obtain ⟨n12, q12, _⟩ := each 12 (by omega)
      replace q12 : x12 = .int .u8 n12 := Option.some.inj q12
      obtain ⟨n13, q13, _⟩ := each 13 (by omega)
      replace q13 : x13 = .int .u8 n13 := Option.some.inj q13
      subst q0 q1 q2 q3 q4 q5 q6 q7 q8 q9 q10 q11 q12 q13
      rfl
  · intro j hj
    obtain ⟨n, q, r⟩ := each j hj
    show 0 ≤ intOf (cs[j]?.getD undef) ∧ intOf (cs[j]?.getD undef) < 256
    rw [q]
    exact r

section
variable {V V' : World} {o : Obj} {B : Nat} {f : Nat → Int}
theorem kept14 (h : Below V.heap.size V V') (hc : ∀ j, j < 14 → V.cell? ⟨B, j, none⟩ = some (.int .u8 (f j))) : ∀ j, j < 14 → V'.cell? ⟨B, j, none⟩ = some (.int .u8 (f j)) :=
  fun j hj => cell_kept h (hc j hj)
theorem kept14B (h : Below (V.alloc o).heap.size (V.alloc o) V') (hc : ∀ j, j < 14 → V.cell? ⟨B, j, none⟩ = some (.int .u8 (f j))) : ∀ j, j < 14 → V'.cell? ⟨B, j, none⟩ = some (.int .u8 (f j)) :=
  fun j hj => kept1 h (hc j hj)
theorem new14 {t : TypeId} : ∀ j, j < 14 → (V.alloc (.cells #[.int .u8 (f 0), .int .u8 (f 1), .int .u8 (f 2), .int .u8 (f 3), .int .u8 (f 4), .int .u8 (f 5), .int .u8 (f 6), .int .u8 (f 7), .int .u8 (f 8), .int .u8 (f 9), .int .u8 (f 10), .int .u8 (f 11), .int .u8 (f 12), .int .u8 (f 13)] t)).cell? ⟨V.heap.size, j, none⟩ = some (.int .u8 (f j)) := by
  intro j hj
  match j, hj with
  | 0, _ | 1, _ | 2, _ | 3, _ | 4, _ | 5, _ | 6, _ | 7, _ | 8, _ | 9, _ | 10, _ | 11, _ | 12, _ | 13, _ => simp [go_sem]
theorem new14' {t : TypeId} (h : Below (V.alloc (.cells #[.int .u8 (f 0), .int .u8 (f 1), .int .u8 (f 2), .int .u8 (f 3), .int .u8 (f 4), .int .u8 (f 5), .int .u8 (f 6), .int .u8 (f 7), .int .u8 (f 8), .int .u8 (f 9), .int .u8 (f 10), .int .u8 (f 11), .int .u8 (f 12), .int .u8 (f 13)] t)).heap.size (V.alloc (.cells #[.int .u8 (f 0), .int .u8 (f 1), .int .u8 (f 2), .int .u8 (f 3), .int .u8 (f 4), .int .u8 (f 5), .int .u8 (f 6), .int .u8 (f 7), .int .u8 (f 8), .int .u8 (f 9), .int .u8 (f 10), .int .u8 (f 11), .int .u8 (f 12), .int .u8 (f 13)] t)) V') :
    ∀ j, j < 14 → V'.cell? ⟨V.heap.size, j, none⟩ = some (.int .u8 (f j)) := kept14 h new14
theorem size14 (hc : ∀ j, j < 14 → V.cell? ⟨B, j, none⟩ = some (.int .u8 (f j))) : B < V.heap.size := World.block_lt_of_cell? _ _ (hc 0 (by omega))
end

set_option maxRecDepth 100000 in
set_option maxHeartbeats 2000000 in
theorem walk (a b : Int) (f : Nat → Int) (w : World) (_ : (Lit.int .i64 a).wf = true) (_ : (Lit.int .i64 b).wf = true) (hf : ∀ j, j < 14 → 0 ≤ f j ∧ f j < 256) :
    Calls Try.prog 7 #[.agg #[.int .i64 a, .int .i64 b], arr14 f] w fun e w' => e = .returned (.bool true) ∧ Below w.heap.size w w' := by
  have HF := hide hf
  clear hf
  obtain ⟨g, hg⟩ : ∃ g : Nat → Int, g = fun j => keep (chkA a b) (pbs a b j) := ⟨_, rfl⟩
  have HG := hide hg
  clear hg
  go_enter Try.func7, Try.ntmps7
  go_wp2_with fail
  refine (pack_any _ _ _).mono ?_
  rintro e w1 ⟨he, hw1⟩
  rw [← unhide HG] at he
  subst he
  have a1 := cell_kept hw1 (p := ⟨w.heap.size, 0, none⟩) (v := .int .i64 a) (by simp [go_sem])
  have b1 := cell_kept hw1 (p := ⟨w.heap.size, 1, none⟩) (v := .int .i64 b) (by simp [go_sem])
  have f1 : ∀ j, j < 14 → w1.cell? ⟨w.heap.size + 1, j, none⟩ = some (.int .u8 (f j)) := by have := new14' hw1; rwa [World.size_alloc] at this
  have L1 := hide (below2 hw1)
  have z1 := size_le (unhide L1)
  have q1 : w.heap.size < w1.heap.size := World.block_lt_of_cell? _ _ a1
  have r1 := size14 f1
  clear hw1
  go_wp2_with fail
  refine (rpack_any _ _ _).mono ?_
  rintro e w2 ⟨he, hw2⟩
  rw [← unhide HG] at he
  subst he
  have f2 := kept14B hw2 f1
  have x2 := new14' hw2
  have L2 := hide (below_box (unhide L1) z1 hw2)
  have z2 := size_le (unhide L2)
  have r2 := size14 f2
  clear hw2 f1 a1 b1 L1 q1 r1
  go_wp2_with fail
  refine (unpack_any f _ (unhide HF)).mono ?_
  rintro e w3 ⟨rfl, hw3⟩
  have f3 := kept14B hw3 f2
  have x3 := kept14B hw3 x2
  have y3 := new14' hw3
  have L3 := hide (below_box (unhide L2) z2 hw3)
  have z3 := size_le (unhide L3)
  have r3 := size14 f3
  clear hw3 f2 x2 L2 r2
  go_wp2_with fail
  refine (runpack_any f _ (unhide HF)).mono ?_
  rintro e w4 ⟨rfl, hw4⟩
  have x4 := kept14B hw4 x3
  have y4 := kept14B hw4 y3
  obtain ⟨s4, t4⟩ := kept_box hw4
  have L4 := hide (below_box (unhide L3) z3 hw4)
  have z4 := size_le (unhide L4)
  clear hw4 f3 x3 y3 L3 r3
  go_wp2_with fail
  refine (live_any _).mono ?_
  rintro e w5 ⟨rfl, hw5⟩
  have x5 := kept14B hw5 x4
  have y5 := kept14B hw5 y4
  have s5 := kept1 hw5 s4
  have t5 := kept1 hw5 t4
  obtain ⟨u5, v5⟩ := kept_box hw5
  have L5 := hide (below_box (unhide L4) z4 hw5)
  clear hw5 x4 y4 s4 t4 L4
  go_wp2_with fail
  go_ret
  exact ⟨by simp, unhide L5⟩

set_option maxRecDepth 100000 in
theorem lifted (os : Os) (started : os.Started) (H : Type) (enc : TypeId × Value → H) :
    ReturnsInHanded {} Try.checked os 7 .any (Rows.amountPacksSpec.pre6 enc Try.prog Try.f7 Rows.amountPacksRow.domain false) (Rows.amountPacksSpec.post enc Try.prog Try.f7 false true false false) := by
  refine returnsInHanded_of_change (C := Try.checked) own started (by kernel_rfl) Try.func7
    (ChangeSpec.witness6 (enc := enc) (C := Try.checked) false ⟨#[], #[.agg #[.int .i64 0, .int .i64 0], .agg #[.int .u8 0, .int .u8 0, .int .u8 0, .int .u8 0, .int .u8 0, .int .u8 0, .int .u8 0, .int .u8 0, .int .u8 0, .int .u8 0, .int .u8 0, .int .u8 0, .int .u8 0, .int .u8 0]], []⟩ 8 (by kernel_rfl) (by kernel_rfl) (by kernel_rfl) (by kernel_rfl)) ?_
  intro W base args ds gs before hval0 hW hcnd _
  have hval : ∀ (j : Nat) t v, Try.f7.params[j]? = some t → args[j]? = some v → Value.okWide Try.prog W .any base t v := hval0
  have hW' := hW
  obtain ⟨p, q, hA0, hV, rfl, hfz, hnd⟩ := hW
  have hA : DataW.TrodAll enc Try.prog W 0 (fun _ => true) true Try.f7.params.toList args.toList ds p := hA0
  rw [Try.params7] at hA hval
  obtain ⟨v0, vs0, d0, ds0, p0, q0, hargs, rfl, rfl, h0, r0⟩ := trodAll_cons hA
  obtain ⟨v1, vs1, d1, ds1, p1, q1, rfl, rfl, rfl, h1, r1⟩ := trodAll_cons r0
  obtain ⟨rfl, rfl, rfl⟩ := trodAll_nil r1
  obtain rfl : args = #[v0, v1] := by cases args; simp_all
  obtain ⟨rfl, rfl⟩ := trodVars_none hV
  have lt0 := places_lt h0
  obtain ⟨a0, b0, rfl, wa0, wb0⟩ := open_pair (hval 0 26 v0 rfl rfl) h0
  have lt1 := places_lt h1
  obtain ⟨f1, rfl, wf1⟩ := open_14 (hval 1 37 v1 rfl rfl) h1
  clear hA0 hval0
  refine (walk a0 b0 f1 W wa0 wb0 wf1).mono fun e W' ⟨he, bel⟩ => ?_
  subst he
  exact ⟨_, rfl, _, _, _, [], _, [], hW', trodAll_mk1 (shut_bool Try.underlying4 _), (trodAll_cons_mk (Below.trod laidOut (by kernel_rfl) (of_decide_eq_true (by kernel_rfl)) h0 bel lt0) (trodAll_cons_mk (Below.trod laidOut (by kernel_rfl) (of_decide_eq_true (by kernel_rfl)) h1 bel lt1) trodAll_mk0)), rfl, bel.frame _, fun h => by cases h⟩

theorem proved : Rows.AmountPacksSaid :=
  OpenClaim.holds_of_wide 7 Try.f7 rfl rfl rfl rfl rfl rfl rfl ⟨rfl, rfl, rfl, rfl, rfl⟩ rfl rfl rfl rfl rfl (by kernel_rfl) Try.func7 (by kernel_rfl)
    (of_decide_eq_true (by kernel_rfl)) (by unfold Func.isWrapper; first | (rw [if_pos (by decide +kernel)]; kernel_rfl) | (rw [if_neg (by decide +kernel)]; exact ⟨rfl, rfl⟩))
    (fun os started H enc _ => lifted os started H enc)
end Go.Proofs.Ytkippgdboodlfaa.amountPacks
namespace Go.Proofs.Ytkippgdboodlfaa
theorem amountPacks_holds : Rows.AmountPacksSaid := amountPacks.proved
#print axioms amountPacks_holds
end Go.Proofs.Ytkippgdboodlfaa
