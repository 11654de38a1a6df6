/- Layer 8: live: true -/
import Derived.Test.YthaldbjnnbllbaaGreatDoorO8RG
import Derived.Lib.LaidTab
import Derived.Lay
import Derived.Stop.Joined
import Derived.MakeChecks
import Derived.Stop.LaidErr
namespace Go.Proofs.YthaldbjnnbllbaaGreatDoor
open Go.RowKit Suf Val

theorem short8 (t : Txt) (h : t.length ≤ 64) : short t := by show t.length ≤ _; omega
theorem podin_live (V : World) (p : VPod) (h1 : p.name.length ≤ 64) (h2 : p.app.length ≤ 64) (h3 : p.on.length ≤ 64) (e1 : p.reqs = []) (e2 : p.tols = []) (e4 : p.near = []) (e5 : p.apart = []) {u3 : Value} (h : Lst sprK V u3 p.spread) : PodIn V p (.slice none 0 0) (.slice none 0 0) u3 (.slice none 0 0) (.slice none 0 0) :=
  ⟨short8 _ h1, short8 _ h2, short8 _ h3, by rw [e1]; exact lst_reqs (lst_nil _ _ 0) (Nat.zero_le _), by rw [e2]; exact lst_tols (lst_nil _ _ 0) (Nat.zero_le _), h, by rw [e4]; exact lst_nil _ _ 0, by rw [e5]; exact lst_nil _ _ 0⟩
theorem spread1 {V : World} {B : Nat} (k a : Txt) (n : Int) (hk : short k) (ha : short a) (h0 : V.cell? ⟨B, 0, none⟩ = some (.string (bytesT k))) (h1 : V.cell? ⟨B, 1, none⟩ = some (.string (bytesT a))) (h2 : V.cell? ⟨B, 2, none⟩ = some (.int .i64 n)) : Lst sprK V (.slice (some ⟨B, 0, none⟩) 1 1) [(k, a, n)] :=
  ⟨_, _, rfl, fun j hj => ⟨B, 0, rfl, by
    match j, hj with
    | 0, _ => exact spr_at.2 ⟨⟨by simpa using h0, hk⟩, ⟨by simpa using h1, ha⟩, by simpa using h2⟩⟩, by simp, by simp⟩
theorem live_p : podR ⟨[120], [119, 101, 98], (500, 1073741824), 0, [], [], [], [], [], 0, []⟩ = 0 := by decide +kernel
theorem live_q : podR ⟨[88], [119, 101, 98], (500, 1073741824), 0, [], [], [], [], [], 0, []⟩ = 7 := by decide +kernel
theorem live_r : podR ⟨[120], [119, 101, 98], (500, 1073741824), 0, [], [], [([114, 97, 99, 107], [119, 101, 98], 1)], [], [], 0, []⟩ = 1 := by decide +kernel
theorem live_c : coolR [(([115], [97], [115, 112, 111, 116]), 0)] = 0 := by decide +kernel
theorem call_p (w V : World) (hL : Laid w) (hb : Below w.heap.size w V) : Calls Tryz.prog 12 #[.agg #[.string ⟨#[120]⟩, .string ⟨#[119, 101, 98]⟩, .int .i64 500, .int .i64 1073741824, .int .i64 0, .slice none 0 0, .slice none 0 0, .slice none 0 0, .slice none 0 0, .slice none 0 0, .int .i64 0, .string ⟨#[]⟩]] V fun e w' => e = .returned (.int .i64 0) ∧ Below V.heap.size V w' := by
  have := ppod_any ⟨[120], [119, 101, 98], (500, 1073741824), 0, [], [], [], [], [], 0, []⟩ _ _ _ _ _ V (hL.below hb) (podin_live V _ (by decide) (by decide) (by decide) rfl rfl rfl rfl (lst_nil _ _ 0))
  rw [live_p] at this
  exact this
theorem call_q (w V : World) (hL : Laid w) (hb : Below w.heap.size w V) : Calls Tryz.prog 12 #[.agg #[.string ⟨#[88]⟩, .string ⟨#[119, 101, 98]⟩, .int .i64 500, .int .i64 1073741824, .int .i64 0, .slice none 0 0, .slice none 0 0, .slice none 0 0, .slice none 0 0, .slice none 0 0, .int .i64 0, .string ⟨#[]⟩]] V fun e w' => e = .returned (.int .i64 7) ∧ Below V.heap.size V w' := by
  have := ppod_any ⟨[88], [119, 101, 98], (500, 1073741824), 0, [], [], [], [], [], 0, []⟩ _ _ _ _ _ V (hL.below hb) (podin_live V _ (by decide) (by decide) (by decide) rfl rfl rfl rfl (lst_nil _ _ 0))
  rw [live_q] at this
  exact this
theorem call_r (w V : World) (hL : Laid w) (hb : Below w.heap.size w V) (h0 : V.cell? ⟨w.heap.size + 3, 0, none⟩ = some (.string ⟨#[114, 97, 99, 107]⟩)) (h1 : V.cell? ⟨w.heap.size + 3, 1, none⟩ = some (.string ⟨#[119, 101, 98]⟩)) (h2 : V.cell? ⟨w.heap.size + 3, 2, none⟩ = some (.int .i64 1)) : Calls Tryz.prog 12 #[.agg #[.string ⟨#[120]⟩, .string ⟨#[119, 101, 98]⟩, .int .i64 500, .int .i64 1073741824, .int .i64 0, .slice none 0 0, .slice none 0 0, .slice (some ⟨w.heap.size + 3, 0, none⟩) 1 1, .slice none 0 0, .slice none 0 0, .int .i64 0, .string ⟨#[]⟩]] V fun e w' => e = .returned (.int .i64 1) ∧ Below V.heap.size V w' := by
  have hl := spread1 [114, 97, 99, 107] [119, 101, 98] 1 (short8 _ (by decide)) (short8 _ (by decide)) h0 h1 h2
  have := ppod_any ⟨[120], [119, 101, 98], (500, 1073741824), 0, [], [], [([114, 97, 99, 107], [119, 101, 98], 1)], [], [], 0, []⟩ _ _ _ _ _ V (hL.below hb) (podin_live V _ (by decide) (by decide) (by decide) rfl rfl rfl rfl hl)
  rw [live_r] at this
  exact this
theorem call_n (V : World) : Calls Tryz.prog 7 #[.iface 42 (.agg #[.string ⟨#[115]⟩, .string ⟨#[97]⟩, .string ⟨#[115, 112, 111, 116]⟩, .int .i64 0])] V fun e w' => e = .returned (.tuple #[.string ⟨#[115, 47, 97, 47, 115, 112, 111, 116]⟩, .int .i64 0]) ∧ Below V.heap.size V w' := by
  have := nm8_of _ _ _ V (told_cool (([115], [97], [115, 112, 111, 116]), 0) V ⟨short8 _ (by decide), short8 _ (by decide), short8 _ (by decide)⟩)
  rw [live_c, if_pos rfl] at this
  exact this
theorem call_5 (V : World) : Calls Tryz.prog 10 #[.iface 3 (.int .i64 5)] V fun e w' => e = .returned (.int .i64 1) ∧ Below V.heap.size V w' :=
  chk8_of _ _ _ V ((told_int 5 V).mono fun e w' h => ⟨h.1, by rw [h.2]; exact Below.refl _ _⟩)
theorem call_0 (V : World) : Calls Tryz.prog 10 #[.nilIface] V fun e w' => e = .returned (.int .i64 1) ∧ Below V.heap.size V w' :=
  chk8_of _ _ _ V ((told_nil V).mono fun e w' h => ⟨h.1, by rw [h.2]; exact Below.refl _ _⟩)
set_option maxRecDepth 100000 in
set_option maxHeartbeats 32000000 in
theorem live8_any (w : World) (hL : Laid w) : Calls Tryz.prog 6 #[] w fun e w' => e = .returned (.bool true) ∧ Below w.heap.size w w' := by
  have kp := hide (fun V => call_p w V hL)
  have kq := hide (fun V => call_q w V hL)
  have kr := hide (fun V => call_r w V hL)
  have kn := hide call_n
  have k5 := hide call_5
  have k0 := hide call_0
  clear hL
  go_enter Tryz.func6, Tryz.ntmps6
  go_wp2_with fail
  refine (unhide kn _).mono ?_
  rintro e w9 ⟨rfl, hw9⟩
  have HH := hide (HeldS.below (W0 := w) (cs := [(⟨w.heap.size, 0, none⟩, .string ⟨#[120]⟩), (⟨w.heap.size, 1, none⟩, .string ⟨#[119, 101, 98]⟩), (⟨w.heap.size, 2, none⟩, .int .i64 500), (⟨w.heap.size, 3, none⟩, .int .i64 1073741824), (⟨w.heap.size, 4, none⟩, .int .i64 0), (⟨w.heap.size, 5, none⟩, .slice none 0 0), (⟨w.heap.size, 6, none⟩, .slice none 0 0), (⟨w.heap.size, 7, none⟩, .slice none 0 0), (⟨w.heap.size, 8, none⟩, .slice none 0 0), (⟨w.heap.size, 9, none⟩, .slice none 0 0), (⟨w.heap.size, 10, none⟩, .int .i64 0), (⟨w.heap.size, 11, none⟩, .string ⟨#[]⟩), (⟨w.heap.size + 1, 0, none⟩, .string ⟨#[88]⟩), (⟨w.heap.size + 1, 1, none⟩, .string ⟨#[119, 101, 98]⟩), (⟨w.heap.size + 1, 2, none⟩, .int .i64 500), (⟨w.heap.size + 1, 3, none⟩, .int .i64 1073741824), (⟨w.heap.size + 1, 4, none⟩, .int .i64 0), (⟨w.heap.size + 1, 5, none⟩, .slice none 0 0), (⟨w.heap.size + 1, 6, none⟩, .slice none 0 0), (⟨w.heap.size + 1, 7, none⟩, .slice none 0 0), (⟨w.heap.size + 1, 8, none⟩, .slice none 0 0), (⟨w.heap.size + 1, 9, none⟩, .slice none 0 0), (⟨w.heap.size + 1, 10, none⟩, .int .i64 0), (⟨w.heap.size + 1, 11, none⟩, .string ⟨#[]⟩), (⟨w.heap.size + 2, 0, none⟩, .string ⟨#[120]⟩), (⟨w.heap.size + 2, 1, none⟩, .string ⟨#[119, 101, 98]⟩), (⟨w.heap.size + 2, 2, none⟩, .int .i64 500), (⟨w.heap.size + 2, 3, none⟩, .int .i64 1073741824), (⟨w.heap.size + 2, 4, none⟩, .int .i64 0), (⟨w.heap.size + 2, 5, none⟩, .slice none 0 0), (⟨w.heap.size + 2, 6, none⟩, .slice none 0 0), (⟨w.heap.size + 2, 7, none⟩, .slice (some ⟨w.heap.size + 3, 0, none⟩) 1 1), (⟨w.heap.size + 2, 8, none⟩, .slice none 0 0), (⟨w.heap.size + 2, 9, none⟩, .slice none 0 0), (⟨w.heap.size + 2, 10, none⟩, .int .i64 0), (⟨w.heap.size + 2, 11, none⟩, .string ⟨#[]⟩), (⟨w.heap.size + 3, 0, none⟩, .string ⟨#[114, 97, 99, 107]⟩), (⟨w.heap.size + 3, 1, none⟩, .string ⟨#[119, 101, 98]⟩), (⟨w.heap.size + 3, 2, none⟩, .int .i64 1)]) ⟨by repeat (first | exact Below.refl _ _ | refine Below.alloc ?_ (by simp <;> omega) _ | refine Below.setCell ?_ (by simp <;> omega) _), fun x hx => by
    simp only [List.mem_cons, List.not_mem_nil, or_false] at hx
    rcases hx with rfl | rfl | rfl | rfl | rfl | rfl | rfl | rfl | rfl | rfl | rfl | rfl | rfl | rfl | rfl | rfl | rfl | rfl | rfl | rfl | rfl | rfl | rfl | rfl | rfl | rfl | rfl | rfl | rfl | rfl | rfl | rfl | rfl | rfl | rfl | rfl | rfl | rfl | rfl <;> simp [go_sem]⟩ hw9)
  clear hw9
  have f0 := (unhide HH).at 0 rfl
  have f1 := (unhide HH).at 1 rfl
  have f2 := (unhide HH).at 2 rfl
  have f3 := (unhide HH).at 3 rfl
  have f4 := (unhide HH).at 4 rfl
  have f5 := (unhide HH).at 5 rfl
  have f6 := (unhide HH).at 6 rfl
  have f7 := (unhide HH).at 7 rfl
  have f8 := (unhide HH).at 8 rfl
  have f9 := (unhide HH).at 9 rfl
  have f10 := (unhide HH).at 10 rfl
  have f11 := (unhide HH).at 11 rfl
  go_wp2_with fail
  clear f0 f1 f2 f3 f4 f5 f6 f7 f8 f9 f10 f11
  refine (unhide kp _ (unhide HH).gr).mono ?_
  rintro e w9 ⟨rfl, hw9⟩
  replace HH := hide ((unhide HH).below hw9)
  clear hw9
  have f0 := (unhide HH).at 12 rfl
  have f1 := (unhide HH).at 13 rfl
  have f2 := (unhide HH).at 14 rfl
  have f3 := (unhide HH).at 15 rfl
  have f4 := (unhide HH).at 16 rfl
  have f5 := (unhide HH).at 17 rfl
  have f6 := (unhide HH).at 18 rfl
  have f7 := (unhide HH).at 19 rfl
  have f8 := (unhide HH).at 20 rfl
  have f9 := (unhide HH).at 21 rfl
  have f10 := (unhide HH).at 22 rfl
  have f11 := (unhide HH).at 23 rfl
  go_wp2_with fail
  clear f0 f1 f2 f3 f4 f5 f6 f7 f8 f9 f10 f11
  refine (unhide kq _ (unhide HH).gr).mono ?_
  rintro e w9 ⟨rfl, hw9⟩
  replace HH := hide ((unhide HH).below hw9)
  clear hw9
  have f0 := (unhide HH).at 24 rfl
  have f1 := (unhide HH).at 25 rfl
  have f2 := (unhide HH).at 26 rfl
  have f3 := (unhide HH).at 27 rfl
  have f4 := (unhide HH).at 28 rfl
  have f5 := (unhide HH).at 29 rfl
  have f6 := (unhide HH).at 30 rfl
  have f7 := (unhide HH).at 31 rfl
  have f8 := (unhide HH).at 32 rfl
  have f9 := (unhide HH).at 33 rfl
  have f10 := (unhide HH).at 34 rfl
  have f11 := (unhide HH).at 35 rfl
  go_wp2_with fail
  clear f0 f1 f2 f3 f4 f5 f6 f7 f8 f9 f10 f11
  refine (unhide kr _ (unhide HH).gr ((unhide HH).at 36 rfl) ((unhide HH).at 37 rfl) ((unhide HH).at 38 rfl)).mono ?_
  rintro e w9 ⟨rfl, hw9⟩
  replace HH := hide ((unhide HH).below hw9)
  clear hw9
  go_wp2_with fail
  refine (unhide k5 _).mono ?_
  rintro e w9 ⟨rfl, hw9⟩
  replace HH := hide ((unhide HH).below hw9)
  clear hw9
  go_wp2_with fail
  refine (unhide k0 _).mono ?_
  rintro e w9 ⟨rfl, hw9⟩
  replace HH := hide ((unhide HH).below hw9)
  clear hw9
  go_wp2_with fail
  go_ret
  exact ⟨rfl, (unhide HH).gr⟩
end Go.Proofs.YthaldbjnnbllbaaGreatDoor

/- Layer 8: what the listed variables hold, out of the row's condition. -/
namespace Go.Proofs.YthaldbjnnbllbaaGreatDoor
open Go.ChangeShapes Go.WideShapes Go.ChangeAt Go.RowKit Suf Val

theorem tPow : (Tryz.prog.globals[3]?).map (·.type) = some 180 := by kernel_rfl
theorem Tryz.cells151 : Tryz.prog.cellsOf 151 = 1 := by kernel_rfl
theorem Tryz.cells180 : Tryz.prog.cellsOf 180 = 20 := by kernel_rfl
theorem Tryz.cells9 : Tryz.prog.cellsOf 9 = 1 := by kernel_rfl
theorem Tryz.cells177 : Tryz.prog.cellsOf 177 = 1 := by kernel_rfl
theorem gRange : Tryz.prog.globalNamed "strconv.ErrRange" = some 2 := by kernel_rfl
theorem gSyntax : Tryz.prog.globalNamed "strconv.ErrSyntax" = some 1 := by kernel_rfl
theorem tRange : (Tryz.prog.globals[2]?).map (·.type) = some 126 := by kernel_rfl
theorem tSyntax : (Tryz.prog.globals[1]?).map (·.type) = some 126 := by kernel_rfl
theorem star : "*" ++ "errors.errorString" = "*errors.errorString" := by decide
theorem rowErr (u : TypeId) (h : Tryz.prog.typeName? 3 u = some "*errors.errorString") : u = 175 :=
  typeName_ptr_named (nm := "errors.errorString") (by rw [star]; kernel_rfl) (by kernel_rfl) (by decide) u (by rw [star]; exact h)

/-- The list that all rows of this layer bear. -/
abbrev laidL : List (String × DataW Unit) := [("math/bits.deBruijn32tab", Rows.laid_math_bits_deBruijn32tab), ("math/bits.deBruijn64tab", Rows.laid_math_bits_deBruijn64tab), ("internal/strconv.uint64pow10", Rows.laid_internal_strconv_uint64pow10), ("strconv.ErrRange", Rows.laid_strconv_ErrRange), ("strconv.ErrSyntax", Rows.laid_strconv_ErrSyntax)]
theorem pow_tab : (Rows.laid_internal_strconv_uint64pow10 : DataW Unit) = Lib.tabData .u64 Lib.pow10Tab := by kernel_rfl
theorem var_cell {W : World} {n : String} {g : Nat} {v : Value} (hg : Tryz.prog.globalNamed n = some g) (h : W.var? Tryz.prog n = some #[v]) : W.cell? ⟨g, 0, none⟩ = some v := by
  simpa using World.var?_cell hg h 0
set_option maxRecDepth 20000 in
theorem of_laid {W : World} (h : laidMetH Tryz.prog laidL W) : Laid W := by
  rw [MakeChecks.laidMetH_plain _ _ _ (by kernel_rfl)] at h
  have h3 := laidMet.tail (laidMet.tail h)
  have hR := laidMet.tail h3
  have hS := laidMet.tail hR
  refine ⟨?_, ?_, ?_⟩
  · obtain ⟨a, s, hv, _⟩ := laid_sentinel hS gSyntax tSyntax Tryz.underlying126 rowErr Tryz.underlying175 Tryz.underlying177 rfl rfl Tryz.underlying9 Tryz.cells177 Tryz.cells9
    exact ⟨_, var_cell gSyntax hv, Or.inr ⟨_, _, rfl⟩⟩
  · obtain ⟨a, s, hv, _⟩ := laid_sentinel hR gRange tRange Tryz.underlying126 rowErr Tryz.underlying175 Tryz.underlying177 rfl rfl Tryz.underlying9 Tryz.cells177 Tryz.cells9
    exact ⟨_, var_cell gRange hv, Or.inr ⟨_, _, rfl⟩⟩
  · rw [pow_tab] at h3
    exact Lib.tabIs_of_head gPow tPow Tryz.underlying180 Tryz.underlying151 Tryz.cells151 Tryz.cells180 h3

end Go.Proofs.YthaldbjnnbllbaaGreatDoor
