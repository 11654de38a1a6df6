/- Layer 2: what a few calls answer ('live'); what the listed variables hold, out of the row's condition. -/
import Derived.Test.YtfpbmclahihlkaaDoorSufK
import Derived.Lib.LaidTab
import Derived.Lay
import Derived.Stop.Joined
import Derived.MakeChecks
import Derived.Stop.LaidErr
namespace Go.Proofs.YtfpbmclahihlkaaDoor
open Go.ChangeShapes Go.WideShapes Go.ChangeAt Go.RowKit Suf

set_option maxHeartbeats 1000000 in
theorem live_any (w : World) (hL : Laid w) : Calls Tryd.prog 12 #[] w fun e w' => e = .returned (.bool true) ∧ Below w.heap.size w w' := by
  have HL := hide hL
  clear hL
  have e1 := hide (show pCPU [49, 53, 48, 48, 109] = (1500, 0) by decide)
  have e2 := hide (show pBytes [52, 71, 105] = (4294967296, 0) by decide)
  have e3 := hide (show pMoney [48, 46, 48, 48, 48, 48, 52, 48] = (40, 0) by decide)
  have e4 := hide (show prOut prCPU 2000 = ⟨#[50]⟩ by decide)
  have e5 := hide (show prOut prBytes 1049600 = ⟨#[49, 48, 50, 53, 75, 105]⟩ by decide)
  have e6 := hide (show prOut prMoney 1500000 = ⟨#[49, 46, 53]⟩ by decide)
  have c4 := hide (show chk 2000 = 0 by decide)
  have c5 := hide (show chk 1049600 = 0 by decide)
  have c6 := hide (show chk 1500000 = 0 by decide)
  go_enter Tryd.func12, Tryd.ntmps12
  go_wp2_with fail
  refine (parseCPU_any _ _ (by decide)).mono ?_
  rintro e w1 ⟨he, hw1⟩
  rw [show (ByteArray.mk #[49, 53, 48, 48, 109]).data.toList = [49, 53, 48, 48, 109] from rfl, unhide e1] at he
  subst he
  have HB1 := hide hw1
  clear hw1
  go_wp2_with fail
  refine (parseBytes_any _ _ (by decide) ((unhide HL).below (unhide HB1))).mono ?_
  rintro e w2 ⟨he, hw2⟩
  rw [show (ByteArray.mk #[52, 71, 105]).data.toList = [52, 71, 105] from rfl, unhide e2] at he
  subst he
  have HB2 := hide (chain (unhide HB1) hw2)
  clear hw2 HB1
  go_wp2_with fail
  refine (parseMoney_any _ _ (by decide)).mono ?_
  rintro e w3 ⟨he, hw3⟩
  rw [show (ByteArray.mk #[48, 46, 48, 48, 48, 48, 52, 48]).data.toList = [48, 46, 48, 48, 48, 48, 52, 48] from rfl, unhide e3] at he
  subst he
  have HB3 := hide (chain (unhide HB2) hw3)
  clear hw3 HB2
  go_wp2_with fail
  refine (printCPU_any _ _ ((unhide HL).below (unhide HB3))).mono ?_
  rintro e w4 ⟨he, hw4⟩
  rw [unhide e4, unhide c4] at he
  subst he
  have HB4 := hide (chain (unhide HB3) hw4)
  clear hw4 HB3
  go_wp2_with fail
  refine (printBytes_any _ _ ((unhide HL).below (unhide HB4))).mono ?_
  rintro e w5 ⟨he, hw5⟩
  rw [unhide e5, unhide c5] at he
  subst he
  have HB5 := hide (chain (unhide HB4) hw5)
  clear hw5 HB4
  go_wp2_with fail
  refine (printMoney_any _ _ ((unhide HL).below (unhide HB5))).mono ?_
  rintro e w6 ⟨he, hw6⟩
  rw [unhide e6, unhide c6] at he
  subst he
  have HB6 := hide (chain (unhide HB5) hw6)
  clear hw6 HB5
  go_wp2_with fail
  go_ret
  exact ⟨rfl, unhide HB6⟩

/-! The listed variables. -/
theorem gUnits : Tryd.prog.globalNamed "sutler/suffix.units" = some 0 := by kernel_rfl
theorem tUnits : (Tryd.prog.globals[0]?).map (·.type) = some 40 := by kernel_rfl
theorem tPow : (Tryd.prog.globals[1]?).map (·.type) = some 99 := by kernel_rfl
theorem Tryd.cells83 : Tryd.prog.cellsOf 83 = 1 := by kernel_rfl
theorem Tryd.cells99 : Tryd.prog.cellsOf 99 = 20 := by kernel_rfl
theorem Tryd.cells39 : Tryd.prog.cellsOf 39 = 2 := by kernel_rfl
theorem Tryd.cells40 : Tryd.prog.cellsOf 40 = 10 := by kernel_rfl
theorem Tryd.cells9 : Tryd.prog.cellsOf 9 = 1 := by kernel_rfl
theorem Tryd.cells33 : Tryd.prog.cellsOf 33 = 1 := by kernel_rfl

theorem list_ext {l : List UInt8} {s : ByteArray} (h : l = s.data.toList) : s = ⟨l.toArray⟩ := by
  subst h; obtain ⟨⟨l⟩⟩ := s; rfl
/-- A unit's two cells, out of its reading. -/
theorem unit_cells {W : World} {sp : Nat → Bool} {held : Bool} {m : Nat} {c0 c1 : Value} {bs : List UInt8} {n : Int} {q : List MemPlace}
    (h : DataW.trod (fun _ => ()) Tryd.prog W 0 sp held m 39 [c0, c1] = some (.agg [.lit (.string bs), .lit (.int .u64 n)], q)) : c0 = .string ⟨bs.toArray⟩ ∧ c1 = .int .u64 n := by
  obtain ⟨y0, y1, k, hx, _, h0, h1⟩ := trod_struct2 Tryd.underlying39 h
  simp only [Tryd.cells9, Tryd.cells33] at h0 h1
  obtain ⟨s, e0, x0, _⟩ := DataW.trod_string Tryd.underlying9 h0
  obtain ⟨z, e1, x1, _⟩ := DataW.trod_int Tryd.underlying33 h1
  simp only [Prod.mk.injEq, DataW.agg.injEq, List.cons.injEq, x0, x1] at hx
  simp at e0 e1 hx
  obtain ⟨⟨hs, hz⟩, _⟩ := hx
  exact ⟨by rw [e0, list_ext hs], by rw [e1, hz]⟩

/-- The list that all rows of this layer bear. -/
abbrev laidL : List (String × DataW Unit) := [("math/bits.deBruijn32tab", Rows.laid_math_bits_deBruijn32tab), ("math/bits.deBruijn64tab", Rows.laid_math_bits_deBruijn64tab), ("internal/strconv.uint64pow10", Rows.laid_internal_strconv_uint64pow10), ("unicode/utf8.acceptRanges", Rows.laid_unicode_utf8_acceptRanges), ("sutler/suffix.units", Rows.laid_sutler_suffix_units), ("unicode/utf8.first", Rows.laid_unicode_utf8_first)]
theorem pow_tab : (Rows.laid_internal_strconv_uint64pow10 : DataW Unit) = Lib.tabData .u64 Lib.pow10Tab := by kernel_rfl
theorem var_heap {W : World} {n : String} {g : Nat} {cs : Array Value} (hg : Tryd.prog.globalNamed n = some g) (h : W.var? Tryd.prog n = some cs) : ∃ t fr, W.heap[g]? = some (.cells cs t fr) := by
  unfold World.var? at h
  simp only [hg, Option.bind_some] at h
  split at h
  · rename_i cs' t fr hb
    injection h with h; subst h; exact ⟨t, fr, hb⟩
  · cases h
set_option maxRecDepth 20000 in
theorem of_laid {W : World} (h : laidMetH Tryd.prog laidL W) : Laid W := by
  rw [MakeChecks.laidMetH_plain _ _ _ (by kernel_rfl)] at h
  have h3 := laidMet.tail (laidMet.tail h)
  have hU := laidMet.tail (laidMet.tail h3)
  refine ⟨?_, ?_⟩
  · obtain ⟨ps, ⟨g, t, cs, fuel, p, q, hg, ht, hv, hd, _, _⟩, _⟩ := hU
    obtain rfl := Option.some.inj (gUnits.symm.trans hg)
    obtain rfl := Option.some.inj (tUnits.symm.trans ht)
    obtain ⟨tt, fr, hh⟩ := var_heap gUnits hv
    refine ⟨tt, fr, ?_⟩
    rw [hh]
    obtain ⟨xs, m, rfl, hx, hlen, hn, hel⟩ := DataW.trod_array Tryd.underlying40 hd
    rw [Tryd.cells40] at hlen
    obtain ⟨l⟩ := cs
    match l, hlen, xs, hn with
    | [c0, c1, c2, c3, c4, c5, c6, c7, c8, c9], _, [x0, x1, x2, x3, x4], _ =>
      have d0 := hel 0 (by omega)
      have d1 := hel 1 (by omega)
      have d2 := hel 2 (by omega)
      have d3 := hel 3 (by omega)
      have d4 := hel 4 (by omega)
      simp [Tryd.cells39] at d0 d1 d2 d3 d4
      simp [Rows.laid_sutler_suffix_units] at hx
      obtain ⟨⟨e0, e1, e2, e3, e4⟩, _⟩ := hx
      obtain ⟨y0, z0⟩ := x0
      obtain ⟨y1, z1⟩ := x1
      obtain ⟨y2, z2⟩ := x2
      obtain ⟨y3, z3⟩ := x3
      obtain ⟨y4, z4⟩ := x4
      simp only at e0 e1 e2 e3 e4
      subst e0 e1 e2 e3 e4
      obtain ⟨rfl, rfl⟩ := unit_cells d0
      obtain ⟨rfl, rfl⟩ := unit_cells d1
      obtain ⟨rfl, rfl⟩ := unit_cells d2
      obtain ⟨rfl, rfl⟩ := unit_cells d3
      obtain ⟨rfl, rfl⟩ := unit_cells d4
      rfl
  · rw [pow_tab] at h3
    exact Lib.tabIs_of_head gPow tPow Tryd.underlying99 Tryd.underlying83 Tryd.cells83 Tryd.cells99 h3

end Go.Proofs.YtfpbmclahihlkaaDoor
