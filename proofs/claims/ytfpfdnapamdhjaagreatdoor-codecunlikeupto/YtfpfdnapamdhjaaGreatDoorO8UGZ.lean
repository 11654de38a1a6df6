/- Layer 8: what the listed variables hold,out of the row's condition. -/
import Derived.Test.YtfpfdnapamdhjaaGreatDoorO8RGZ
import Derived.Lib.LaidTab
import Derived.Lay
import Derived.Stop.Joined
import Derived.MakeChecks
import Derived.Stop.LaidErr
namespace Go.Proofs.YtfpfdnapamdhjaaGreatDoor
open Go.ChangeShapes Go.WideShapes Go.ChangeAt Go.RowKit Suf Val

theorem tPow : (Tryz.prog.globals[3]?).map (·.type) = some 268 := by kernel_rfl
theorem Tryz.cells121 : Tryz.prog.cellsOf 121 = 1 := by kernel_rfl
theorem Tryz.cells268 : Tryz.prog.cellsOf 268 = 20 := by kernel_rfl
theorem Tryz.cells9 : Tryz.prog.cellsOf 9 = 1 := by kernel_rfl
theorem Tryz.cells265 : Tryz.prog.cellsOf 265 = 1 := by kernel_rfl
theorem gRange : Tryz.prog.globalNamed "strconv.ErrRange" = some 2 := by kernel_rfl
theorem gSyntax : Tryz.prog.globalNamed "strconv.ErrSyntax" = some 1 := by kernel_rfl
theorem tRange : (Tryz.prog.globals[2]?).map (·.type) = some 224 := by kernel_rfl
theorem tSyntax : (Tryz.prog.globals[1]?).map (·.type) = some 224 := by kernel_rfl
theorem star : "*" ++ "errors.errorString" = "*errors.errorString" := by decide
theorem rowErr (u : TypeId) (h : Tryz.prog.typeName? 3 u = some "*errors.errorString") : u = 263 :=
  typeName_ptr_named (nm := "errors.errorString") (by rw [star]; kernel_rfl) (by kernel_rfl) (by decide) u (by rw [star]; exact h)

/-- The list that all rows of this layer bear. -/
abbrev laidL : List (String × DataW Unit) := [("math/bits.deBruijn32tab", Rows.laid_math_bits_deBruijn32tab), ("math/bits.deBruijn64tab", Rows.laid_math_bits_deBruijn64tab), ("internal/strconv.uint64pow10", Rows.laid_internal_strconv_uint64pow10), ("strconv.ErrRange", Rows.laid_strconv_ErrRange), ("strconv.ErrSyntax", Rows.laid_strconv_ErrSyntax)]
theorem pow_tab : (Rows.laid_internal_strconv_uint64pow10 : DataW Unit) = Lib.tabData .u64 Lib.pow10Tab := by kernel_rfl
theorem var_cell {W : World} {n : String} {g : Nat} {v : Value} (hg : Tryz.prog.globalNamed n = some g) (h : W.var? Tryz.prog n = some #[v]) : W.cell? ⟨g,0,none⟩ = some v := by
  simpa using World.var?_cell hg h 0
set_option maxRecDepth 20000 in
theorem of_laid {W : World} (h : laidMetH Tryz.prog laidL W) : Laid W := by
  rw [MakeChecks.laidMetH_plain _ _ _ (by kernel_rfl)] at h
  have h3 := laidMet.tail (laidMet.tail h)
  have hR := laidMet.tail h3
  have hS := laidMet.tail hR
  refine ⟨?_,?_,?_⟩
  · obtain ⟨a,s,hv,_⟩ := laid_sentinel hS gSyntax tSyntax Tryz.underlying224 rowErr Tryz.underlying263 Tryz.underlying265 rfl rfl Tryz.underlying9 Tryz.cells265 Tryz.cells9
    exact ⟨_,var_cell gSyntax hv,Or.inr ⟨_,_,rfl⟩⟩
  · obtain ⟨a,s,hv,_⟩ := laid_sentinel hR gRange tRange Tryz.underlying224 rowErr Tryz.underlying263 Tryz.underlying265 rfl rfl Tryz.underlying9 Tryz.cells265 Tryz.cells9
    exact ⟨_,var_cell gRange hv,Or.inr ⟨_,_,rfl⟩⟩
  · rw [pow_tab] at h3
    exact Lib.tabIs_of_head gPow tPow Tryz.underlying268 Tryz.underlying121 Tryz.cells121 Tryz.cells268 h3

end Go.Proofs.YtfpfdnapamdhjaaGreatDoor
