/- Layer 5: what the listed variables hold, out of the row's condition. -/
import Derived.Test.YtnkcbmlobikjkabDoorTaE
import Derived.Test.YtnkcbmlobikjkabDoorTaF
import Derived.Test.YtnkcbmlobikjkabDoorTaG
import Derived.Test.YtnkcbmlobikjkabDoorTaH
import Derived.Test.YtnkcbmlobikjkabDoorTaJ
import Derived.Lib.LaidTab
import Derived.Lay
import Derived.Stop.Joined
import Derived.MakeChecks
import Derived.Stop.LaidErr
namespace Go.Proofs.YtnkcbmlobikjkabDoor
open Go.ChangeShapes Go.WideShapes Go.ChangeAt Go.RowKit Suf Val

theorem tPow : (Tryd.prog.globals[2]?).map (·.type) = some 86 := by kernel_rfl
theorem Tryd.cells62 : Tryd.prog.cellsOf 62 = 1 := by kernel_rfl
theorem Tryd.cells86 : Tryd.prog.cellsOf 86 = 20 := by kernel_rfl
theorem Tryd.cells9 : Tryd.prog.cellsOf 9 = 1 := by kernel_rfl
theorem Tryd.cells83 : Tryd.prog.cellsOf 83 = 1 := by kernel_rfl
theorem gRange : Tryd.prog.globalNamed "strconv.ErrRange" = some 1 := by kernel_rfl
theorem gSyntax : Tryd.prog.globalNamed "strconv.ErrSyntax" = some 0 := by kernel_rfl
theorem tRange : (Tryd.prog.globals[1]?).map (·.type) = some 53 := by kernel_rfl
theorem tSyntax : (Tryd.prog.globals[0]?).map (·.type) = some 53 := by kernel_rfl
theorem star : "*" ++ "errors.errorString" = "*errors.errorString" := by decide
theorem rowErr (u : TypeId) (h : Tryd.prog.typeName? 3 u = some "*errors.errorString") : u = 81 :=
  typeName_ptr_named (nm := "errors.errorString") (by rw [star]; kernel_rfl) (by kernel_rfl) (by decide) u (by rw [star]; exact h)

/-- The list that all rows of this layer bear. -/
abbrev laidL : List (String × DataW Unit) := [("math/bits.deBruijn32tab", Rows.laid_math_bits_deBruijn32tab), ("math/bits.deBruijn64tab", Rows.laid_math_bits_deBruijn64tab), ("internal/strconv.uint64pow10", Rows.laid_internal_strconv_uint64pow10), ("strconv.ErrRange", Rows.laid_strconv_ErrRange), ("strconv.ErrSyntax", Rows.laid_strconv_ErrSyntax)]
theorem pow_tab : (Rows.laid_internal_strconv_uint64pow10 : DataW Unit) = Lib.tabData .u64 Lib.pow10Tab := by kernel_rfl
theorem var_cell {W : World} {n : String} {g : Nat} {v : Value} (hg : Tryd.prog.globalNamed n = some g) (h : W.var? Tryd.prog n = some #[v]) : W.cell? ⟨g, 0, none⟩ = some v := by
  simpa using World.var?_cell hg h 0
set_option maxRecDepth 20000 in
theorem of_laid {W : World} (h : laidMetH Tryd.prog laidL W) : Laid W := by
  rw [MakeChecks.laidMetH_plain _ _ _ (by kernel_rfl)] at h
  have h3 := laidMet.tail (laidMet.tail h)
  have hR := laidMet.tail h3
  have hS := laidMet.tail hR
  refine ⟨?_, ?_, ?_⟩
  · obtain ⟨a, s, hv, _⟩ := laid_sentinel hS gSyntax tSyntax Tryd.underlying53 rowErr Tryd.underlying81 Tryd.underlying83 rfl rfl Tryd.underlying9 Tryd.cells83 Tryd.cells9
    exact ⟨_, var_cell gSyntax hv, Or.inr ⟨_, _, rfl⟩⟩
  · obtain ⟨a, s, hv, _⟩ := laid_sentinel hR gRange tRange Tryd.underlying53 rowErr Tryd.underlying81 Tryd.underlying83 rfl rfl Tryd.underlying9 Tryd.cells83 Tryd.cells9
    exact ⟨_, var_cell gRange hv, Or.inr ⟨_, _, rfl⟩⟩
  · rw [pow_tab] at h3
    exact Lib.tabIs_of_head gPow tPow Tryd.underlying86 Tryd.underlying62 Tryd.cells62 Tryd.cells86 h3

end Go.Proofs.YtnkcbmlobikjkabDoor
