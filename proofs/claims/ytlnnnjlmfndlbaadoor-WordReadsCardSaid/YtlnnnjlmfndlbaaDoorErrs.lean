/- The two sentinels of the library, out of what a row lists: each variable holds an error that is not nil. -/
import Derived.Test.YtlnnnjlmfndlbaaDoorFrame
import Derived.Test.YtlnnnjlmfndlbaaDoorRead
namespace Go.Proofs.YtlnnnjlmfndlbaaDoor
open Go Go.RowKit Go.WideShapes Go.ChangeShapes

theorem row87 (u : TypeId) (hu : Tryd.prog.typeName? 3 u = some "*errors.errorString") : u = 87 :=
  typeName_ptr_named (nm := "errors.errorString") (by kernel_rfl) (by kernel_rfl) (by decide) u hu
theorem gSyntax : Tryd.prog.globalNamed "strconv.ErrSyntax" = some 3 := by kernel_rfl
theorem gSyntaxType : (Tryd.prog.globals[3]?).map (·.type) = some 64 := by kernel_rfl
theorem gRange : Tryd.prog.globalNamed "strconv.ErrRange" = some 4 := by kernel_rfl
theorem gRangeType : (Tryd.prog.globals[4]?).map (·.type) = some 64 := by kernel_rfl
theorem cells89 : Tryd.prog.cellsOf 89 = 1 := by kernel_rfl
theorem cells9 : Tryd.prog.cellsOf 9 = 1 := by kernel_rfl
theorem errsLie {W : World} (h : laidMet Tryd.prog (("strconv.ErrRange", Rows.laid_strconv_ErrRange) :: ("strconv.ErrSyntax", Rows.laid_strconv_ErrSyntax) :: []) W) : ErrsLie W := by
  obtain ⟨a0, s0, hv0, _, _, _⟩ := laid_sentinel h gRange gRangeType Tryd.underlying64 row87 Tryd.underlying87 Tryd.underlying89 rfl rfl Tryd.underlying9 cells89 cells9
  obtain ⟨a1, s1, hv1, _, _, _⟩ := laid_sentinel h.tail gSyntax gSyntaxType Tryd.underlying64 row87 Tryd.underlying87 Tryd.underlying89 rfl rfl Tryd.underlying9 cells89 cells9
  exact ⟨⟨87, _, by simpa using World.var?_cell gSyntax hv1 0⟩, ⟨87, _, by simpa using World.var?_cell gRange hv0 0⟩⟩
end Go.Proofs.YtlnnnjlmfndlbaaDoor
