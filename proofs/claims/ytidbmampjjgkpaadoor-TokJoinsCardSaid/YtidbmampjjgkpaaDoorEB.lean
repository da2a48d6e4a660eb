/- From a row's list of laid variables to the library's two errors of numbers. -/
import Derived.Test.YtidbmampjjgkpaaDoorRG
import Derived.Test.YtidbmampjjgkpaaDoorRows
import Derived.Lib.LaidTab
import Derived.Stop.LaidErr
namespace Go.Proofs.YtidbmampjjgkpaaDoor
theorem star : "*" ++ "errors.errorString" = "*errors.errorString" := by decide
theorem err_row (u : TypeId) (h : Tryd.prog.typeName? 3 u = some "*errors.errorString") : u = 142 :=
  typeName_ptr_named (nm := "errors.errorString") (by rw [star]; kernel_rfl) (by kernel_rfl) (by decide) u (by rw [star]; exact h)
theorem errs_of {W : World} (hL : laidMetH Tryd.prog Rows.valShowsRow.laid W) : Errs W := by
  have h3 := laidMet.tail (laidMet.tail (laidMet.tail hL))
  obtain ⟨a, s, h, _⟩ := laid_sentinel (g := 3) h3 (by kernel_rfl) (by kernel_rfl) Tryd.underlying89 err_row Tryd.underlying142 Tryd.underlying144 rfl rfl Tryd.underlying9 (by kernel_rfl) (by kernel_rfl)
  obtain ⟨b, t, k, _⟩ := laid_sentinel (g := 2) (laidMet.tail h3) (by kernel_rfl) (by kernel_rfl) Tryd.underlying89 err_row Tryd.underlying142 Tryd.underlying144 rfl rfl Tryd.underlying9 (by kernel_rfl) (by kernel_rfl)
  exact ⟨⟨_, _, k⟩, _, _, h⟩
end Go.Proofs.YtidbmampjjgkpaaDoor
