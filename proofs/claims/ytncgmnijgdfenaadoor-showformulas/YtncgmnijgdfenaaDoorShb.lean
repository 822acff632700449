/- The table of powers, as the row lists it. -/
import Derived.Test.YtncgmnijgdfenaaDoorRows
import Derived.Test.YtncgmnijgdfenaaDoorShI
import Derived.LaidMore
import Derived.OpenShut
import Derived.Lib.LaidTab
import Derived.Stop.LaidErr
namespace Go.Proofs.YtncgmnijgdfenaaDoor.Gl
open Go Go.RowKit
set_option linter.unusedVariables false

theorem pw_of_laid {W : World} (h : laidMetH Tryd.prog Rows.showFormulasRow.laid W) : Pw W := by
  rw [MakeChecks.laidMetH_plain _ _ _ (by kernel_rfl)] at h
  have gS : Tryd.prog.globalNamed "internal/strconv.uint64pow10" = some 0 := by kernel_rfl
  have ht := Lib.tabIs_of_head (P := Tryd.prog) (W := W) (name := "internal/strconv.uint64pow10") (k := .u64) (zs := Lib.pow10Tab) (e := 103) (n := 20) gS (by kernel_rfl) Tryd.underlying112 Tryd.underlying103 (by kernel_rfl) (by kernel_rfl) h.tail.tail
  unfold Lib.TabIs World.var? at ht
  rw [gS] at ht
  simp only [Option.bind_some] at ht
  split at ht
  · rename_i cs t fr heq
    cases ht
    exact ⟨_, _, heq⟩
  · cases ht
end Go.Proofs.YtncgmnijgdfenaaDoor.Gl
