/-
  From the condition of a row that lists the table of modes alone to its cells.
-/
import Derived.Test.YtdjnpnbobedgoaaDoorModD
import Derived.Test.YtdjnpnbobedgoaaDoorTab
import Derived.KernelRfl
namespace Go.Proofs.YtdjnpnbobedgoaaDoor
def modeRows : List (List Bool) := [[true, true, true, true, false], [true, true, false, false, false], [true, false, true, false, false], [true, false, false, false, false], [false, false, false, false, false]]
theorem tab_of {W : World} {rest : List (String × DataW Unit)} (h : laidMet Tryd.prog (("banksman/mode.together", matB modeRows) :: rest) W) : TabAt W := by
  have hg : Tryd.prog.globalNamed "banksman/mode.together" = some 0 := by kernel_rfl
  have hty : (Tryd.prog.globals[0]?).map (·.type) = some 29 := by kernel_rfl
  intro a b ha hb
  rcases md_cases a with rfl | rfl | rfl | rfl | rfl | h1
  case inr.inr.inr.inr.inr => rw [h1] at ha; cases ha
  all_goals rcases md_cases b with rfl | rfl | rfl | rfl | rfl | h1
  all_goals first
    | (exfalso; rw [h1] at hb; cases hb)
    | exact mat_of_laid (n := 5) (m := 5) (e := 28) (b := 4) hg hty Tryd.underlying29 Tryd.underlying28 Tryd.underlying4 (by kernel_rfl) (by kernel_rfl) h rfl rfl
end Go.Proofs.YtdjnpnbobedgoaaDoor
