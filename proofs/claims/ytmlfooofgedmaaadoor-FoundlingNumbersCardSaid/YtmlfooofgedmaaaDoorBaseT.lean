/-
  What the frames share of SmallTexts' and FoundlingNumbers' lists: the table of powers, the error's variable.
-/
import Derived.Test.YtmlfooofgedmaaaDoorBase
import Derived.Test.YtmlfooofgedmaaaDoorWkSmallTexts
namespace Go.Proofs.YtmlfooofgedmaaaDoor.Fr
open Go.ChangeShapes Go.WideShapes Go.ChangeAt Go.RowKit

theorem star : "*" ++ "errors.errorString" = "*errors.errorString" := by decide
theorem gErr : Tryd.prog.globalNamed "strconv.ErrRange" = some 2 := by kernel_rfl
theorem gErrType : (Tryd.prog.globals[2]?).map (·.type) = some 87 := by kernel_rfl
theorem rowErr (u : TypeId) (h : Tryd.prog.typeName? 3 u = some "*errors.errorString") : u = 126 :=
  typeName_ptr_named (nm := "errors.errorString") (by rw [star]; kernel_rfl) (by kernel_rfl) (by decide) u (by rw [star]; exact h)
theorem cellsErr : Tryd.prog.cellsOf 128 = 1 := by kernel_rfl
theorem cellsStr : Tryd.prog.cellsOf 9 = 1 := by kernel_rfl

theorem laid_smallTexts {W : World} (h : laidMetH Tryd.prog Rows.foundlingNumbersRow.laid W) : Fl.EnvT W := by
  rw [MakeChecks.laidMetH_plain _ _ _ (by kernel_rfl)] at h
  refine ⟨pow_of_laid h.tail.tail, ?_⟩
  obtain ⟨a0, s0, hv0, _, _, _⟩ := laid_sentinel h.tail.tail.tail gErr gErrType Tryd.underlying87 rowErr Tryd.underlying126 Tryd.underlying128 rfl rfl Tryd.underlying9 cellsErr cellsStr
  exact ⟨_, _, hv0⟩
theorem door_smallTexts (os : Os) (args : Array Value) : laidMetH Tryd.prog Rows.foundlingNumbersRow.laid ((World.doorLaid Tryd.prog 62 os).forCall (fun _ _ => 0) ⟨#[], args, []⟩).memory :=
  laidMetH_of_parts3 (fuel := 8) (laidMet_of_run' 8 (by kernel_rfl) (by kernel_rfl)) (by kernel_rfl) (by kernel_rfl)
end Go.Proofs.YtmlfooofgedmaaaDoor.Fr
