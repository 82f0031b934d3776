/-
  What the frame of EventTexts needs: the one variable of the library, in a world of its shape; the witness's world.
-/
import Derived.Test.YtlmelfakmllinaaRows
import Derived.WalkKit
import Derived.ProofKit
import Derived.OpenShut
import Derived.ShutString
import Derived.ChangeOld
import Derived.Below
import Derived.LaidMore
import Derived.Deep.DeepHandedRow
import Derived.Lib.LaidTab
import Derived.MakeChecks
import Derived.Lay
import Derived.Shelf.Vars
import Derived.Test.YtlmelfakmllinaaEvT
namespace Go.Proofs.Ytlmelfakmllinaa.Fr
open Go.ChangeShapes Go.WideShapes Go.ChangeAt Go.RowKit

theorem own : ownKnob Try.prog.godebug = none := by kernel_rfl
theorem laidOut : laidOutB Try.prog = true := by kernel_rfl
def laidL : List (String × DataW Unit) := Rows.eventTextsRow.laid
theorem max_shaped {W : World} (h : W.ShapedOpen Try.prog) : Fl.MaxE W :=
  cell_of_shapedOpen_int (g := 0) (t := 3) (zero := #[.int .i64 0]) h (of_decide_eq_true (by kernel_rfl)) (by kernel_rfl) rfl (by kernel_rfl) (by kernel_rfl) Try.underlying3
theorem max_below {W : World} (h : W.ShapedOpen Try.prog) (w' : World) (hb : Below W.heap.size W w') : Fl.MaxE w' := by
  obtain ⟨m, hm⟩ := max_shaped h
  exact ⟨m, (hb.cell (p := ⟨0, 0, none⟩) (World.block_lt_of_cell? W _ hm)).trans hm⟩
/-- the witness's world -/
noncomputable def w0 (os : Os) : World := World.laidAll Try.prog os laidL
theorem w0_shaped (os : Os) (args : Array Value) : ((w0 os).forCall (fun _ _ => 0) ⟨#[], args, []⟩).Shaped Try.prog :=
  World.shaped_of_ZipB (by kernel_rfl) (by kernel_rfl)
theorem w0_laid (os : Os) (args : Array Value) : laidMetH Try.prog laidL ((w0 os).forCall (fun _ _ => 0) ⟨#[], args, []⟩).memory := by
  rw [MakeChecks.laidMetH_plain _ _ _ (by kernel_rfl)]
  exact laidMet_laidAll _ (by kernel_rfl) (by kernel_rfl)
end Go.Proofs.Ytlmelfakmllinaa.Fr
