/-
  Instructions: the document's bytes of a number, any.
-/
import Derived.Test.YtdfghcbojbbgcaaDoorCdI
namespace Go.Proofs.YtdfghcbojbbgcaaDoor.Fl
open Go.RowKit

theorem okU_in (s : Nat) {y : Int} (h0 : 0 ≤ y) (h1 : y < ((256 ^ s : Nat) : Int)) : okU s y = true := by
  unfold okU
  rw [decide_eq_true h0, decide_eq_true h1]
  rfl
theorem okU_has (s : Nat) (x : Int) : hasC s 0 x = okU s x := by
  unfold hasC okU
  rw [Int.zero_add]
end Go.Proofs.YtdfghcbojbbgcaaDoor.Fl
