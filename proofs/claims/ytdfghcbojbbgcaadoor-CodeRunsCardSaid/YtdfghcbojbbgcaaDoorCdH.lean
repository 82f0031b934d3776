/-
  Instructions: the document's names.
-/
import Derived.Test.YtdfghcbojbbgcaaDoorCdG
namespace Go.Proofs.YtdfghcbojbbgcaaDoor.Fl
open Go.RowKit

/-- how many bytes A has: below 0, with a sign -/
def refA (a la : Int) : Int := if la < 0 then -a else a
end Go.Proofs.YtdfghcbojbbgcaaDoor.Fl
