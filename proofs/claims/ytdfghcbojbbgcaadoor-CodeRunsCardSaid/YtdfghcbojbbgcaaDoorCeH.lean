/-
  The document's Decode of any bytes, at any place.
-/
import Derived.Test.YtdfghcbojbbgcaaDoorCeG
import Derived.Test.YtdfghcbojbbgcaaDoorCdK
namespace Go.Proofs.YtdfghcbojbbgcaaDoor.Fl
open Go.RowKit

theorem drewC (W : World) (k : Nat) : W.drew.heap[k]? = W.heap[k]? := rfl
end Go.Proofs.YtdfghcbojbbgcaaDoor.Fl

