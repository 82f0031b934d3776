/-
  The law TreeSame: true for every two methods and every place.
-/
import Derived.Test.YtfcceojfcmgmlaaGreatDoorTs11
namespace Go.Proofs.YtfcceojfcmgmlaaGreatDoor.Fl
open Go.RowKit

theorem walkF_TreeSame (a : Me) (va : Value) (b : Me) (vb : Value) (at_ : Int) (w : World) (ha : MeAt w (Lo w.heap.size) va a) (hb : MeAt w (Lo w.heap.size) vb b) (_ : (Lit.int .i64 at_).wf = true) (henv : EnvL w) (_ : MaxAt w) :
    Calls Tryz.prog 5 #[va, vb, .int .i64 at_] w fun e w' => e = .returned (.bool true) ∧ Below w.heap.size w w' :=
  walk_TreeSame a b va vb at_ w ha hb fun _w' hb => henv.below hb
end Go.Proofs.YtfcceojfcmgmlaaGreatDoor.Fl
