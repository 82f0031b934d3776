/-
  LexJoins: whatever the two texts.
-/
import Derived.Test.YtijmigcgndlfcaaDoorLxJc
namespace Go.Proofs.YtijmigcgndlfcaaDoor.Fl
open Go.RowKit

theorem walk_LexJoins (a b : ByteArray) (w : World) (_ : a.size ≤ maxLen) (_ : b.size ≤ maxLen) (henv : EnvL w) (hm : MaxAt w) :
    Calls Tryd.prog 5 #[.string a, .string b] w fun e w' => e = .returned (.bool true) ∧ Below w.heap.size w w' := by
  have hE : ∀ w', Below w.heap.size w w' → EnvL w' := fun w' hb => henv.below hb
  cases hx : allW (shortB a 1000) 0 with
  | inr e => exact lexJoins_a a b w hm hE e.1 e.2 hx
  | inl x =>
    cases hy : allW (shortB b 1000) 0 with
    | inr e => exact lexJoins_b a b w hm hE x e.1 e.2 hx hy
    | inl y => exact lexJoins_c a b w hm hE x y hx hy
end Go.Proofs.YtijmigcgndlfcaaDoor.Fl
