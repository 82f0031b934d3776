/-
  Towards CodeJoins: one list behind another; Copy.
-/
import Derived.Test.YtdfghcbojbbgcaaDoorCeD
namespace Go.Proofs.YtdfghcbojbbgcaaDoor.Fl
open Go.RowKit

theorem encR_app : ∀ l m : List Ins, encR (l ++ m) = (encR l).bind fun p => (encR m).map (p ++ ·)
  | [], m => by
    show encR m = (encR m).map ([] ++ ·)
    cases encR m <;> rfl
  | x :: l, m => by
    rw [List.cons_append, encR, encR, encR_app l m]
    by_cases h : isI x.1 x.2.1 x.2.2 = true
    · rw [if_pos h, if_pos h]
      cases encR l with
      | none => rfl
      | some p =>
        cases encR m with
        | none => rfl
        | some r => simp
    · rw [if_neg h, if_neg h]; rfl
theorem ownB_void (w : World) : OwnB (w.alloc (.cells #[] 5)) w.heap.size (.slice (some ⟨w.heap.size, 0, none⟩) 0 0) [] := own_void w _ _ _ (Nat.le_refl _)
theorem ownI_void (w : World) : OwnI (w.alloc (.cells #[] 34)) w.heap.size (.slice (some ⟨w.heap.size, 0, none⟩) 0 0) [] := own_void w _ _ _ (Nat.le_refl _)
end Go.Proofs.YtdfghcbojbbgcaaDoor.Fl

