/-
  Instructions: what Check asks of one (those of the laws' fixed code).
-/
import Derived.Test.YtdfghcbojbbgcaaDoorCdM
namespace Go.Proofs.YtdfghcbojbbgcaaDoor.Fl
open Go.RowKit

theorem isNamed_fix {op a b : Int} (hop : op = 4 ∨ op = 18) (p : Value) (w : World) :
    Calls Tryd.prog 27 #[p, .agg #[.int .i64 op, .int .i64 a, .int .i64 b]] w fun e w' => e = .returned (.bool true) ∧ Below w.heap.size w w' := by
  have hw1 := heap_alloc_new w (.cells #[.int .i64 op, .int .i64 a, .int .i64 b] 34)
  have f1 := three_cellsC hw1
  have HB := Lib.hid (show Below w.heap.size w (w.alloc (.cells #[.int .i64 op, .int .i64 a, .int .i64 b] 34)) from (Below.refl _ _).alloc (Nat.le_refl _) _)
  clear hw1
  rcases hop with rfl | rfl
  all_goals
    go_enter Tryd.func27, Tryd.ntmps27
    go_wp2_with fail
    go_ret
    exact ⟨rfl, HB.out⟩
theorem blockSize_fix {op a b : Int} (hop : op = 4 ∨ op = 18) (w : World) :
    Calls Tryd.prog 28 #[.agg #[.int .i64 op, .int .i64 a, .int .i64 b]] w fun e w' => e = .returned (.int .i64 0) ∧ Below w.heap.size w w' := by
  have hw1 := heap_alloc_new w (.cells #[.int .i64 op, .int .i64 a, .int .i64 b] 34)
  have f1 := three_cellsC hw1
  have HB := Lib.hid (show Below w.heap.size w (w.alloc (.cells #[.int .i64 op, .int .i64 a, .int .i64 b] 34)) from (Below.refl _ _).alloc (Nat.le_refl _) _)
  clear hw1
  rcases hop with rfl | rfl
  all_goals
    go_enter Tryd.func28, Tryd.ntmps28
    go_wp2_with fail
    go_ret
    exact ⟨rfl, HB.out⟩
theorem isJump_fix {op a b : Int} (hop : op = 4 ∨ op = 18) (w : World) :
    Calls Tryd.prog 29 #[.agg #[.int .i64 op, .int .i64 a, .int .i64 b]] w fun e w' => e = .returned (.bool false) ∧ Below w.heap.size w w' := by
  have hw1 := heap_alloc_new w (.cells #[.int .i64 op, .int .i64 a, .int .i64 b] 34)
  have f1 := three_cellsC hw1
  have HB := Lib.hid (show Below w.heap.size w (w.alloc (.cells #[.int .i64 op, .int .i64 a, .int .i64 b] 34)) from (Below.refl _ _).alloc (Nat.le_refl _) _)
  clear hw1
  rcases hop with rfl | rfl
  all_goals
    go_enter Tryd.func29, Tryd.ntmps29
    go_wp2_with fail
    go_ret
    exact ⟨rfl, HB.out⟩
theorem isLast_fix {op a b : Int} (hop : op = 4 ∨ op = 18) (w : World) :
    Calls Tryd.prog 31 #[.agg #[.int .i64 op, .int .i64 a, .int .i64 b]] w fun e w' => e = .returned (.bool (op == 18)) ∧ Below w.heap.size w w' := by
  have hw1 := heap_alloc_new w (.cells #[.int .i64 op, .int .i64 a, .int .i64 b] 34)
  have f1 := three_cellsC hw1
  have HB := Lib.hid (show Below w.heap.size w (w.alloc (.cells #[.int .i64 op, .int .i64 a, .int .i64 b] 34)) from (Below.refl _ _).alloc (Nat.le_refl _) _)
  clear hw1
  rcases hop with rfl | rfl
  all_goals
    go_enter Tryd.func31, Tryd.ntmps31
    go_wp2_with fail
    go_ret
    exact ⟨rfl, HB.out⟩
end Go.Proofs.YtdfghcbojbbgcaaDoor.Fl

