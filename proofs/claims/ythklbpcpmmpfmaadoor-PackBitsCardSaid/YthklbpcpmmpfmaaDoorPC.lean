/-
  PackBits: the beginning and the end: new sets, and the set that is none.
-/
import Derived.Test.YthklbpcpmmpfmaaDoorPB
namespace Go.Proofs.YthklbpcpmmpfmaaDoor.Fl
open Go.RowKit

set_option maxHeartbeats 1000000 in
theorem newBits_m1 (w : World) :
    Calls Tryd.prog 10 #[.int .i64 (-1)] w (NewPost w 0) := by
  have hmk0 := run_make_row' (P := Tryd.prog) 41 48 (.int .u64 0) 8 Tryd.underlying41 u64info rfl .i64 .i64 0 (by omega) (by omega) w
  rw [made_eq] at hmk0
  have hmk : (Instr.makeSlice 41 (.int .i64 0) (.int .i64 0)).run Tryd.prog w = .ok (.slice (some ⟨w.heap.size, 0, none⟩) 0 0) (w.alloc (.cells (cw (List.replicate 0 0)).toArray 48)) := hmk0
  clear hmk0
  go_enter Tryd.func10, Tryd.ntmps10
  go_wp2_with fail
  go_ret
  refine ⟨w.heap.size + 1, w.heap.size, rfl, by omega, Nat.le_refl _, ⟨⟨0, ?_⟩, ⟨(cw (List.replicate 0 0)).toArray, ?_, by rw [List.take_of_length_le (by simp [cw])]⟩, by simp, ?_, fun k _ => bitAt_zero _ k, by decide⟩, below_alloc2' w _ _⟩
  · have := heap_alloc_new (w.alloc (.cells (cw (List.replicate 0 0)).toArray 48)) (.cells #[.int .i64 0, .slice (some ⟨w.heap.size, 0, none⟩) 0 0] 43)
    simpa using this
  · exact (Below.heap_alloc _ _ _ (by simp)).trans (heap_alloc_new w _)
  · intro x hx
    simp at hx
theorem newB_any (z : Int) (N : Nat) (hz : z = N ∨ (z = -1 ∧ N = 0)) (hN : N ≤ 16777216) (w : World) :
    Calls Tryd.prog 10 #[.int .i64 z] w (NewPost w N) := by
  rcases hz with rfl | ⟨rfl, rfl⟩
  · exact newBits_nat N hN w
  · exact newBits_m1 w
def RNewPost (w : World) (N : Nat) (e : Ending) (w' : World) : Prop := ∃ G : Nat, e = .returned (.agg #[.slice (some ⟨G, 0, none⟩) N N]) ∧ w.heap.size ≤ G ∧ LAt w' G (List.replicate N false) ∧ Below w.heap.size w w'
theorem rnew_end (w : World) (N : Nat) (o : Obj) :
    LAt ((w.alloc o).alloc (.cells (bl (List.replicate N false)).toArray 4)) (w.heap.size + 1) (List.replicate N false) ∧ Below w.heap.size w ((w.alloc o).alloc (.cells (bl (List.replicate N false)).toArray 4)) := by
  have h1 : ((w.alloc o).alloc (.cells (bl (List.replicate N false)).toArray 4)).heap[w.heap.size + 1]? = some (.cells (bl (List.replicate N false)).toArray 4 (0, 0)) := by
    have := heap_alloc_new (w.alloc o) (.cells (bl (List.replicate N false)).toArray 4)
    simpa using this
  exact ⟨h1, ((Below.refl w.heap.size w).alloc (Nat.le_refl _) _).alloc (by simp) _⟩
theorem rnew_cell (w : World) (v : Value) (T : TypeId) (o : Obj) : ((w.alloc (.cells #[v] T)).alloc o).cell? ⟨w.heap.size, 0, none⟩ = some v :=
  cell_of_row _ _ _ _ _ _ ((heap_alloc_old _ _ (by simp)).trans (heap_alloc_new w _))
set_option maxHeartbeats 1000000 in
theorem rnewB_any (z : Int) (N : Nat) (hz : z = N ∨ (z = -1 ∧ N = 0)) (hN : N ≤ 16777216) (w : World) :
    Calls Tryd.prog 11 #[.int .i64 z] w (RNewPost w N) := by
  have hmk := fun w' => make_bools N hN w'
  rcases hz with rfl | ⟨rfl, rfl⟩
  · go_enter Tryd.func11, Tryd.ntmps11
    go_wp2_with fail
    have q0 := rnew_cell w (.slice (some ⟨w.heap.size + 1, 0, none⟩) N N) 28 (.cells (bl (List.replicate N false)).toArray 4)
    obtain ⟨q1, q2⟩ := rnew_end w N (.cells #[.slice (some ⟨w.heap.size + 1, 0, none⟩) N N] 28)
    exact bodyPost_ret (v := .agg #[.slice (some ⟨w.heap.size + 1, 0, none⟩) N N]) (by simp [results, Tryd.results11, go_sem, q0]) rfl ⟨_, rfl, by omega, q1, q2⟩
  · have hmk2 : ∀ w' : World, (Instr.makeSlice 26 (.int .i64 0) (.int .i64 0)).run Tryd.prog w' = .ok (.slice (some ⟨w'.heap.size, 0, none⟩) 0 0) (w'.alloc (.cells (bl (List.replicate 0 false)).toArray 4)) := hmk
    clear hmk
    go_enter Tryd.func11, Tryd.ntmps11
    go_wp2_with fail
    have q0 := rnew_cell w (.slice (some ⟨w.heap.size + 1, 0, none⟩) 0 0) 28 (.cells (bl (List.replicate 0 false)).toArray 4)
    obtain ⟨q1, q2⟩ := rnew_end w 0 (.cells #[.slice (some ⟨w.heap.size + 1, 0, none⟩) 0 0] 28)
    exact bodyPost_ret (v := .agg #[.slice (some ⟨w.heap.size + 1, 0, none⟩) 0 0]) (by simp [results, Tryd.results11, go_sem, q0]) rfl ⟨_, rfl, by omega, q1, q2⟩
section
variable {w : World} {Z : Nat}
/-- the zero of the type -/
def ZAt (w : World) (Z : Nat) : Prop := w.heap[Z]? = some (.cells #[.int .i64 0, .slice none 0 0] 43 (0, 0))
theorem zsize (w : World) (h : ZAt w Z) : Calls Tryd.prog 12 #[.pointer (some ⟨Z, 0, none⟩)] w fun e w' => e = .returned (.int .i64 0) ∧ w = w' := by
  have c0 : w.cell? ⟨Z, 0, none⟩ = some (.int .i64 0) := cell_of_row _ _ _ _ _ _ h
  go_enter Tryd.func12, Tryd.ntmps12
  go_wp2
  go_ret
  exact ⟨rfl, rfl⟩
theorem zmay (w : World) (h : ZAt w Z) : Calls Tryd.prog 47 #[.pointer (some ⟨Z, 0, none⟩), .int .i64 0] w fun e w' => e = .returned (.bool false) ∧ w = w' := by
  go_enter Tryd.func47, Tryd.ntmps47
  go_wp2_with (go_at_call 12; (with_reducible refine (zsize _ h).mono ?_); rintro e w' ⟨rfl, rfl⟩)
  go_ret
  exact ⟨rfl, rfl⟩
theorem zset (w : World) (h : ZAt w Z) : Calls Tryd.prog 13 #[.pointer (some ⟨Z, 0, none⟩), .int .i64 0, .bool true] w fun e w' => e = .returned (.bool false) ∧ w = w' := by
  go_enter Tryd.func13, Tryd.ntmps13
  go_wp2_with (go_at_call 47; (with_reducible refine (zmay _ h).mono ?_); rintro e w' ⟨rfl, rfl⟩)
  go_ret
  exact ⟨rfl, rfl⟩
theorem znext (w : World) (h : ZAt w Z) : Calls Tryd.prog 17 #[.pointer (some ⟨Z, 0, none⟩), .int .i64 0] w fun e w' => e = .returned (.int .i64 (-1)) ∧ w = w' := by
  go_enter Tryd.func17, Tryd.ntmps17
  go_wp2_with (go_at_call 47; (with_reducible refine (zmay _ h).mono ?_); rintro e w' ⟨rfl, rfl⟩)
  go_ret
  exact ⟨rfl, rfl⟩
end
end Go.Proofs.YthklbpcpmmpfmaaDoor.Fl
