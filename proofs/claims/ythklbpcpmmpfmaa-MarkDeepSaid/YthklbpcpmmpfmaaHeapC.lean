/-
  Memory as cells: the words of an object, themselves.
-/
import Derived.Test.YthklbpcpmmpfmaaHeapB
import Derived.Test.YthklbpcpmmpfmaaZeros
namespace Go.Proofs.Ythklbpcpmmpfmaa.Fl
open Go.RowKit

set_option maxHeartbeats 2000000 in
theorem words_pos {base g gc cap gb gb2 size last : Nat} {L ws : List Nat} (i n : Nat) (cl kind sz hash : Int) (mark : Bool) (w : World) (h : HeapAt w base g gc cap gb gb2 size last L ws) (c0 : 0 ≤ cl) (c1 : cl ≤ 18446744073709551615)
    (hn : cellsI cl kind sz hash = n) (h0 : 0 < n) (hi : i + 2 + n ≤ L.length) :
    Calls Try.prog 15 #[.pointer (some ⟨g, 0, none⟩), .int .i64 (i : Int), .agg #[.int .u64 cl, .int .i64 kind, .int .i64 sz, .int .u32 hash, .bool mark]] w fun e w' => e = .returned (.slice (some ⟨gc, i + 2, none⟩) n (cap - (i + 2))) ∧ Below w.heap.size w w' := by
  have hc := fun w' => cells_any cl kind sz hash mark w' c0 c1
  rw [hn] at hc
  have hrm := h.room
  have hsm := h.small
  obtain ⟨cur, _, _, hlc, hcm, _⟩ := h.row
  unfold maxLen at hcm
  have hg1 := h.gl.1
  obtain ⟨wr, hwr⟩ : ∃ wr, w.alloc (.cells #[.int .u64 cl, .int .i64 kind, .int .i64 sz, .int .u32 hash, .bool mark] 45) = wr := ⟨_, rfl⟩
  have B1 : wr.heap[w.heap.size]? = some (.cells #[.int .u64 cl, .int .i64 kind, .int .i64 sz, .int .u32 hash, .bool mark] 45 (0, 0)) := by
    rw [← hwr]; exact heap_alloc_new w _
  have hbr : Below w.heap.size w wr := by rw [← hwr]; exact (Below.refl _ _).alloc (Nat.le_refl _) _
  have l1 : w.heap.size < wr.heap.size := by rw [← hwr]; simp
  have l2 : g < wr.heap.size := by omega
  have sz1 := hbr.size
  have c1' := (h.below hbr).c1
  clear hn
  go_enter Try.func15, Try.ntmps15
  go_wp2_with fail
  clear hwr
  obtain ⟨W0, hW0⟩ : ∃ W0, w.heap.size = W0 := ⟨_, rfl⟩
  rw [hW0] at B1 l1 ⊢
  have HW0 := Lib.hid hW0
  clear hW0
  have f1 := cells5 B1
  have hx := fun (x : Grow wr) => x.cell
  refine wp_region_grow (by kernel_rfl) (by kernel_rfl) ?_
  repeat (go_big_quiet_step ((first
    | (go_at_call 13; exact Grow.call _ (hc _)))))
  refine wpQuiet_nil ?_
  intro _ hw'
  obtain ⟨x, rfl⟩ := hw'
  have hbx : Below w.heap.size w x.w := hbr.trans (x.below.mono sz1)
  go_wp2_with fail
  go_ret
  exact ⟨rfl, hbx⟩
set_option maxHeartbeats 2000000 in
theorem words_zero {base g gc cap gb gb2 size last : Nat} {L ws : List Nat} (i : Nat) (cl kind sz hash : Int) (mark : Bool) (w : World) (h : HeapAt w base g gc cap gb gb2 size last L ws) (c0 : 0 ≤ cl) (c1 : cl ≤ 18446744073709551615)
    (hn : cellsI cl kind sz hash = 0) (hi : i + 2 ≤ L.length) :
    Calls Try.prog 15 #[.pointer (some ⟨g, 0, none⟩), .int .i64 (i : Int), .agg #[.int .u64 cl, .int .i64 kind, .int .i64 sz, .int .u32 hash, .bool mark]] w fun e w' => (∃ A c, e = .returned (.slice A 0 c)) ∧ Below w.heap.size w w' := by
  have hc := fun w' => cells_any cl kind sz hash mark w' c0 c1
  rw [hn] at hc
  have hrm := h.room
  have hsm := h.small
  obtain ⟨cur, _, _, hlc, hcm, _⟩ := h.row
  unfold maxLen at hcm
  have hg1 := h.gl.1
  obtain ⟨wr, hwr⟩ : ∃ wr, w.alloc (.cells #[.int .u64 cl, .int .i64 kind, .int .i64 sz, .int .u32 hash, .bool mark] 45) = wr := ⟨_, rfl⟩
  have B1 : wr.heap[w.heap.size]? = some (.cells #[.int .u64 cl, .int .i64 kind, .int .i64 sz, .int .u32 hash, .bool mark] 45 (0, 0)) := by
    rw [← hwr]; exact heap_alloc_new w _
  have hbr : Below w.heap.size w wr := by rw [← hwr]; exact (Below.refl _ _).alloc (Nat.le_refl _) _
  have l1 : w.heap.size < wr.heap.size := by rw [← hwr]; simp
  have l2 : g < wr.heap.size := by omega
  have sz1 := hbr.size
  have c1' := (h.below hbr).c1
  clear hn
  go_enter Try.func15, Try.ntmps15
  go_wp2_with fail
  clear hwr
  obtain ⟨W0, hW0⟩ : ∃ W0, w.heap.size = W0 := ⟨_, rfl⟩
  rw [hW0] at B1 l1 ⊢
  have HW0 := Lib.hid hW0
  clear hW0
  have f1 := cells5 B1
  have hx := fun (x : Grow wr) => x.cell
  refine wp_region_grow (by kernel_rfl) (by kernel_rfl) ?_
  repeat (go_big_quiet_step ((first
    | (go_at_call 13; exact Grow.call _ (hc _)))))
  refine wpQuiet_nil ?_
  intro _ hw'
  obtain ⟨x, rfl⟩ := hw'
  have hbx : Below w.heap.size w x.w := hbr.trans (x.below.mono sz1)
  go_wp2_with fail
  all_goals go_ret
  all_goals exact ⟨⟨_, _, rfl⟩, hbx⟩
theorem hpointer_any (n : Nat) (w : World) (h1 : 1 ≤ n) (h2 : n < 16777216) :
    Calls Try.prog 17 #[.int .i64 (n : Int)] w fun e w' => e = .returned (.int .u64 ((n : Int) * 2)) ∧ w = w' := by
  have hp := fun w' => pointer_in (n : Int) w' (by omega) (by omega)
  go_enter Try.func17, Try.ntmps17
  go_wp2_with (go_at_call 34; (with_reducible refine (hp _).mono ?_); rintro e w' ⟨rfl, rfl⟩)
  go_ret
  exact ⟨rfl, rfl⟩
end Go.Proofs.Ythklbpcpmmpfmaa.Fl
