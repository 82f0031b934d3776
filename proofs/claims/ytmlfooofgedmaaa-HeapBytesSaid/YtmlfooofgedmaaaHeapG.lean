/-
  Memory as cells: the fixed fact of the rows.
-/
import Derived.Test.YtmlfooofgedmaaaHeapF
namespace Go.Proofs.Ytmlfooofgedmaaa.Fl
open Go.RowKit

section
variable {base g gc cap gb gb2 : Nat}
abbrev oneL : List Nat := [0, 0, 2, pk 1 3 0 false, 1, 1, 1]
abbrev oneB : List Nat := flip [0] 2
theorem one_alloc (w : World) (h : HeapAt w base g gc 2 gb gb2 16 0 [0, 0] [0]) (hbs : base ≤ w.heap.size) :
    Calls Try.prog 21 #[.pointer (some ⟨g, 0, none⟩), .int .u64 2, .int .i64 1, .int .i64 3, .int .u64 1] w fun e w' => ∃ gc' cap', e = .returned (.tuple #[.int .u64 4, .int .i64 0]) ∧ HeapAt w' base g gc' cap' gb gb2 16 0 oneL oneB ∧ (gc' = gc ∨ w.heap.size ≤ gc') ∧ Aside g gc gb2 w w' :=
  alloc_fit 2 1 3 3 1 w h (by decide) (by decide) (by decide) (by decide) (by decide) (by decide) (by decide) (by decide) hbs
theorem one_head : HeadIn oneL 2 2 1 3 0 false := ⟨rfl, rfl, by decide, by decide⟩
theorem one_bit : bitAt oneB 2 = true ∧ bitAt oneB 3 = false := by decide
theorem one_get (w : World) (h : HeapAt w base g gc cap gb gb2 16 0 oneL oneB) :
    Calls Try.prog 28 #[.pointer (some ⟨g, 0, none⟩), .int .u64 4, .int .i64 2] w fun e w' => e = .returned (.tuple #[.int .u64 1, .int .i64 0]) ∧ Below w.heap.size w w' :=
  get_yes 2 2 2 1 3 0 1 false w h one_head one_bit.1 (by decide) (by decide) (by decide) rfl
theorem one_used (w : World) (h : HeapAt w base g gc cap gb gb2 16 0 oneL oneB) :
    Calls Try.prog 23 #[.pointer (some ⟨g, 0, none⟩)] w fun e w' => e = .returned (.int .i64 7) ∧ w = w' := used_any w h
theorem one_has (w : World) (h : HeapAt w base g gc cap gb gb2 16 0 oneL oneB) :
    Calls Try.prog 24 #[.pointer (some ⟨g, 0, none⟩), .int .u64 4] w fun e w' => e = .returned (.bool true) ∧ w = w' := by
  rw [← one_bit.1]; exact hhas_any 2 w h (by decide) (by decide)
theorem one_hasnt (w : World) (h : HeapAt w base g gc cap gb gb2 16 0 oneL oneB) :
    Calls Try.prog 24 #[.pointer (some ⟨g, 0, none⟩), .int .u64 6] w fun e w' => e = .returned (.bool false) ∧ w = w' := by
  rw [← one_bit.2]; exact hhas_any 3 w h (by decide) (by decide)
end
theorem awake_heap (w : World) :
    Calls Try.prog 19 #[] w fun e w' => e = .returned (.bool true) ∧ Below w.heap.size w w' := by
  have hnew : Calls Try.prog 20 #[.int .i64 16] w (NewHPost w 16) := new_ok 16 w (by decide) (by decide)
  go_enter Try.func19, Try.ntmps19
  go_wp2_with fail
  refine hnew.mono ?_
  rintro e w1 ⟨g, gc, gb, gb2, rfl, h1, hb1⟩
  have H1 := Lib.hid h1
  have s1 := hb1.size
  clear h1
  go_wp2_with fail
  refine (one_alloc _ H1.out s1).mono ?_
  rintro e w2 ⟨gc', cap', rfl, h2, hgc, has⟩
  have hb2 : Below w.heap.size w w2 := by
    obtain ⟨cur, _, hbc, _⟩ := H1.out.row
    exact hb1.trans (has.below s1 H1.out.bg hbc H1.out.bb2)
  have H2 := Lib.hid h2
  clear h2 has
  go_wp2_with fail
  refine (one_get _ H2.out).mono ?_
  rintro e w3 ⟨rfl, hb3⟩
  have H3 := Lib.hid (H2.out.below hb3)
  have hbw : Below w.heap.size w w3 := hb2.trans (hb3.mono hb2.size)
  go_wp2_with (first
    | (go_at_call 23; (with_reducible refine (one_used _ H3.out).mono ?_); rintro e w' ⟨rfl, rfl⟩)
    | (go_at_call 24; (with_reducible refine (one_has _ H3.out).mono ?_); rintro e w' ⟨rfl, rfl⟩)
    | (go_at_call 24; (with_reducible refine (one_hasnt _ H3.out).mono ?_); rintro e w' ⟨rfl, rfl⟩))
  go_ret
  exact ⟨rfl, hbw⟩
end Go.Proofs.Ytmlfooofgedmaaa.Fl
