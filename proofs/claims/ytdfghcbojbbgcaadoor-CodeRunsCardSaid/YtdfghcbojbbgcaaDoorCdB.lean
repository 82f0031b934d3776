/-
  Instructions: operands.
-/
import Derived.Test.YtdfghcbojbbgcaaDoorCdA
import Derived.BigQuiet
import Derived.Deep.DeepCutAuto
namespace Go.Proofs.YtdfghcbojbbgcaaDoor.Fl
open Go.RowKit

theorem two_cellsC {w : World} {g : Nat} {v0 v1 : Value} {T : TypeId} (h : w.heap[g]? = some (.cells #[v0, v1] T (0, 0))) :
    w.cell? ⟨g, 0, none⟩ = some v0 ∧ w.cell? ⟨g, 1, none⟩ = some v1 ∧ ∀ k, w.frozen? ⟨g, k, none⟩ = false :=
  ⟨cell_of_row _ _ _ _ _ _ h, cell_of_row _ _ _ _ _ _ h, fun k => frozen_of_row _ _ _ _ _ h⟩
theorem three_cellsC {w : World} {g : Nat} {v0 v1 v2 : Value} {T : TypeId} (h : w.heap[g]? = some (.cells #[v0, v1, v2] T (0, 0))) :
    w.cell? ⟨g, 0, none⟩ = some v0 ∧ w.cell? ⟨g, 1, none⟩ = some v1 ∧ w.cell? ⟨g, 2, none⟩ = some v2 ∧ ∀ k, w.frozen? ⟨g, k, none⟩ = false :=
  ⟨cell_of_row _ _ _ _ _ _ h, cell_of_row _ _ _ _ _ _ h, cell_of_row _ _ _ _ _ _ h, fun k => frozen_of_row _ _ _ _ _ h⟩
theorem count_any (s : Nat) (hs : s ≤ 2) (l : Int) (w : World) :
    Calls Tryd.prog 23 #[.agg #[.int .i64 (s : Int), .int .i64 l]] w fun e w' => e = .returned (.int .i64 ((256 ^ s : Nat) : Int)) ∧ Below w.heap.size w w' := by
  have hw1 := heap_alloc_new w (.cells #[.int .i64 (s : Int), .int .i64 l] 50)
  have f1 := two_cellsC hw1
  have hb1 : Below w.heap.size w (w.alloc (.cells #[.int .i64 (s : Int), .int .i64 l] 50)) := (Below.refl _ _).alloc (Nat.le_refl _) _
  have HB := Lib.hid hb1
  clear hb1
  obtain rfl | rfl | rfl : s = 0 ∨ s = 1 ∨ s = 2 := by omega
  all_goals
    go_enter Tryd.func23, Tryd.ntmps23
    go_wp2_with fail
    go_ret
    exact ⟨rfl, HB.out⟩
def hasC (s : Nat) (l n : Int) : Bool := decide (l ≤ n) && decide (n < l + ((256 ^ s : Nat) : Int))
set_option maxHeartbeats 1000000 in
theorem has_any (s : Nat) (hs : s ≤ 2) (l n : Int) (hl : -32768 ≤ l) (hl0 : l ≤ 0) (w : World) :
    Calls Tryd.prog 22 #[.agg #[.int .i64 (s : Int), .int .i64 l], .int .i64 n] w fun e w' => e = .returned (.bool (hasC s l n)) ∧ Below w.heap.size w w' := by
  have hw1 := heap_alloc_new w (.cells #[.int .i64 (s : Int), .int .i64 l] 50)
  have f1 := two_cellsC hw1
  have l1 : w.heap.size < (w.alloc (.cells #[.int .i64 (s : Int), .int .i64 l] 50)).heap.size := lt_of_blkC hw1
  have hb1 : Below w.heap.size w (w.alloc (.cells #[.int .i64 (s : Int), .int .i64 l] 50)) := (Below.refl _ _).alloc (Nat.le_refl _) _
  have HB := Lib.hid hb1
  have hct := fun w => count_any s hs l w
  have hp : 256 ^ s ≤ 65536 := by
    obtain rfl | rfl | rfl : s = 0 ∨ s = 1 ∨ s = 2 := by omega
    all_goals decide
  obtain ⟨r, hr⟩ : ∃ r, hasC s l n = r := ⟨_, rfl⟩
  rw [hr]
  have HR := Lib.hid hr
  unfold hasC at HR
  generalize 256 ^ s = m at *
  clear hb1 hr
  go_enter Tryd.func22, Tryd.ntmps22
  go_upto_region 1 with fail
  generalize w.alloc (.cells #[.int .i64 (s : Int), .int .i64 l] 50) = w1 at *
  have hx := fun (x : Grow w1) => x.cell
  have hxs := fun (x : Grow w1) => x.size
  by_cases h : l ≤ n
  · have hd : decide (n ≥ l) = true := decide_eq_true h
    have hd2 : decide (l ≤ n) = true := decide_eq_true h
    refine wp_region_grow (by kernel_rfl) (by kernel_rfl) ?_
    repeat (go_big_quiet_step ((go_at_call 23; exact Grow.call _ (hct _))))
    refine wpQuiet_nil ?_
    rintro _ ⟨x, rfl⟩
    have hb := Lib.hid (HB.out.trans (x.below.mono HB.out.size))
    clear hx hxs hct
    go_wp2_with fail
    go_ret
    exact ⟨by rw [← HR.out, decide_eq_true h]; rfl, hb.out⟩
  · have hd : decide (n ≥ l) = false := decide_eq_false h
    have hd2 : decide (l ≤ n) = false := decide_eq_false h
    refine wp_region_grow (by kernel_rfl) (by kernel_rfl) ?_
    repeat (go_big_quiet_step ((go_at_call 23; exact Grow.call _ (hct _))))
    refine wpQuiet_nil ?_
    rintro _ ⟨x, rfl⟩
    have hb := Lib.hid (HB.out.trans (x.below.mono HB.out.size))
    clear hx hxs hct
    go_wp2_with fail
    go_ret
    exact ⟨by rw [← HR.out, hd2]; rfl, hb.out⟩
/-- one row of the table, as it is read -/
theorem formsL_get {k : Nat} (h : k < 20) : ∃ (nmx : List UInt8) (a : Nat) (la : Int) (b : Nat) (lb t u : Int), formsL[k]? = some (nmx, (a : Int), la, (b : Int), lb, t, u) ∧ (a ≤ 2 ∧ b ≤ 2) ∧ (-32768 ≤ la ∧ la ≤ 0) ∧ lb = 0 := by
  obtain rfl | rfl | rfl | rfl | rfl | rfl | rfl | rfl | rfl | rfl | rfl | rfl | rfl | rfl | rfl | rfl | rfl | rfl | rfl | rfl : k = 0 ∨ k = 1 ∨ k = 2 ∨ k = 3 ∨ k = 4 ∨ k = 5 ∨ k = 6 ∨ k = 7 ∨ k = 8 ∨ k = 9 ∨ k = 10 ∨ k = 11 ∨ k = 12 ∨ k = 13 ∨ k = 14 ∨ k = 15 ∨ k = 16 ∨ k = 17 ∨ k = 18 ∨ k = 19 := by omega
  all_goals first
    | exact ⟨_, 0, _, 0, _, _, _, rfl, by decide, by decide, rfl⟩
    | exact ⟨_, 1, _, 0, _, _, _, rfl, by decide, by decide, rfl⟩
    | exact ⟨_, 2, _, 0, _, _, _, rfl, by decide, by decide, rfl⟩
    | exact ⟨_, 1, _, 1, _, _, _, rfl, by decide, by decide, rfl⟩
    | exact ⟨_, 1, _, 2, _, _, _, rfl, by decide, by decide, rfl⟩
theorem FormsAt.row {w : World} (h : FormsAt w) {k : Nat} {nmx : List UInt8} {a la b lb t u : Int} (hk : formsL[k]? = some (nmx, a, la, b, lb, t, u)) :
    w.cell? ⟨0, k * 7, none⟩ = some (.string ⟨nmx.toArray⟩) ∧ w.cell? ⟨0, k * 7 + 1, none⟩ = some (.int .i64 a) ∧ w.cell? ⟨0, k * 7 + 2, none⟩ = some (.int .i64 la) ∧ w.cell? ⟨0, k * 7 + 3, none⟩ = some (.int .i64 b) ∧ w.cell? ⟨0, k * 7 + 4, none⟩ = some (.int .i64 lb) ∧ w.cell? ⟨0, k * 7 + 5, none⟩ = some (.int .i64 t) ∧ w.cell? ⟨0, k * 7 + 6, none⟩ = some (.int .i64 u) :=
  ⟨h k _ hk 0 _ rfl, h k _ hk 1 _ rfl, h k _ hk 2 _ rfl, h k _ hk 3 _ rfl, h k _ hk 4 _ rfl, h k _ hk 5 _ rfl, h k _ hk 6 _ rfl⟩
theorem FormsAt.lt {w : World} (h : FormsAt w) : 0 < w.heap.size := World.block_lt_of_cell? _ _ (h 0 _ rfl 0 _ rfl)
end Go.Proofs.YtdfghcbojbbgcaaDoor.Fl
