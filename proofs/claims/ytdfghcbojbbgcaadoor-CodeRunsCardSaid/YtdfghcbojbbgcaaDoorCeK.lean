/-
  Instructions: what Check asks of any one.
-/
import Derived.Test.YtdfghcbojbbgcaaDoorCeJ
import Derived.Test.YtdfghcbojbbgcaaDoorCdU
import Derived.Deep.LoopGhost
namespace Go.Proofs.YtdfghcbojbbgcaaDoor.Fl
open Go.RowKit Go.Maps

/-- the checker's own block -/
def CkG (w : World) (C N c M1 M2 : Nat) (A : Option Addr) (L S F : Int) (op : Value) (most : Int) : Prop :=
  w.heap[C]? = some (.cells #[.slice A N c, .int .i64 L, .int .i64 S, .int .i64 F, .map (some M1), .map (some M2), op, .int .i64 most] 48 (0, 0))
theorem ops20 {op : Int} {k : Nat} (hk : k < 20) (h : op = (k : Int)) : op = 0 ∨ op = 1 ∨ op = 2 ∨ op = 3 ∨ op = 4 ∨ op = 5 ∨ op = 6 ∨ op = 7 ∨ op = 8 ∨ op = 9 ∨ op = 10 ∨ op = 11 ∨ op = 12 ∨ op = 13 ∨ op = 14 ∨ op = 15 ∨ op = 16 ∨ op = 17 ∨ op = 18 ∨ op = 19 := by omega
set_option maxHeartbeats 2000000 in
theorem isNamed_any {C N c M1 M2 : Nat} {A : Option Addr} {L S F : Int} {v : Value} {most : Int} (w : World) (hC : CkG w C N c M1 M2 A L S F v most) {k : Nat} (hk : k < 20) (a b : Int) :
    Calls Tryd.prog 27 #[.pointer (some ⟨C, 0, none⟩), .agg #[.int .i64 (k : Int), .int .i64 a, .int .i64 b]] w fun e w' => (∃ r : Bool, e = .returned (.bool r)) ∧ Below w.heap.size w w' := by
  have hw1 := heap_alloc_new w (.cells #[.int .i64 (k : Int), .int .i64 a, .int .i64 b] 34)
  have f1 := three_cellsC hw1
  have hb := (show Below w.heap.size w (w.alloc (.cells #[.int .i64 (k : Int), .int .i64 a, .int .i64 b] 34)) from (Below.refl _ _).alloc (Nat.le_refl _) _)
  have fC := eight_cellsC ((hb.block C (lt_of_blkC hC)).trans hC)
  have HB := Lib.hid hb
  obtain ⟨op, hop⟩ : ∃ op : Int, (k : Int) = op := ⟨_, rfl⟩
  have ho := ops20 hk hop.symm
  rw [hop] at f1 fC HB ⊢
  clear hw1 hb hC hop
  by_cases hq : op = 5 ∨ op = 6 ∨ op = 7 ∨ op = 8 ∨ op = 9 ∨ op = 12 ∨ op = 13
  · clear ho
    rcases hq with rfl | rfl | rfl | rfl | rfl | rfl | rfl
    all_goals
      go_enter Tryd.func27, Tryd.ntmps27
      go_wp2_with fail
      go_quiet (fail)
      go_wp2_with fail
      go_ret
      exact ⟨⟨_, rfl⟩, ⟨HB.out.os, HB.out.tape, HB.out.output, HB.out.size, HB.out.block⟩⟩
  · replace ho : op = 0 ∨ op = 1 ∨ op = 2 ∨ op = 3 ∨ op = 4 ∨ op = 10 ∨ op = 11 ∨ op = 14 ∨ op = 15 ∨ op = 16 ∨ op = 17 ∨ op = 18 ∨ op = 19 := by omega
    clear hq
    rcases ho with rfl | rfl | rfl | rfl | rfl | rfl | rfl | rfl | rfl | rfl | rfl | rfl | rfl
    all_goals
      go_enter Tryd.func27, Tryd.ntmps27
      go_wp2_with fail
      go_ret
      exact ⟨⟨_, rfl⟩, HB.out⟩
def blkR (op b : Int) : Int := if op = 17 then b else 0
theorem blockSize_any {k : Nat} (hk : k < 20) (a b : Int) (w : World) :
    Calls Tryd.prog 28 #[.agg #[.int .i64 (k : Int), .int .i64 a, .int .i64 b]] w fun e w' => e = .returned (.int .i64 (blkR (k : Int) b)) ∧ Below w.heap.size w w' := by
  have hw1 := heap_alloc_new w (.cells #[.int .i64 (k : Int), .int .i64 a, .int .i64 b] 34)
  have f1 := three_cellsC hw1
  have HB := Lib.hid (show Below w.heap.size w (w.alloc (.cells #[.int .i64 (k : Int), .int .i64 a, .int .i64 b] 34)) from (Below.refl _ _).alloc (Nat.le_refl _) _)
  obtain ⟨op, hop⟩ : ∃ op : Int, (k : Int) = op := ⟨_, rfl⟩
  have ho := ops20 hk hop.symm
  rw [hop] at f1 HB ⊢
  clear hw1 hop
  rcases ho with rfl | rfl | rfl | rfl | rfl | rfl | rfl | rfl | rfl | rfl | rfl | rfl | rfl | rfl | rfl | rfl | rfl | rfl | rfl | rfl
  all_goals
    go_enter Tryd.func28, Tryd.ntmps28
    go_wp2_with fail
    go_ret
    exact ⟨rfl, HB.out⟩
def jmpR (op : Int) : Bool := op == 14 || op == 15 || op == 16
theorem isJump_any {k : Nat} (hk : k < 20) (a b : Int) (w : World) :
    Calls Tryd.prog 29 #[.agg #[.int .i64 (k : Int), .int .i64 a, .int .i64 b]] w fun e w' => e = .returned (.bool (jmpR (k : Int))) ∧ Below w.heap.size w w' := by
  have hw1 := heap_alloc_new w (.cells #[.int .i64 (k : Int), .int .i64 a, .int .i64 b] 34)
  have f1 := three_cellsC hw1
  have HB := Lib.hid (show Below w.heap.size w (w.alloc (.cells #[.int .i64 (k : Int), .int .i64 a, .int .i64 b] 34)) from (Below.refl _ _).alloc (Nat.le_refl _) _)
  obtain ⟨op, hop⟩ : ∃ op : Int, (k : Int) = op := ⟨_, rfl⟩
  have ho := ops20 hk hop.symm
  rw [hop] at f1 HB ⊢
  clear hw1 hop
  rcases ho with rfl | rfl | rfl | rfl | rfl | rfl | rfl | rfl | rfl | rfl | rfl | rfl | rfl | rfl | rfl | rfl | rfl | rfl | rfl | rfl
  all_goals
    go_enter Tryd.func29, Tryd.ntmps29
    go_wp2_with fail
    go_ret
    exact ⟨rfl, HB.out⟩
def lastR (op : Int) : Bool := op == 14 || op == 18 || op == 19
theorem isLast_any {k : Nat} (hk : k < 20) (a b : Int) (w : World) :
    Calls Tryd.prog 31 #[.agg #[.int .i64 (k : Int), .int .i64 a, .int .i64 b]] w fun e w' => e = .returned (.bool (lastR (k : Int))) ∧ Below w.heap.size w w' := by
  have hw1 := heap_alloc_new w (.cells #[.int .i64 (k : Int), .int .i64 a, .int .i64 b] 34)
  have f1 := three_cellsC hw1
  have HB := Lib.hid (show Below w.heap.size w (w.alloc (.cells #[.int .i64 (k : Int), .int .i64 a, .int .i64 b] 34)) from (Below.refl _ _).alloc (Nat.le_refl _) _)
  obtain ⟨op, hop⟩ : ∃ op : Int, (k : Int) = op := ⟨_, rfl⟩
  have ho := ops20 hk hop.symm
  rw [hop] at f1 HB ⊢
  clear hw1 hop
  rcases ho with rfl | rfl | rfl | rfl | rfl | rfl | rfl | rfl | rfl | rfl | rfl | rfl | rfl | rfl | rfl | rfl | rfl | rfl | rfl | rfl
  all_goals
    go_enter Tryd.func31, Tryd.ntmps31
    go_wp2_with fail
    go_ret
    exact ⟨rfl, HB.out⟩
/-- what a panic of the checker leaves -/
def faultK (e : Int) : List PanicEntry := [{ v := .iface 43 (.agg #[.int .i64 e]), recovered := false }]
theorem giveUpC_any (p : Value) (n : Int) (w : World) :
    Calls Tryd.prog 19 #[p, .int .i64 n] w fun e w' => e = .panicked (faultK n) ∧ w = w' := by
  go_enter Tryd.func19, Tryd.ntmps19
  go_wp2_with fail
  exact ⟨rfl, rfl, rfl⟩
/-! ### maps from numbers to numbers -/
end Go.Proofs.YtdfghcbojbbgcaaDoor.Fl

