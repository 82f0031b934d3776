/-
  The lexer: Next, which gives up by a panic that it catches.
-/
import Derived.Test.YtakijeooaeflkaaGreatDoorLxT
import Derived.Tactics2
import Derived.Defers
import Derived.Recover
import Derived.Laws.Pointers
namespace Go.Proofs.YtakijeooaeflkaaGreatDoor.Fl
open Go.RowKit

theorem otherL {w : World} {a b : Nat} {c1 c2 : Array Value} {t1 t2 : TypeId} (h1 : w.heap[a]? = some (.cells c1 t1 (0, 0))) (h2 : w.heap[b]? = some (.cells c2 t2 (0, 0))) (ht : t1 ≠ t2) : a ≠ b := by
  rintro rfl
  rw [h1] at h2
  injection h2 with h2
  injection h2 with _ h2 _
  exact ht h2
/-- what a deferred function's panic entry has become -/
def caughtC (e : Int) (b : Nat) : List PanicEntry := [{ v := .iface 112 (.agg #[.int .i64 e, .int .i64 (b : Int)]), recovered := true }]
structure ResAt (w : World) (P1 P2 P3 : Nat) (k : Nat) (t : ByteArray) (n : Int) (q : Nat) (p : Int) (e : Int) : Prop where
  tok : w.heap[P1]? = some (.cells #[.int .i64 (k : Int), .string t, .int .i64 n, .int .i64 (q : Int)] 30 (0, 0))
  beh : w.heap[P2]? = some (.cells #[.int .i64 p] 3 (0, 0))
  err : w.heap[P3]? = some (.cells #[.int .i64 e] 27 (0, 0))
theorem one_cellL {w : World} {g : Nat} {v : Value} {T : TypeId} (h : w.heap[g]? = some (.cells #[v] T (0, 0))) : w.cell? ⟨g, 0, none⟩ = some v ∧ ∀ k, w.frozen? ⟨g, k, none⟩ = false :=
  ⟨cell_of_row _ _ _ _ _ _ h, fun _ => frozen_of_row _ _ _ _ _ h⟩
theorem set1L {w : World} {C : Nat} {a0 : Value} {T : TypeId} (h : w.heap[C]? = some (.cells #[a0] T (0, 0))) (v0 : Value) : (w.setCell ⟨C, 0, none⟩ v0).heap[C]? = some (.cells #[v0] T (0, 0)) :=
  heap_setCell_same w C 0 _ _ v0 h
set_option maxRecDepth 100000 in
set_option maxHeartbeats 4000000 in
theorem catch_idle (P1 P2 P3 : Nat) (w : World) :
    CallsD Tryz.prog 55 #[.pointer (some ⟨P1, 0, none⟩), .pointer (some ⟨P2, 0, none⟩), .pointer (some ⟨P3, 0, none⟩)] .returning w fun e u' w' => e = .returned (.tuple #[]) ∧ u' = .returning ∧ w' = w := by
  refine callsD_of_wpS Tryz.func55 rfl fun c₀ cs hu => ?_
  apply wpS_seq
  apply wpS_region
  simp [wpOpsS, go_sem, recoverD, hu, Tryz.ntmps55, Exit.thenS]
  apply wpS_seq
  apply wpS_seq
  apply wpS_region
  simp [wpOpsS, go_sem, Exit.thenS]
  refine wpS_cond (t := true) (by simp [Act.eval]) ?_
  simp only [if_true]
  refine wpS_of_wp (wp_ret ?_)
  cases c₀
  simp_all [Exit.thenS, bodyPostS, results, Tryz.results55]
theorem run_assert_fault (v : Value) (w : World) : (Instr.typeAssert (.iface 112 v) 20 112 true).run Tryz.prog w = .ok (.tuple #[v, .bool true]) w := by
  simp [Instr.typeAssert, run_underlying Tryz.underlying112, go_sem, Result.andThen]
/-- what the deferred function leaves, where it has caught a panic -/
def CatchQ (B P1 P2 P3 : Nat) (n : Int) (b : Nat) (w : World) (e : Exit) (a : Act) (w' : World) : Prop := (e = .normal ∨ e = .ret) ∧ a.defers = [] ∧ ResAt w' P1 P2 P3 0 ⟨#[]⟩ 0 0 b n ∧ Below B w w'
set_option maxRecDepth 100000 in
set_option maxHeartbeats 4000000 in
theorem catch_panicking (B P1 P2 P3 : Nat) (n : Int) (b : Nat) (w : World) {k : Nat} {t : ByteArray} {m : Int} {q : Nat} {p e0 : Int} (h : ResAt w P1 P2 P3 k t m q p e0) (hB : B ≤ P1 ∧ B ≤ P2 ∧ B ≤ P3 ∧ B ≤ w.heap.size) :
    CallsD Tryz.prog 55 #[.pointer (some ⟨P1, 0, none⟩), .pointer (some ⟨P2, 0, none⟩), .pointer (some ⟨P3, 0, none⟩)] (.panicking (faultC n b)) w fun e u' w' =>
      e = .returned (.tuple #[]) ∧ u' = .panicking (caughtC n b) ∧ ResAt w' P1 P2 P3 0 ⟨#[]⟩ 0 0 b n ∧ Below B w w' := by
  refine callsD_of_wpS Tryz.func55 rfl fun c₀ cs hu => ?_
  apply wpS_seq
  apply wpS_region
  unfold faultC at hu
  simp [wpOpsS, go_sem, recoverD, hu, Tryz.ntmps55, Exit.thenS]
  apply wpS_seq
  apply wpS_seq
  apply wpS_region
  simp [wpOpsS, go_sem, Exit.thenS]
  refine wpS_cond (t := false) (by simp [Act.eval]) ?_
  simp only [Bool.false_eq_true, if_false]
  refine wpS_of_wp (wp_skip ?_)
  simp only [Exit.thenS]
  apply wpS_seq
  apply wpS_region
  simp [wpOpsS, go_sem, Exit.thenS, run_assert_fault, recoverD]
  apply wpS_seq
  apply wpS_seq
  apply wpS_region
  simp [wpOpsS, go_sem, Exit.thenS, recoverD]
  refine wpS_cond (t := false) (by simp [Act.eval]) ?_
  simp only [Bool.false_eq_true, if_false]
  refine wpS_of_wp (wp_skip ?_)
  simp only [Exit.thenS]
  refine wpS_of_wp (Code.wp_mono (Q := CatchQ B P1 P2 P3 n b w) ?_ ?_)
  · rintro e a w' ⟨he, ha, hr, hb⟩
    have h1 : a.defers = [] ∧ ∃ u', ({ c₀ with mode := FrameMode.panicking (caughtC n b) } :: cs : List Frame) = { c₀ with mode := u' } :: cs ∧ ∃ v, (results Tryz.f55 a.tmps).run Tryz.prog w' = .ok v w' ∧ (Ending.returned v = .returned (.tuple #[]) ∧ u' = .panicking (caughtC n b) ∧ ResAt w' P1 P2 P3 0 ⟨#[]⟩ 0 0 b n ∧ Below B w w') :=
      ⟨ha, _, rfl, .tuple #[], by simp [results, Tryz.results55], rfl, rfl, hr, hb⟩
    rcases he with rfl | rfl
    · exact h1
    · exact h1
  clear hu
  have hF := heap_alloc_new w (.cells #[.int .i64 n, .int .i64 (b : Int)] 112)
  have hb1 : Below w.heap.size w (w.alloc (.cells #[.int .i64 n, .int .i64 (b : Int)] 112)) := (Below.refl _ _).alloc (Nat.le_refl _) _
  have H1 := Lib.hid (show ResAt (w.alloc (.cells #[.int .i64 n, .int .i64 (b : Int)] 112)) P1 P2 P3 k t m q p e0 from ⟨(hb1.block _ (lt_of_blk h.tok)).trans h.tok, (hb1.block _ (lt_of_blk h.beh)).trans h.beh, (hb1.block _ (lt_of_blk h.err)).trans h.err⟩)
  have HB1 := Lib.hid (hb1.mono hB.2.2.2)
  generalize w.alloc (.cells #[.int .i64 n, .int .i64 (b : Int)] 112) = w1 at *
  generalize w.heap.size = F at hF ⊢
  have d0 : w1.cell? ⟨F, 0, none⟩ = some (.int .i64 n) := cell_of_row _ _ _ _ _ _ hF
  have d1 : w1.cell? ⟨F, 1, none⟩ = some (.int .i64 (b : Int)) := cell_of_row _ _ _ _ _ _ hF
  have f1 := cells4L H1.out.tok
  have f2 := one_cellL H1.out.beh
  have f3 := one_cellL H1.out.err
  have l1 := lt_of_blk H1.out.tok
  have l2 := lt_of_blk H1.out.beh
  have l3 := lt_of_blk H1.out.err
  have lF := lt_of_blk hF
  have n12 : P1 ≠ P2 := otherL H1.out.tok H1.out.beh (by decide)
  have n13 : P1 ≠ P3 := otherL H1.out.tok H1.out.err (by decide)
  have n23 : P2 ≠ P3 := otherL H1.out.beh H1.out.err (by decide)
  have m12 := n12.symm
  have m13 := n13.symm
  have m23 := n23.symm
  have nF1 : F ≠ P1 := otherL hF H1.out.tok (by decide)
  have nF2 : F ≠ P2 := otherL hF H1.out.beh (by decide)
  have nF3 : F ≠ P3 := otherL hF H1.out.err (by decide)
  clear h hb1
  have hd : ∀ W : World, W.drew.heap = W.heap := fun _ => rfl
  have s12 : ∀ (W : World) (j : Nat) (v : Value), (W.setCell ⟨P1, j, none⟩ v).heap[P2]? = W.heap[P2]? := fun W j v => Below.heap_setCell _ _ _ _ m12
  have s13 : ∀ (W : World) (j : Nat) (v : Value), (W.setCell ⟨P1, j, none⟩ v).heap[P3]? = W.heap[P3]? := fun W j v => Below.heap_setCell _ _ _ _ m13
  have s21 : ∀ (W : World) (j : Nat) (v : Value), (W.setCell ⟨P2, j, none⟩ v).heap[P1]? = W.heap[P1]? := fun W j v => Below.heap_setCell _ _ _ _ n12
  have s23 : ∀ (W : World) (j : Nat) (v : Value), (W.setCell ⟨P2, j, none⟩ v).heap[P3]? = W.heap[P3]? := fun W j v => Below.heap_setCell _ _ _ _ m23
  have s31 : ∀ (W : World) (j : Nat) (v : Value), (W.setCell ⟨P3, j, none⟩ v).heap[P1]? = W.heap[P1]? := fun W j v => Below.heap_setCell _ _ _ _ n13
  have s32 : ∀ (W : World) (j : Nat) (v : Value), (W.setCell ⟨P3, j, none⟩ v).heap[P2]? = W.heap[P2]? := fun W j v => Below.heap_setCell _ _ _ _ n23
  have HS := Lib.hid (And.intro hd (And.intro s12 (And.intro s13 (And.intro s21 (And.intro s23 (And.intro s31 s32))))))
  clear hd s12 s13 s21 s23 s31 s32
  go_region
  all_goals
    obtain ⟨hd, s12, s13, s21, s23, s31, s32⟩ := HS.out
    refine ⟨.inl rfl, rfl, ⟨?_, ?_, ?_⟩, ?_⟩
    · try simp only [hd, s21, s31]
      exact set4 (by first | exact H1.out.tok | (simp only [hd, s21, s31]; exact H1.out.tok)) _ _ _ _
    · try simp only [hd, s12, s32]
      refine set1L (a0 := .int .i64 p) ?_ _
      first | with_reducible exact H1.out.beh | (simp only [hd, s12, s32]; with_reducible exact H1.out.beh)
    · try simp only [hd, s13, s23]
      refine set1L (a0 := .int .i64 e0) ?_ _
      first | with_reducible exact H1.out.err | (simp only [hd, s13, s23]; with_reducible exact H1.out.err)
    · repeat (first
        | with_reducible refine Below.drew ?_
        | with_reducible refine Below.setCell ?_ (by first | exact hB.1 | exact hB.2.1 | exact hB.2.2.1) _)
      with_reducible exact HB1.out
end Go.Proofs.YtakijeooaeflkaaGreatDoor.Fl
