/-
  The lexer: Next, which gives up by a panic that it catches.
-/
import Derived.Test.YtmdkneollidkfaaGreatDoorLxT
import Derived.Tactics2
import Derived.Defers
import Derived.Recover
import Derived.Laws.Pointers
namespace Go.Proofs.YtmdkneollidkfaaGreatDoor.Fl
open Go.RowKit

theorem otherL {w : World} {a b : Nat} {c1 c2 : Array Value} {t1 t2 : TypeId} (h1 : w.heap[a]? = some (.cells c1 t1 (0, 0))) (h2 : w.heap[b]? = some (.cells c2 t2 (0, 0))) (ht : t1 ≠ t2) : a ≠ b := by
  rintro rfl
  rw [h1] at h2
  injection h2 with h2
  injection h2 with _ h2 _
  exact ht h2
/-- what a deferred function's panic entry has become -/
def caughtC (e : Int) (b : Nat) : List PanicEntry := [{ v := .iface 175 (.agg #[.int .i64 e, .int .i64 (b : Int)]), recovered := true }]
structure ResAt (w : World) (P1 P2 P3 : Nat) (k : Nat) (t : ByteArray) (n : Int) (q : Nat) (p : Int) (e : Int) : Prop where
  tok : w.heap[P1]? = some (.cells #[.int .i64 (k : Int), .string t, .int .i64 n, .int .i64 (q : Int)] 143 (0, 0))
  beh : w.heap[P2]? = some (.cells #[.int .i64 p] 3 (0, 0))
  err : w.heap[P3]? = some (.cells #[.int .i64 e] 47 (0, 0))
theorem one_cellL {w : World} {g : Nat} {v : Value} {T : TypeId} (h : w.heap[g]? = some (.cells #[v] T (0, 0))) : w.cell? ⟨g, 0, none⟩ = some v ∧ ∀ k, w.frozen? ⟨g, k, none⟩ = false :=
  ⟨cell_of_row _ _ _ _ _ _ h, fun _ => frozen_of_row _ _ _ _ _ h⟩
theorem set1L {w : World} {C : Nat} {a0 : Value} {T : TypeId} (h : w.heap[C]? = some (.cells #[a0] T (0, 0))) (v0 : Value) : (w.setCell ⟨C, 0, none⟩ v0).heap[C]? = some (.cells #[v0] T (0, 0)) :=
  heap_setCell_same w C 0 _ _ v0 h
set_option maxRecDepth 100000 in
set_option maxHeartbeats 4000000 in
theorem catch_idle (P1 P2 P3 : Nat) (w : World) :
    CallsD Tryz.prog 145 #[.pointer (some ⟨P1, 0, none⟩), .pointer (some ⟨P2, 0, none⟩), .pointer (some ⟨P3, 0, none⟩)] .returning w fun e u' w' => e = .returned (.tuple #[]) ∧ u' = .returning ∧ w' = w := by
  refine callsD_of_wpS Tryz.func145 rfl fun c₀ cs hu => ?_
  apply wpS_seq
  apply wpS_region
  simp [wpOpsS, go_sem, recoverD, hu, Tryz.ntmps145, Exit.thenS]
  apply wpS_seq
  apply wpS_seq
  apply wpS_region
  simp [wpOpsS, go_sem, Exit.thenS]
  refine wpS_cond (t := true) (by simp [Act.eval]) ?_
  simp only [if_true]
  refine wpS_of_wp (wp_ret ?_)
  cases c₀
  simp_all [Exit.thenS, bodyPostS, results, Tryz.results145]
theorem run_assert_fault (v : Value) (w : World) : (Instr.typeAssert (.iface 175 v) 20 175 true).run Tryz.prog w = .ok (.tuple #[v, .bool true]) w := by
  simp [Instr.typeAssert, run_underlying Tryz.underlying175, go_sem, Result.andThen]
/-- what the deferred function leaves, where it has caught a panic -/
def CatchQ (B P1 P2 P3 : Nat) (n : Int) (b : Nat) (w : World) (e : Exit) (a : Act) (w' : World) : Prop := (e = .normal ∨ e = .ret) ∧ a.defers = [] ∧ ResAt w' P1 P2 P3 0 ⟨#[]⟩ 0 0 b n ∧ Below B w w'
set_option maxRecDepth 100000 in
set_option maxHeartbeats 4000000 in
theorem catch_panicking (B P1 P2 P3 : Nat) (n : Int) (b : Nat) (w : World) {k : Nat} {t : ByteArray} {m : Int} {q : Nat} {p e0 : Int} (h : ResAt w P1 P2 P3 k t m q p e0) (hB : B ≤ P1 ∧ B ≤ P2 ∧ B ≤ P3 ∧ B ≤ w.heap.size) :
    CallsD Tryz.prog 145 #[.pointer (some ⟨P1, 0, none⟩), .pointer (some ⟨P2, 0, none⟩), .pointer (some ⟨P3, 0, none⟩)] (.panicking (faultC n b)) w fun e u' w' =>
      e = .returned (.tuple #[]) ∧ u' = .panicking (caughtC n b) ∧ ResAt w' P1 P2 P3 0 ⟨#[]⟩ 0 0 b n ∧ Below B w w' := by
  refine callsD_of_wpS Tryz.func145 rfl fun c₀ cs hu => ?_
  apply wpS_seq
  apply wpS_region
  unfold faultC at hu
  simp [wpOpsS, go_sem, recoverD, hu, Tryz.ntmps145, Exit.thenS]
  apply wpS_seq
  apply wpS_seq
  apply wpS_region
  simp [wpOpsS, go_sem, Exit.thenS]
  refine wpS_cond (t := false) (by simp [Act.eval]) ?_
  simp only [Bool.false_eq_true, if_false]
  refine wpS_of_wp (wp_skip ?_)
  simp only [Exit.thenS]
  apply wpS_seq
  apply wpS_region
  simp [wpOpsS, go_sem, Exit.thenS, run_assert_fault, recoverD]
  apply wpS_seq
  apply wpS_seq
  apply wpS_region
  simp [wpOpsS, go_sem, Exit.thenS, recoverD]
  refine wpS_cond (t := false) (by simp [Act.eval]) ?_
  simp only [Bool.false_eq_true, if_false]
  refine wpS_of_wp (wp_skip ?_)
  simp only [Exit.thenS]
  refine wpS_of_wp (Code.wp_mono (Q := CatchQ B P1 P2 P3 n b w) ?_ ?_)
  · rintro e a w' ⟨he, ha, hr, hb⟩
    have h1 : a.defers = [] ∧ ∃ u', ({ c₀ with mode := FrameMode.panicking (caughtC n b) } :: cs : List Frame) = { c₀ with mode := u' } :: cs ∧ ∃ v, (results Tryz.f145 a.tmps).run Tryz.prog w' = .ok v w' ∧ (Ending.returned v = .returned (.tuple #[]) ∧ u' = .panicking (caughtC n b) ∧ ResAt w' P1 P2 P3 0 ⟨#[]⟩ 0 0 b n ∧ Below B w w') :=
      ⟨ha, _, rfl, .tuple #[], by simp [results, Tryz.results145], rfl, rfl, hr, hb⟩
    rcases he with rfl | rfl
    · exact h1
    · exact h1
  clear hu
  have hF := heap_alloc_new w (.cells #[.int .i64 n, .int .i64 (b : Int)] 175)
  have hb1 : Below w.heap.size w (w.alloc (.cells #[.int .i64 n, .int .i64 (b : Int)] 175)) := (Below.refl _ _).alloc (Nat.le_refl _) _
  have H1 := Lib.hid (show ResAt (w.alloc (.cells #[.int .i64 n, .int .i64 (b : Int)] 175)) P1 P2 P3 k t m q p e0 from ⟨(hb1.block _ (lt_of_blk h.tok)).trans h.tok, (hb1.block _ (lt_of_blk h.beh)).trans h.beh, (hb1.block _ (lt_of_blk h.err)).trans h.err⟩)
  have HB1 := Lib.hid (hb1.mono hB.2.2.2)
  generalize w.alloc (.cells #[.int .i64 n, .int .i64 (b : Int)] 175) = w1 at *
  generalize w.heap.size = F at hF ⊢
  have d0 : w1.cell? ⟨F, 0, none⟩ = some (.int .i64 n) := cell_of_row _ _ _ _ _ _ hF
  have d1 : w1.cell? ⟨F, 1, none⟩ = some (.int .i64 (b : Int)) := cell_of_row _ _ _ _ _ _ hF
  have f1 := cells4L H1.out.tok
  have f2 := one_cellL H1.out.beh
  have f3 := one_cellL H1.out.err
  have l1 := lt_of_blk H1.out.tok
  have l2 := lt_of_blk H1.out.beh
  have l3 := lt_of_blk H1.out.err
  have lF := lt_of_blk hF
  have n12 : P1 ≠ P2 := otherL H1.out.tok H1.out.beh (by decide)
  have n13 : P1 ≠ P3 := otherL H1.out.tok H1.out.err (by decide)
  have n23 : P2 ≠ P3 := otherL H1.out.beh H1.out.err (by decide)
  have m12 := n12.symm
  have m13 := n13.symm
  have m23 := n23.symm
  have nF1 : F ≠ P1 := otherL hF H1.out.tok (by decide)
  have nF2 : F ≠ P2 := otherL hF H1.out.beh (by decide)
  have nF3 : F ≠ P3 := otherL hF H1.out.err (by decide)
  clear h hb1
  have hd : ∀ W : World, W.drew.heap = W.heap := fun _ => rfl
  have s12 : ∀ (W : World) (j : Nat) (v : Value), (W.setCell ⟨P1, j, none⟩ v).heap[P2]? = W.heap[P2]? := fun W j v => Below.heap_setCell _ _ _ _ m12
  have s13 : ∀ (W : World) (j : Nat) (v : Value), (W.setCell ⟨P1, j, none⟩ v).heap[P3]? = W.heap[P3]? := fun W j v => Below.heap_setCell _ _ _ _ m13
  have s21 : ∀ (W : World) (j : Nat) (v : Value), (W.setCell ⟨P2, j, none⟩ v).heap[P1]? = W.heap[P1]? := fun W j v => Below.heap_setCell _ _ _ _ n12
  have s23 : ∀ (W : World) (j : Nat) (v : Value), (W.setCell ⟨P2, j, none⟩ v).heap[P3]? = W.heap[P3]? := fun W j v => Below.heap_setCell _ _ _ _ m23
  have s31 : ∀ (W : World) (j : Nat) (v : Value), (W.setCell ⟨P3, j, none⟩ v).heap[P1]? = W.heap[P1]? := fun W j v => Below.heap_setCell _ _ _ _ n13
  have s32 : ∀ (W : World) (j : Nat) (v : Value), (W.setCell ⟨P3, j, none⟩ v).heap[P2]? = W.heap[P2]? := fun W j v => Below.heap_setCell _ _ _ _ n23
  have HS := Lib.hid (And.intro hd (And.intro s12 (And.intro s13 (And.intro s21 (And.intro s23 (And.intro s31 s32))))))
  clear hd s12 s13 s21 s23 s31 s32
  go_region
  all_goals
    obtain ⟨hd, s12, s13, s21, s23, s31, s32⟩ := HS.out
    refine ⟨.inl rfl, rfl, ⟨?_, ?_, ?_⟩, ?_⟩
    · try simp only [hd, s21, s31]
      exact set4 (by first | exact H1.out.tok | (simp only [hd, s21, s31]; exact H1.out.tok)) _ _ _ _
    · try simp only [hd, s12, s32]
      refine set1L (a0 := .int .i64 p) ?_ _
      first | with_reducible exact H1.out.beh | (simp only [hd, s12, s32]; with_reducible exact H1.out.beh)
    · try simp only [hd, s13, s23]
      refine set1L (a0 := .int .i64 e0) ?_ _
      first | with_reducible exact H1.out.err | (simp only [hd, s13, s23]; with_reducible exact H1.out.err)
    · repeat (first
        | with_reducible refine Below.drew ?_
        | with_reducible refine Below.setCell ?_ (by first | exact hB.1 | exact hB.2.1 | exact hB.2.2.1) _)
      with_reducible exact HB1.out
end Go.Proofs.YtmdkneollidkfaaGreatDoor.Fl

/-
  The lexer: Next.
-/
namespace Go.Proofs.YtmdkneollidkfaaGreatDoor.Fl
open Go.RowKit

theorem Ov.toBelow {R B : Nat} {w w' : World} (h : Ov R w w') (hR : B ≤ R) (hB : B ≤ w.heap.size) : Below B w w' :=
  ⟨h.os, h.tape, h.output, h.size, fun k hk => h.block k (by omega) (by omega)⟩
def NextPost (s : ByteArray) (r : TokR) (w : World) (e : Ending) (w' : World) : Prop :=
  Below w.heap.size w w' ∧ ((∃ k t n q p tb, r = .inl (k, t, n, q, p) ∧ q ≤ s.size ∧ p ≤ s.size ∧ sb tb = t ∧ e = .returned (.tuple #[tokV k tb n q, .int .i64 (p : Int), .int .i64 0])) ∨ ∃ n q, r = .inr (n, q) ∧ q ≤ s.size ∧ e = .returned (.tuple #[tokV 0 ⟨#[]⟩ 0 0, .int .i64 (q : Int), .int .i64 n]))
theorem next_boxes (w : World) (s : ByteArray) (p : Nat) (w4 : World) (hw : w4 = (((w.alloc (.cells #[.int .i64 0, .string ⟨#[]⟩, .int .i64 0, .int .i64 0] 143)).alloc (.cells #[.int .i64 0] 3)).alloc (.cells #[.int .i64 0] 47)).alloc (.cells #[.string s, .int .i64 (p : Int), .int .i64 0] 179)) :
    RdrAt w4 (w.heap.size + 1 + 1 + 1) s p 0 ∧ ResAt w4 w.heap.size (w.heap.size + 1) (w.heap.size + 1 + 1) 0 ⟨#[]⟩ 0 0 0 0 ∧ Below w.heap.size w w4 ∧ w.heap.size + 1 + 1 + 1 < w4.heap.size := by
  have a1 := heap_alloc_new w (.cells #[.int .i64 0, .string ⟨#[]⟩, .int .i64 0, .int .i64 0] 143)
  have b1 := (Below.refl w.heap.size w).alloc (Nat.le_refl _) (.cells #[.int .i64 0, .string ⟨#[]⟩, .int .i64 0, .int .i64 0] 143)
  have z1 : (w.alloc (.cells #[.int .i64 0, .string ⟨#[]⟩, .int .i64 0, .int .i64 0] 143)).heap.size = w.heap.size + 1 := World.size_alloc _ _
  generalize w.alloc (.cells #[.int .i64 0, .string ⟨#[]⟩, .int .i64 0, .int .i64 0] 143) = w1 at *
  have a2 := heap_alloc_new w1 (.cells #[.int .i64 0] 3)
  have b2 := (Below.refl w1.heap.size w1).alloc (Nat.le_refl _) (.cells #[.int .i64 0] 3)
  have z2 : (w1.alloc (.cells #[.int .i64 0] 3)).heap.size = w1.heap.size + 1 := World.size_alloc _ _
  generalize w1.alloc (.cells #[.int .i64 0] 3) = w2 at *
  have a3 := heap_alloc_new w2 (.cells #[.int .i64 0] 47)
  have b3 := (Below.refl w2.heap.size w2).alloc (Nat.le_refl _) (.cells #[.int .i64 0] 47)
  have z3 : (w2.alloc (.cells #[.int .i64 0] 47)).heap.size = w2.heap.size + 1 := World.size_alloc _ _
  generalize w2.alloc (.cells #[.int .i64 0] 47) = w3 at *
  have a4 := heap_alloc_new w3 (.cells #[.string s, .int .i64 (p : Int), .int .i64 0] 179)
  have b4 := (Below.refl w3.heap.size w3).alloc (Nat.le_refl _) (.cells #[.string s, .int .i64 (p : Int), .int .i64 0] 179)
  have z4 : (w3.alloc (.cells #[.string s, .int .i64 (p : Int), .int .i64 0] 179)).heap.size = w3.heap.size + 1 := World.size_alloc _ _
  rw [← hw] at a4 b4 z4
  clear hw
  rw [z1] at a2
  rw [z2, z1] at a3
  rw [z3, z2, z1] at a4
  refine ⟨a4, ⟨?_, ?_, ?_⟩, ?_, by omega⟩
  · exact (b4.block _ (by omega)).trans ((b3.block _ (by omega)).trans ((b2.block _ (by omega)).trans a1))
  · exact (b4.block _ (by omega)).trans ((b3.block _ (by omega)).trans a2)
  · exact (b4.block _ (by omega)).trans a3
  · exact b1.trans ((b2.mono (by omega)).trans ((b3.mono (by omega)).trans (b4.mono (by omega))))
theorem away4 {w : World} {C D : Nat} (v0 v1 v2 v3 : Value) (h : D ≠ C) :
    ((((w.setCell ⟨C, 0, none⟩ v0).setCell ⟨C, 1, none⟩ v1).setCell ⟨C, 2, none⟩ v2).setCell ⟨C, 3, none⟩ v3).heap[D]? = w.heap[D]? :=
  (Below.heap_setCell _ _ _ _ h).trans ((Below.heap_setCell _ _ _ _ h).trans ((Below.heap_setCell _ _ _ _ h).trans (Below.heap_setCell _ _ _ _ h)))
theorem next_fin {w W : World} {B k : Nat} {tb : ByteArray} {n : Int} {q : Nat} (pp : Nat) (h : ResAt W B (B + 1) (B + 1 + 1) k tb n q 0 0) (hb : Below B w W) :
    ResAt ((((((W.setCell ⟨B, 0, none⟩ (.int .i64 (k : Int))).setCell ⟨B, 1, none⟩ (.string tb)).setCell ⟨B, 2, none⟩ (.int .i64 n)).setCell ⟨B, 3, none⟩ (.int .i64 (q : Int))).setCell ⟨B + 1, 0, none⟩ (.int .i64 (pp : Int))).setCell ⟨B + 1 + 1, 0, none⟩ (.int .i64 0)).drew B (B + 1) (B + 1 + 1) k tb n q pp 0 ∧
    Below B w ((((((W.setCell ⟨B, 0, none⟩ (.int .i64 (k : Int))).setCell ⟨B, 1, none⟩ (.string tb)).setCell ⟨B, 2, none⟩ (.int .i64 n)).setCell ⟨B, 3, none⟩ (.int .i64 (q : Int))).setCell ⟨B + 1, 0, none⟩ (.int .i64 (pp : Int))).setCell ⟨B + 1 + 1, 0, none⟩ (.int .i64 0)).drew := by
  have t1 := set4 h.tok (.int .i64 (k : Int)) (.string tb) (.int .i64 n) (.int .i64 (q : Int))
  have t2 := (away4 (w := W) (C := B) (D := B + 1) (.int .i64 (k : Int)) (.string tb) (.int .i64 n) (.int .i64 (q : Int)) (by omega)).trans h.beh
  have t3 := (away4 (w := W) (C := B) (D := B + 1 + 1) (.int .i64 (k : Int)) (.string tb) (.int .i64 n) (.int .i64 (q : Int)) (by omega)).trans h.err
  have b1 := (((hb.setCell (p := ⟨B, 0, none⟩) (Nat.le_refl _) (.int .i64 (k : Int))).setCell (p := ⟨B, 1, none⟩) (Nat.le_refl _) (.string tb)).setCell (p := ⟨B, 2, none⟩) (Nat.le_refl _) (.int .i64 n)).setCell (p := ⟨B, 3, none⟩) (Nat.le_refl _) (.int .i64 (q : Int))
  generalize (((W.setCell ⟨B, 0, none⟩ (.int .i64 (k : Int))).setCell ⟨B, 1, none⟩ (.string tb)).setCell ⟨B, 2, none⟩ (.int .i64 n)).setCell ⟨B, 3, none⟩ (.int .i64 (q : Int)) = V at *
  have u1 : (V.setCell ⟨B + 1, 0, none⟩ (.int .i64 (pp : Int))).heap[B]? = _ := (Below.heap_setCell V ⟨B + 1, 0, none⟩ _ B (by show B ≠ B + 1; omega)).trans t1
  have u2 := set1L t2 (.int .i64 (pp : Int))
  have u3 : (V.setCell ⟨B + 1, 0, none⟩ (.int .i64 (pp : Int))).heap[B + 1 + 1]? = _ := (Below.heap_setCell V ⟨B + 1, 0, none⟩ _ (B + 1 + 1) (by show B + 1 + 1 ≠ B + 1; omega)).trans t3
  have b2 := b1.setCell (p := ⟨B + 1, 0, none⟩) (Nat.le_succ _) (.int .i64 (pp : Int))
  generalize V.setCell ⟨B + 1, 0, none⟩ (.int .i64 (pp : Int)) = V2 at *
  have x1 : (V2.setCell ⟨B + 1 + 1, 0, none⟩ (.int .i64 0)).heap[B]? = _ := (Below.heap_setCell V2 ⟨B + 1 + 1, 0, none⟩ _ B (by show B ≠ B + 1 + 1; omega)).trans u1
  have x2 : (V2.setCell ⟨B + 1 + 1, 0, none⟩ (.int .i64 0)).heap[B + 1]? = _ := (Below.heap_setCell V2 ⟨B + 1 + 1, 0, none⟩ _ (B + 1) (by show B + 1 ≠ B + 1 + 1; omega)).trans u2
  have x3 := set1L u3 (.int .i64 0)
  have b3 := b2.setCell (p := ⟨B + 1 + 1, 0, none⟩) (show B ≤ B + 1 + 1 by omega) (.int .i64 0)
  exact ⟨⟨x1, x2, x3⟩, b3.drew⟩
/-- what the last statement of Next leaves -/
def NextQ (B k : Nat) (tb : ByteArray) (n : Int) (q p : Nat) (w : World) (e : Exit) (a : Act) (w' : World) : Prop :=
  e = .ret ∧ a.defers = [{ target := .fn (.func 145) #[.pointer (some ⟨B, 0, none⟩), .pointer (some ⟨B + 1, 0, none⟩), .pointer (some ⟨B + 1 + 1, 0, none⟩)], args := #[] }] ∧
  a.tmps[4]?.getD undef = .pointer (some ⟨B, 0, none⟩) ∧ a.tmps[5]?.getD undef = .pointer (some ⟨B + 1, 0, none⟩) ∧ a.tmps[6]?.getD undef = .pointer (some ⟨B + 1 + 1, 0, none⟩) ∧
  ResAt w' B (B + 1) (B + 1 + 1) k tb n q p 0 ∧ Below B w w'
theorem next_door {B k : Nat} {tb : ByteArray} {n : Int} {q p : Nat} {w : World} {R : Ending → World → Prop} (hR : ∀ w', Below B w w' → R (.returned (.tuple #[tokV k tb n q, .int .i64 (p : Int), .int .i64 0])) w') (e : Exit) (a : Act) (w' : World) (h : NextQ B k tb n q p w e a w') :
    bodyPostD Tryz.prog Tryz.f118 R e a w' := by
  obtain ⟨rfl, hd, h4, h5, h6, hr, hb⟩ := h
  show Leaves Tryz.prog Tryz.f118 a.tmps R a.defers .returning w'
  rw [hd]
  refine leaves_cons (f := 145) (args := #[.pointer (some ⟨B, 0, none⟩), .pointer (some ⟨B + 1, 0, none⟩), .pointer (some ⟨B + 1 + 1, 0, none⟩)]) (by simp) (by simp [go_sem]) ?_
  refine (catch_idle _ _ _ _).mono ?_
  rintro e u' w'' ⟨rfl, rfl, rfl⟩
  obtain ⟨c0, c1, c2, c3, _⟩ := cells4L hr.tok
  obtain ⟨c4, _⟩ := one_cellL hr.beh
  obtain ⟨c5, _⟩ := one_cellL hr.err
  have hp := hR _ hb
  unfold tokV at hp
  simp [Leaves, settle, results, Tryz.results118, go_sem, h4, h5, h6, c0, c1, c2, c3, c4, c5]
  exact hp
set_option maxRecDepth 100000 in
set_option maxHeartbeats 4000000 in
theorem next_any (s : ByteArray) (at0 : Int) (p : Nat) (w : World) (hs : s.size ≤ 16777216) (hp : min (max at0 0) (s.size : Int) = (p : Int)) (hm : MaxAt w) (hE : ∀ w', Below w.heap.size w w' → EnvL w') :
    Calls Tryz.prog 118 #[.string s, .int .i64 at0] w (NextPost s (tokR s p) w) := by
  have hmf : ∀ (fn : Fn) (first cap : Array Value) (w : World), (Instr.makeFunc fn first cap).run Tryz.prog w = .ok (.func fn first cap) w := fun _ _ _ _ => rfl
  have hps : p ≤ s.size := by omega
  have HE := Lib.hid hE
  have hm0 : 0 < w.heap.size := by
    obtain ⟨m, hm⟩ := hm
    exact World.block_lt_of_cell? _ _ hm
  have HM := Lib.hid hm
  have h4 := Lib.hid (next_boxes w s p _ rfl)
  have H0 := Lib.hid hm0
  clear hE hm hm0
  go_enter_defers Tryz.func118, Tryz.ntmps118
  go_wp2_with fail
  obtain ⟨hr4, hres4, hb4, hz4⟩ := h4.out
  clear h4
  generalize (((w.alloc (.cells #[.int .i64 0, .string ⟨#[]⟩, .int .i64 0, .int .i64 0] 143)).alloc (.cells #[.int .i64 0] 3)).alloc (.cells #[.int .i64 0] 47)).alloc (.cells #[.string s, .int .i64 (p : Int), .int .i64 0] 179) = w4 at *
  have hm4 : MaxAt w4 := by
    obtain ⟨m, hm⟩ := HM.out
    exact ⟨m, (World.cell?_of_block (a := ⟨0, 0, none⟩) (hb4.block 0 H0.out)).trans hm⟩
  have ht := token_any (w.heap.size + 1 + 1 + 1) s p 0 w4 hr4 hs hps (by omega) hm4 (fun w' ho => HE.out w' (hb4.trans (ho.toBelow (by omega) hb4.size)))
  have HB4 := Lib.hid hb4
  have HR4 := Lib.hid hres4
  have HZ := Lib.hid hz4
  clear hb4 hres4 hm4 hr4 hz4
  refine ht.mono ?_
  rintro e w5 (⟨k, t, n, q, pp, tb, hr, hq, hpp, rfl, htb, hrd, ho⟩ | ⟨n, q, hr, hq, rfl, ho⟩)
  case inr =>
    have hsz := HR4.out
    have l1 := lt_of_blk hsz.tok
    have l2 := lt_of_blk hsz.beh
    have l3 := lt_of_blk hsz.err
    have hb5 : Below w.heap.size w w5 := HB4.out.trans (ho.toBelow (by omega) HB4.out.size)
    have hres5 : ResAt w5 w.heap.size (w.heap.size + 1) (w.heap.size + 1 + 1) 0 ⟨#[]⟩ 0 0 0 0 := ⟨(ho.block _ l1 (by omega)).trans hsz.tok, (ho.block _ l2 (by omega)).trans hsz.beh, (ho.block _ l3 (by omega)).trans hsz.err⟩
    refine leaves_cons (f := 145) (args := #[.pointer (some ⟨w.heap.size, 0, none⟩), .pointer (some ⟨w.heap.size + 1, 0, none⟩), .pointer (some ⟨w.heap.size + 1 + 1, 0, none⟩)]) (by simp) (by simp [go_sem]) ?_
    refine (catch_panicking w.heap.size _ _ _ n q w5 hres5 ⟨by omega, by omega, by omega, hb5.size⟩).mono ?_
    rintro e u' w6 ⟨rfl, rfl, hR, hB⟩
    have hpost : NextPost s (tokR s p) w (.returned (.tuple #[tokV 0 ⟨#[]⟩ 0 0, .int .i64 (q : Int), .int .i64 n])) w6 := ⟨hb5.trans hB, .inr ⟨n, q, hr, hq, rfl⟩⟩
    obtain ⟨c0, c1, c2, c3, _⟩ := cells4L hR.tok
    obtain ⟨c4, _⟩ := one_cellL hR.beh
    obtain ⟨c5, _⟩ := one_cellL hR.err
    simp [Leaves, settle, caughtC, results, Tryz.results118, go_sem, c0, c1, c2, c3, c4, c5]
    exact hpost
  clear ht
  have hsz := HR4.out
  have l1 := lt_of_blk hsz.tok
  have l2 := lt_of_blk hsz.beh
  have l3 := lt_of_blk hsz.err
  have hb5 : Below w.heap.size w w5 := HB4.out.trans (ho.toBelow (by omega) HB4.out.size)
  have hres5 : ResAt w5 w.heap.size (w.heap.size + 1) (w.heap.size + 1 + 1) 0 ⟨#[]⟩ 0 0 0 0 := ⟨(ho.block _ l1 (by omega)).trans hsz.tok, (ho.block _ l2 (by omega)).trans hsz.beh, (ho.block _ l3 (by omega)).trans hsz.err⟩
  have f1 := cells4L hres5.tok
  have f2 := one_cellL hres5.beh
  have f3 := one_cellL hres5.err
  have f4 := hrd.cells
  clear hsz l1 l2 l3 ho
  have HB5 := Lib.hid hb5
  have HR5 := Lib.hid hres5
  have HRr := Lib.hid hr
  clear hb5 hres5 hr
  unfold tokV
  go_wp2_with fail
  have hb6 : Below w.heap.size w ((((w5.setCell ⟨w.heap.size, 0, none⟩ (.int .i64 (k : Int))).setCell ⟨w.heap.size, 1, none⟩ (.string tb)).setCell ⟨w.heap.size, 2, none⟩ (.int .i64 n)).setCell ⟨w.heap.size, 3, none⟩ (.int .i64 (q : Int))) :=
    (((HB5.out.setCell (Nat.le_refl _) _).setCell (Nat.le_refl _) _).setCell (Nat.le_refl _) _).setCell (Nat.le_refl _) _
  have hk6 : ResAt ((((w5.setCell ⟨w.heap.size, 0, none⟩ (.int .i64 (k : Int))).setCell ⟨w.heap.size, 1, none⟩ (.string tb)).setCell ⟨w.heap.size, 2, none⟩ (.int .i64 n)).setCell ⟨w.heap.size, 3, none⟩ (.int .i64 (q : Int))) w.heap.size (w.heap.size + 1) (w.heap.size + 1 + 1) k tb n q 0 0 := by
    refine ⟨set4 HR5.out.tok _ _ _ _, ?_, ?_⟩
    · exact (away4 _ _ _ _ (by omega)).trans HR5.out.beh
    · exact (away4 _ _ _ _ (by omega)).trans HR5.out.err
  have hr6 : RdrAt ((((w5.setCell ⟨w.heap.size, 0, none⟩ (.int .i64 (k : Int))).setCell ⟨w.heap.size, 1, none⟩ (.string tb)).setCell ⟨w.heap.size, 2, none⟩ (.int .i64 n)).setCell ⟨w.heap.size, 3, none⟩ (.int .i64 (q : Int))) (w.heap.size + 1 + 1 + 1) s pp q :=
    (((hrd.other (by show w.heap.size ≠ _; omega) _ _).other (by show w.heap.size ≠ _; omega) _ _).other (by show w.heap.size ≠ _; omega) _ _).other (by show w.heap.size ≠ _; omega) _ _
  clear HB5 HR5 f1 f2 f3 f4 hrd
  generalize (((w5.setCell ⟨w.heap.size, 0, none⟩ (.int .i64 (k : Int))).setCell ⟨w.heap.size, 1, none⟩ (.string tb)).setCell ⟨w.heap.size, 2, none⟩ (.int .i64 n)).setCell ⟨w.heap.size, 3, none⟩ (.int .i64 (q : Int)) = w6 at *
  have HD := Lib.hid (next_door (B := w.heap.size) (k := k) (tb := tb) (n := n) (q := q) (p := pp) (w := w) (R := NextPost s (tokR s p) w) (fun w' hb => ⟨hb, .inl ⟨k, t, n, q, pp, tb, HRr.out, hq, hpp, htb, rfl⟩⟩))
  have f1 := cells4L hk6.tok
  have f2 := one_cellL hk6.beh
  have f3 := one_cellL hk6.err
  have f4 := hr6.cells
  go_region
  all_goals
    go_wp2_with fail
    have hfin := next_fin pp hk6 hb6
    exact HD.out _ _ _ ⟨rfl, rfl, rfl, rfl, rfl, hfin.1, hfin.2⟩
end Go.Proofs.YtmdkneollidkfaaGreatDoor.Fl
