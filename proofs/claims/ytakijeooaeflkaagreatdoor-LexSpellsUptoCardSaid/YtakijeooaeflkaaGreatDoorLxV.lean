/-
  The lexer: the statement that ranges over strings.SplitSeq("at:put", ":").
-/
import Derived.Test.YtakijeooaeflkaaGreatDoorLxW
namespace Go.Proofs.YtakijeooaeflkaaGreatDoor.Fl
open Go.RowKit Go.Shelf

/-- a loop's record -/
def recL (fn : FuncId) (tmps : Array Value) (ps : Array Tmp) (assign body : Code) (D : Nat) (st : LoopState) (pe : Option Code) : Loop :=
  { state := st, pending := pe, fn := fn, tmps := tmps, params := ps, assign := assign, body := body, defers := D }
/-- what a round of the range leaves -/
def SplRound (B : Nat) (X : Nat → Prop) (I : List Bool → World → Prop) (xs : List Bool) (W : World) (e : Exit) (_ : Act) (W' : World) : Prop :=
  e = .normal ∧ KpS X W W' ∧ (∀ k o, B ≤ k → W.heap[k]? = some o → o.isCells = false → W'.heap[k]? = W.heap[k]?) ∧ I xs W'
theorem KpS.trans {X : Nat → Prop} {A B C : World} (h : KpS X A B) (h' : KpS X B C) : KpS X A C :=
  ⟨Nat.le_trans h.1 h'.1, fun k cs T fr hk hx => (h'.2 k cs T fr ((h.2 k cs T fr hk hx).trans hk) hx).trans (h.2 k cs T fr hk hx)⟩
theorem kps_put {X : Nat → Prop} {W : World} {l : Nat} {o : Obj} (o' : Obj) (h : W.heap[l]? = some o) (ho : o.isCells = false) : KpS X W (W.putObj l o') :=
  ⟨by simp, fun k cs T fr hc _ => World.putObj_heap_other (fun e => by subst e; rw [h] at hc; cases hc; cases ho)⟩
set_option maxRecDepth 100000 in
set_option maxHeartbeats 4000000 in
theorem range_spl {g : Operand} {ps : Array Tmp} {assign body : Code} {Q : Exit → Act → World → Prop} {a : Act} {w : World} {n : Nat} (hn : 2 ≤ n) {b1 b2 b3 : Nat}
    (hg : a.eval g = .func (.func 122) #[] #[.pointer (some ⟨b1, 0, none⟩), .pointer (some ⟨b2, 0, none⟩), .pointer (some ⟨b3, 0, none⟩)])
    (hS : SplAt w b1 b2 b3 bothB) (hb : b1 ≠ b2 ∧ b3 ≠ b2) {X : Nat → Prop} (hX : ¬ X b1 ∧ ¬ X b2 ∧ ¬ X b3) (hps : ps.size = 1)
    (I : List Bool → World → Prop) (hI : ∀ s W l o o', I s W → w.heap.size ≤ l → W.heap[l]? = some o → o.isCells = false → I s (W.putObj l o')) (hIa : ∀ s W o, I s W → I s (W.alloc o))
    (hI2 : ∀ s W v, I s W → I s (W.setCell ⟨b2, 0, none⟩ v)) (h0 : I [] w)
    (hround : ∀ (l : Nat) (pre : List Bool) (x : Bool) (W : World) (K : Act → World → Prop), I pre W → pre.length < 2 →
      (∀ a', (∀ W2, I pre W2 → body.wpIn (Fence.wide.inRound l) (n - 1 - 1) Tryz.prog (SplRound w.heap.size X I (pre ++ [x]) W2) a' W2) → K a' W) →
      assign.wpIn (Fence.wide.inRound l) (n - 1 - 1) Tryz.prog (Exit.then K (fun _ _ _ => False)) { tmps := (ps.zip (encS x)).foldl (fun t (p, v) => t.setIfInBounds p v) a.tmps, defers := [] } W)
    (hdone : ∀ W, I [false, true] W → W.heap[w.heap.size]? = some (.deferred (some [])) → Q .normal { a with defers := { target := .collected w.heap.size, args := #[] } :: a.defers } W) :
    (Code.rangeFunc g ps assign body).wpIn Fence.wide n Tryz.prog Q a w := by
  refine wpIn_rangeFunc ?_
  intro fn hfn
  obtain ⟨W1, hW1⟩ : ∃ W1, (w.alloc (.deferred (some []))).alloc (.loop (recL fn a.tmps ps assign body w.heap.size .ready none)) = W1 := ⟨_, rfl⟩
  have hL1 : W1.heap[w.heap.size + 1]? = some (.loop (recL fn a.tmps ps assign body w.heap.size .ready none)) := by
    rw [← hW1]
    have := heap_alloc_new (w.alloc (.deferred (some []))) (.loop (recL fn a.tmps ps assign body w.heap.size .ready none))
    rwa [World.size_alloc] at this
  have hK1 : W1.heap[w.heap.size]? = some (.deferred (some [])) := by
    rw [← hW1]
    exact (Below.heap_alloc _ _ _ (by rw [World.size_alloc]; omega)).trans (heap_alloc_new w _)
  have hI1 : I [] W1 := by rw [← hW1]; exact hIa _ _ _ (hIa _ _ _ h0)
  have hb1 : Below w.heap.size w W1 := by
    rw [← hW1]; exact ((Below.refl _ w).alloc (Nat.le_refl _) _).alloc (by rw [World.size_alloc]; omega) _
  have hS1 : SplAt W1 b1 b2 b3 bothB := ⟨(hb1.block _ (lt_of_blk hS.sep)).trans hS.sep, (hb1.block _ (lt_of_blk hS.txt)).trans hS.txt, (hb1.block _ (lt_of_blk hS.sav)).trans hS.sav⟩
  have l2 := lt_of_blk hS.txt
  refine ⟨w.heap.size + 1, [{ target := .collected w.heap.size, args := #[] }], W1, { target := .fn (.func 122) #[.pointer (some ⟨b1, 0, none⟩), .pointer (some ⟨b2, 0, none⟩), .pointer (some ⟨b3, 0, none⟩)], args := #[.func (.yield (w.heap.size + 1)) #[] #[]] }, W1, 122,
    #[.func (.yield (w.heap.size + 1)) #[] #[], .pointer (some ⟨b1, 0, none⟩), .pointer (some ⟨b2, 0, none⟩), .pointer (some ⟨b3, 0, none⟩)], W1, ?_, ?_, ?_, ?_, fun _ => by omega, ?_⟩
  · rw [← hW1]; exact run_enterLoop_outer _ _ _ _ _
  · simp only [resolve, hg]
    simp [go_sem]
  · intro f' _; exact trivial
  · have eg := enters_of Tryz.func122 (by kernel_rfl) rfl
    simp [invoke, go_sem, eg]
  · refine (split_in (n - 1) (by omega) (w.heap.size + 1)
      (fun pre W => I pre W ∧ W.heap[w.heap.size + 1]? = some (.loop (recL fn a.tmps ps assign body w.heap.size .ready none)) ∧ W.heap[w.heap.size]? = some (.deferred (some [])))
      (fun _ _ => False) b1 b2 b3 X hX hb
      (fun s W v h => ⟨hI2 _ _ _ h.1, (Below.heap_setCell _ _ _ _ (show w.heap.size + 1 ≠ b2 by omega)).trans h.2.1, (Below.heap_setCell _ _ _ _ (show w.heap.size ≠ b2 by omega)).trans h.2.2⟩)
      ?_ W1 hS1 ⟨hI1, hL1, hK1⟩).mono ?_
    · rintro pre x W ⟨hi, hl, hk⟩ hlen
      have hlt := lt_of_blk hl
      have hy := run_yield (P := Tryz.prog) (args := encS x) hl (by show 1 = ps.size; exact hps.symm)
      refine ⟨fn, _, assign, body, hy, roundIn_of_wpIn hfn (hround _ pre x W _ hi hlen ?_)⟩
      intro a' hbody
      refine ⟨_, run_beginRound hl rfl, ?_⟩
      have hl2 : (W.putObj (w.heap.size + 1) (.loop (recL fn a.tmps ps assign body w.heap.size .busy none))).heap[w.heap.size + 1]? = some (.loop (recL fn a.tmps ps assign body w.heap.size .busy none)) := World.putObj_heap_same hlt
      have hk2 : (W.putObj (w.heap.size + 1) (.loop (recL fn a.tmps ps assign body w.heap.size .busy none))).heap[w.heap.size]? = some (.deferred (some [])) := (World.putObj_heap_other (by omega)).trans hk
      refine wpIn_mono (hbody (W.putObj (w.heap.size + 1) (.loop (recL fn a.tmps ps assign body w.heap.size .busy none))) (hI _ _ _ _ _ hi (by omega) hl rfl)) ?_
      rintro e a3 W3 ⟨rfl, hkp, hkn, hi3⟩
      have hl3 := (hkn _ _ (by omega) hl2 rfl).trans hl2
      have hk3 := (hkn _ _ (Nat.le_refl _) hk2 rfl).trans hk2
      refine ⟨_, _, run_endRound none hl3, .inl ⟨rfl, ⟨hI _ _ _ _ _ hi3 (by omega) hl3 rfl, World.putObj_heap_same (lt_of_blk hl3), (World.putObj_heap_other (by omega)).trans hk3⟩, (kps_put _ hl rfl).trans (hkp.trans (kps_put _ hl3 rfl))⟩⟩
    · rintro e W2 ⟨⟨v, rfl⟩, (⟨hi, hl, hk⟩ | ⟨pre, h⟩)⟩
      · exact ⟨none, _, run_endLoop hl (by simp [recL]), hdone _ (hI _ _ _ _ _ hi (by omega) hl rfl) ((World.putObj_heap_other (by omega)).trans hk)⟩
      · exact h.elim
end Go.Proofs.YtakijeooaeflkaaGreatDoor.Fl
