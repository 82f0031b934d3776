/-
  The lexer: the range over strings.SplitSeq("at:put", ":").
-/
import Derived.RangeFuncNested
import Derived.RangeFuncBound
import Derived.RangeFuncCalls
import Derived.RangeFuncLeaves
import Derived.Shelf.Abstract
import Derived.Shelf.RegionOpen
import Derived.WalkKit
import Derived.OwnWalkIn
import Derived.TacticsInMore
import Derived.LoopNIn
import Derived.LoopIn
import Derived.Test.YtmdkneollidkfaaGreatDoorLxF
namespace Go.Proofs.YtmdkneollidkfaaGreatDoor.Fl
open Go.RowKit Go.Shelf
attribute [local go_sem] Oper.semAt_some

abbrev atB : ByteArray := ⟨#[97, 116]⟩
abbrev putB : ByteArray := ⟨#[112, 117, 116]⟩
abbrev bothB : ByteArray := ⟨#[97, 116, 58, 112, 117, 116]⟩
/-- the boxes that the range reads -/
structure SplAt (w : World) (b1 b2 b3 : Nat) (s : ByteArray) : Prop where
  sep : w.heap[b1]? = some (.cells #[.string ⟨#[58]⟩] 9 (0, 0))
  txt : w.heap[b2]? = some (.cells #[.string s] 9 (0, 0))
  sav : w.heap[b3]? = some (.cells #[.int .i64 0] 3 (0, 0))
def KpS (X : Nat → Prop) (W W' : World) : Prop := W.heap.size ≤ W'.heap.size ∧ ∀ k cs T fr, W.heap[k]? = some (.cells cs T fr) → ¬ X k → W'.heap[k]? = W.heap[k]?
theorem SplAt.kept {X : Nat → Prop} {w w' : World} {b1 b2 b3 : Nat} {s : ByteArray} (h : SplAt w b1 b2 b3 s) (hk : KpS X w w') (hX : ¬ X b1 ∧ ¬ X b2 ∧ ¬ X b3) : SplAt w' b1 b2 b3 s :=
  ⟨(hk.2 _ _ _ _ h.sep hX.1).trans h.sep, (hk.2 _ _ _ _ h.txt hX.2.1).trans h.txt, (hk.2 _ _ _ _ h.sav hX.2.2).trans h.sav⟩
theorem SplAt.set {w : World} {b1 b2 b3 : Nat} {s : ByteArray} (h : SplAt w b1 b2 b3 s) (hb : b1 ≠ b2 ∧ b3 ≠ b2) (t : ByteArray) : SplAt (w.setCell ⟨b2, 0, none⟩ (.string t)) b1 b2 b3 t :=
  ⟨(Below.heap_setCell _ _ _ _ hb.1).trans h.sep, set1L h.txt (.string t), (Below.heap_setCell _ _ _ _ hb.2).trans h.sav⟩
def boxLen (b : Nat) (w : World) : Nat := match w.cell? ⟨b, 0, none⟩ with
  | some (.string s) => s.size
  | _ => 0
def encS (x : Bool) : Array Value := #[.string (if x then putB else atB)]
set_option maxRecDepth 100000 in
set_option maxHeartbeats 4000000 in
theorem split_in (n : Nat) (hn : 1 ≤ n) (l : Nat) (J Jx : List Bool → World → Prop) (b1 b2 b3 : Nat) (X : Nat → Prop) (hX : ¬ X b1 ∧ ¬ X b2 ∧ ¬ X b3) (hb : b1 ≠ b2 ∧ b3 ≠ b2) (hJ2 : ∀ s w v, J s w → J s (w.setCell ⟨b2, 0, none⟩ v))
    (hY : ∀ pre x W, J pre W → pre.length < 2 → YieldAt Fence.wide (n - 1) Tryz.prog l (encS x) W fun e W' =>
      (e = .returned (.bool true) ∧ J (pre ++ [x]) W' ∧ KpS X W W') ∨ (e = .returned (.bool false) ∧ Jx (pre ++ [x]) W'))
    (W : World) (h : SplAt W b1 b2 b3 bothB) (h0 : J [] W) :
    CallsIn Fence.wide n Tryz.prog 171 #[.func (.yield l) #[] #[], .pointer (some ⟨b1, 0, none⟩), .pointer (some ⟨b2, 0, none⟩), .pointer (some ⟨b3, 0, none⟩)] W fun e W' => (∃ v, e = .returned v) ∧
      (J [false, true] W' ∨ ∃ pre, Jx pre W') := by
  have f1 := one_cellL h.sep
  have f2 := one_cellL h.txt
  have f3 := one_cellL h.sav
  have hix := fun (s : ByteArray) (w : World) => Tryz.strings_Index_one s 58 w
  have HIx := Lib.hid hix
  clear hix
  refine callsIn_of_wp Tryz.func171 rfl trivial ?_ rfl
  simp only [Tryz.ntmps171, List.size_toArray, List.length_cons, List.length_nil, Nat.reduceAdd, Nat.reduceSub, Array.replicate_succ, Array.replicate_zero, List.push_toArray, List.append_toArray, List.nil_append, List.cons_append]
  gi_wp2
  gi_loopw [] (fun wr => (J [] wr ∧ SplAt wr b1 b2 b3 bothB) ∨ (J [false] wr ∧ SplAt wr b1 b2 b3 putB)) (fun wr => boxLen b2 wr)
  case atStart => exact .inl ⟨h0, h⟩
  case round =>
    clear f1 f2 f3 h h0
    rcases hrel with ⟨hj, h⟩ | ⟨hj, h⟩
    · have f1 := one_cellL h.sep
      have f2 := one_cellL h.txt
      have f3 := one_cellL h.sav
      have hi := HIx.out bothB wr
      rw [show Lib.indexByte bothB.data.toList 58 = 2 from by decide +kernel] at hi
      have he1 : bothB.extract 0 2 = atB := by decide +kernel
      have he2 : bothB.extract 3 6 = putB := by decide +kernel
      have hy0 := hY [] false wr hj (by decide)
      unfold encS at hy0
      simp only [Bool.false_eq_true, if_false, List.nil_append] at hy0
      obtain ⟨fn, tmps, assign, body, hy, hR⟩ := hy0
      gi_wp2
      refine ⟨trivial, ?_⟩
      gi_at_call 104
      refine (callsIn_wide.2 hi).mono ?_
      rintro e w' ⟨rfl, rfl⟩
      gi_wp2
      refine hR.mono ?_
      rintro e w3 (⟨rfl, hJ3, hk3⟩ | ⟨rfl, hJx3⟩)
      · have h3 := h.kept hk3 hX
        have f1 := one_cellL h3.sep
        have f2 := one_cellL h3.txt
        have f3 := one_cellL h3.sav
        have hl0 : boxLen b2 w' = 6 := by unfold boxLen; rw [one_cellL h.txt |>.1]; rfl
        have HL0 := Lib.hid hl0
        have HJ3 := Lib.hid (hJ2 _ _ (.string putB) hJ3)
        have H3 := Lib.hid (h3.set hb putB)
        clear hk3 hJ3 hy hR hi hl0
        gi_wp2
        go_roundw
        case rel => exact .inr ⟨HJ3.out, H3.out⟩
        case measure => rw [HL0.out]; unfold boxLen; rw [(one_cellL H3.out.txt).1]; decide
      · have HJx := Lib.hid hJx3
        clear hJx3 hy hR
        gi_wp2
        refine bodyPost_ret (results_none rfl _ _ _) rfl ?_
        exact ⟨⟨_, rfl⟩, .inr ⟨_, HJx.out⟩⟩
    · have hy0 := hY [false] true wr hj (by decide)
      unfold encS at hy0
      simp only [if_true, List.cons_append, List.nil_append] at hy0
      obtain ⟨fn, tmps, assign, body, hy, hR⟩ := hy0
      have f1 := one_cellL h.sep
      have f2 := one_cellL h.txt
      have f3 := one_cellL h.sav
      have hi := HIx.out putB wr
      rw [show Lib.indexByte putB.data.toList 58 = -1 from by decide +kernel] at hi
      gi_wp2
      refine ⟨trivial, ?_⟩
      gi_at_call 104
      refine (callsIn_wide.2 hi).mono ?_
      rintro e w' ⟨rfl, rfl⟩
      gi_wp2
      refine hR.mono ?_
      rintro e w3 (⟨rfl, hJ3, hk3⟩ | ⟨rfl, hJx3⟩)
      · have HJ3 := Lib.hid hJ3
        clear hk3 hJ3 hy hR hi
        gi_wp2
        first | go_end0 | refine bodyPost_ret (results_none rfl _ _ _) rfl ?_
        exact ⟨⟨_, rfl⟩, .inl HJ3.out⟩
      · have HJx := Lib.hid hJx3
        clear hJx3 hy hR hi
        gi_wp2
        first | go_end0 | refine bodyPost_ret (results_none rfl _ _ _) rfl ?_
        exact ⟨⟨_, rfl⟩, .inr ⟨_, HJx.out⟩⟩
end Go.Proofs.YtmdkneollidkfaaGreatDoor.Fl

/-
  The lexer: the statement that ranges over strings.SplitSeq("at:put", ":").
-/
namespace Go.Proofs.YtmdkneollidkfaaGreatDoor.Fl
open Go.RowKit Go.Shelf

/-- a loop's record -/
def recL (fn : FuncId) (tmps : Array Value) (ps : Array Tmp) (assign body : Code) (D : Nat) (st : LoopState) (pe : Option Code) : Loop :=
  { state := st, pending := pe, fn := fn, tmps := tmps, params := ps, assign := assign, body := body, defers := D }
/-- what a round of the range leaves -/
def SplRound (B : Nat) (X : Nat → Prop) (I : List Bool → World → Prop) (xs : List Bool) (W : World) (e : Exit) (_ : Act) (W' : World) : Prop :=
  e = .normal ∧ KpS X W W' ∧ (∀ k o, B ≤ k → W.heap[k]? = some o → o.isCells = false → W'.heap[k]? = W.heap[k]?) ∧ I xs W'
theorem KpS.trans {X : Nat → Prop} {A B C : World} (h : KpS X A B) (h' : KpS X B C) : KpS X A C :=
  ⟨Nat.le_trans h.1 h'.1, fun k cs T fr hk hx => (h'.2 k cs T fr ((h.2 k cs T fr hk hx).trans hk) hx).trans (h.2 k cs T fr hk hx)⟩
theorem kps_put {X : Nat → Prop} {W : World} {l : Nat} {o : Obj} (o' : Obj) (h : W.heap[l]? = some o) (ho : o.isCells = false) : KpS X W (W.putObj l o') :=
  ⟨by simp, fun k cs T fr hc _ => World.putObj_heap_other (fun e => by subst e; rw [h] at hc; cases hc; cases ho)⟩
set_option maxRecDepth 100000 in
set_option maxHeartbeats 4000000 in
theorem range_spl {g : Operand} {ps : Array Tmp} {assign body : Code} {Q : Exit → Act → World → Prop} {a : Act} {w : World} {n : Nat} (hn : 2 ≤ n) {b1 b2 b3 : Nat}
    (hg : a.eval g = .func (.func 171) #[] #[.pointer (some ⟨b1, 0, none⟩), .pointer (some ⟨b2, 0, none⟩), .pointer (some ⟨b3, 0, none⟩)])
    (hS : SplAt w b1 b2 b3 bothB) (hb : b1 ≠ b2 ∧ b3 ≠ b2) {X : Nat → Prop} (hX : ¬ X b1 ∧ ¬ X b2 ∧ ¬ X b3) (hps : ps.size = 1)
    (I : List Bool → World → Prop) (hI : ∀ s W l o o', I s W → w.heap.size ≤ l → W.heap[l]? = some o → o.isCells = false → I s (W.putObj l o')) (hIa : ∀ s W o, I s W → I s (W.alloc o))
    (hI2 : ∀ s W v, I s W → I s (W.setCell ⟨b2, 0, none⟩ v)) (h0 : I [] w)
    (hround : ∀ (l : Nat) (pre : List Bool) (x : Bool) (W : World) (K : Act → World → Prop), I pre W → pre.length < 2 →
      (∀ a', (∀ W2, I pre W2 → body.wpIn (Fence.wide.inRound l) (n - 1 - 1) Tryz.prog (SplRound w.heap.size X I (pre ++ [x]) W2) a' W2) → K a' W) →
      assign.wpIn (Fence.wide.inRound l) (n - 1 - 1) Tryz.prog (Exit.then K (fun _ _ _ => False)) { tmps := (ps.zip (encS x)).foldl (fun t (p, v) => t.setIfInBounds p v) a.tmps, defers := [] } W)
    (hdone : ∀ W, I [false, true] W → W.heap[w.heap.size]? = some (.deferred (some [])) → Q .normal { a with defers := { target := .collected w.heap.size, args := #[] } :: a.defers } W) :
    (Code.rangeFunc g ps assign body).wpIn Fence.wide n Tryz.prog Q a w := by
  refine wpIn_rangeFunc ?_
  intro fn hfn
  obtain ⟨W1, hW1⟩ : ∃ W1, (w.alloc (.deferred (some []))).alloc (.loop (recL fn a.tmps ps assign body w.heap.size .ready none)) = W1 := ⟨_, rfl⟩
  have hL1 : W1.heap[w.heap.size + 1]? = some (.loop (recL fn a.tmps ps assign body w.heap.size .ready none)) := by
    rw [← hW1]
    have := heap_alloc_new (w.alloc (.deferred (some []))) (.loop (recL fn a.tmps ps assign body w.heap.size .ready none))
    rwa [World.size_alloc] at this
  have hK1 : W1.heap[w.heap.size]? = some (.deferred (some [])) := by
    rw [← hW1]
    exact (Below.heap_alloc _ _ _ (by rw [World.size_alloc]; omega)).trans (heap_alloc_new w _)
  have hI1 : I [] W1 := by rw [← hW1]; exact hIa _ _ _ (hIa _ _ _ h0)
  have hb1 : Below w.heap.size w W1 := by
    rw [← hW1]; exact ((Below.refl _ w).alloc (Nat.le_refl _) _).alloc (by rw [World.size_alloc]; omega) _
  have hS1 : SplAt W1 b1 b2 b3 bothB := ⟨(hb1.block _ (lt_of_blk hS.sep)).trans hS.sep, (hb1.block _ (lt_of_blk hS.txt)).trans hS.txt, (hb1.block _ (lt_of_blk hS.sav)).trans hS.sav⟩
  have l2 := lt_of_blk hS.txt
  refine ⟨w.heap.size + 1, [{ target := .collected w.heap.size, args := #[] }], W1, { target := .fn (.func 171) #[.pointer (some ⟨b1, 0, none⟩), .pointer (some ⟨b2, 0, none⟩), .pointer (some ⟨b3, 0, none⟩)], args := #[.func (.yield (w.heap.size + 1)) #[] #[]] }, W1, 171,
    #[.func (.yield (w.heap.size + 1)) #[] #[], .pointer (some ⟨b1, 0, none⟩), .pointer (some ⟨b2, 0, none⟩), .pointer (some ⟨b3, 0, none⟩)], W1, ?_, ?_, ?_, ?_, fun _ => by omega, ?_⟩
  · rw [← hW1]; exact run_enterLoop_outer _ _ _ _ _
  · simp only [resolve, hg]
    simp [go_sem]
  · intro f' _; exact trivial
  · have eg := enters_of Tryz.func171 (by kernel_rfl) rfl
    simp [invoke, go_sem, eg]
  · refine (split_in (n - 1) (by omega) (w.heap.size + 1)
      (fun pre W => I pre W ∧ W.heap[w.heap.size + 1]? = some (.loop (recL fn a.tmps ps assign body w.heap.size .ready none)) ∧ W.heap[w.heap.size]? = some (.deferred (some [])))
      (fun _ _ => False) b1 b2 b3 X hX hb
      (fun s W v h => ⟨hI2 _ _ _ h.1, (Below.heap_setCell _ _ _ _ (show w.heap.size + 1 ≠ b2 by omega)).trans h.2.1, (Below.heap_setCell _ _ _ _ (show w.heap.size ≠ b2 by omega)).trans h.2.2⟩)
      ?_ W1 hS1 ⟨hI1, hL1, hK1⟩).mono ?_
    · rintro pre x W ⟨hi, hl, hk⟩ hlen
      have hlt := lt_of_blk hl
      have hy := run_yield (P := Tryz.prog) (args := encS x) hl (by show 1 = ps.size; exact hps.symm)
      refine ⟨fn, _, assign, body, hy, roundIn_of_wpIn hfn (hround _ pre x W _ hi hlen ?_)⟩
      intro a' hbody
      refine ⟨_, run_beginRound hl rfl, ?_⟩
      have hl2 : (W.putObj (w.heap.size + 1) (.loop (recL fn a.tmps ps assign body w.heap.size .busy none))).heap[w.heap.size + 1]? = some (.loop (recL fn a.tmps ps assign body w.heap.size .busy none)) := World.putObj_heap_same hlt
      have hk2 : (W.putObj (w.heap.size + 1) (.loop (recL fn a.tmps ps assign body w.heap.size .busy none))).heap[w.heap.size]? = some (.deferred (some [])) := (World.putObj_heap_other (by omega)).trans hk
      refine wpIn_mono (hbody (W.putObj (w.heap.size + 1) (.loop (recL fn a.tmps ps assign body w.heap.size .busy none))) (hI _ _ _ _ _ hi (by omega) hl rfl)) ?_
      rintro e a3 W3 ⟨rfl, hkp, hkn, hi3⟩
      have hl3 := (hkn _ _ (by omega) hl2 rfl).trans hl2
      have hk3 := (hkn _ _ (Nat.le_refl _) hk2 rfl).trans hk2
      refine ⟨_, _, run_endRound none hl3, .inl ⟨rfl, ⟨hI _ _ _ _ _ hi3 (by omega) hl3 rfl, World.putObj_heap_same (lt_of_blk hl3), (World.putObj_heap_other (by omega)).trans hk3⟩, (kps_put _ hl rfl).trans (hkp.trans (kps_put _ hl3 rfl))⟩⟩
    · rintro e W2 ⟨⟨v, rfl⟩, (⟨hi, hl, hk⟩ | ⟨pre, h⟩)⟩
      · exact ⟨none, _, run_endLoop hl (by simp [recL]), hdone _ (hI _ _ _ _ _ hi (by omega) hl rfl) ((World.putObj_heap_other (by omega)).trans hk)⟩
      · exact h.elim
end Go.Proofs.YtmdkneollidkfaaGreatDoor.Fl

/-
  The lexer: Arity of the laws' fixed name.
-/
namespace Go.Proofs.YtmdkneollidkfaaGreatDoor.Fl
open Go.RowKit Go.Shelf
attribute [local go_sem] Oper.semAt_some

abbrev fixA : ByteArray := ⟨#[97, 116, 58, 112, 117, 116, 58]⟩
set_option maxRecDepth 100000 in
theorem splitSeq0_any (s sep : ByteArray) (w : World) :
    Calls Tryz.prog 141 #[.string s, .string sep, .int .i64 0] w fun e w' => e = .returned (.func (.func 171) #[] #[.pointer (some ⟨w.heap.size + 1, 0, none⟩), .pointer (some ⟨w.heap.size, 0, none⟩), .pointer (some ⟨w.heap.size + 1 + 1, 0, none⟩)]) ∧
      w' = ((w.alloc (.cells #[.string s] 9)).alloc (.cells #[.string sep] 9)).alloc (.cells #[.int .i64 0] 3) := by
  have hmf : ∀ (fn : Fn) (first cap : Array Value) (w : World), (Instr.makeFunc fn first cap).run Tryz.prog w = .ok (.func fn first cap) w := fun _ _ _ _ => rfl
  go_enter Tryz.func141, Tryz.ntmps141
  go_wp2_with fail
  go_ret
  exact ⟨rfl, rfl⟩
set_option maxRecDepth 100000 in
theorem splitSeq_any (s sep : ByteArray) (w : World) :
    Calls Tryz.prog 109 #[.string s, .string sep] w fun e w' => e = .returned (.func (.func 171) #[] #[.pointer (some ⟨w.heap.size + 1, 0, none⟩), .pointer (some ⟨w.heap.size, 0, none⟩), .pointer (some ⟨w.heap.size + 1 + 1, 0, none⟩)]) ∧
      w' = ((w.alloc (.cells #[.string s] 9)).alloc (.cells #[.string sep] 9)).alloc (.cells #[.int .i64 0] 3) := by
  have h := splitSeq0_any s sep w
  go_enter Tryz.func109, Tryz.ntmps109
  go_wp2_with fail
  refine h.mono ?_
  rintro e w' ⟨rfl, rfl⟩
  go_wp2_with fail
  go_ret
  exact ⟨rfl, rfl⟩
theorem five_boxes (w : World) (o1 o2 o3 o4 o5 : Obj) (W : World) (hW : (((((w.alloc o1).alloc o2).alloc o3).alloc o4).alloc o5) = W) :
    W.heap[w.heap.size]? = some o1 ∧ W.heap[w.heap.size + 1]? = some o2 ∧ W.heap[w.heap.size + 1 + 1]? = some o3 ∧ W.heap[w.heap.size + 1 + 1 + 1]? = some o4 ∧ W.heap[w.heap.size + 1 + 1 + 1 + 1]? = some o5 ∧ Below w.heap.size w W ∧ W.heap.size = w.heap.size + 5 := by
  subst hW
  have s1 : (w.alloc o1).heap.size = w.heap.size + 1 := World.size_alloc w o1
  have s2 : ((w.alloc o1).alloc o2).heap.size = w.heap.size + 1 + 1 := by rw [World.size_alloc, s1]
  have s3 : (((w.alloc o1).alloc o2).alloc o3).heap.size = w.heap.size + 1 + 1 + 1 := by rw [World.size_alloc, s2]
  have s4 : ((((w.alloc o1).alloc o2).alloc o3).alloc o4).heap.size = w.heap.size + 1 + 1 + 1 + 1 := by rw [World.size_alloc, s3]
  have n1 := heap_alloc_new w o1
  have n2 := heap_alloc_new (w.alloc o1) o2
  have n3 := heap_alloc_new ((w.alloc o1).alloc o2) o3
  have n4 := heap_alloc_new (((w.alloc o1).alloc o2).alloc o3) o4
  have n5 := heap_alloc_new ((((w.alloc o1).alloc o2).alloc o3).alloc o4) o5
  rw [s1] at n2
  rw [s2] at n3
  rw [s3] at n4
  rw [s4] at n5
  have b5 := (Below.refl w.heap.size w).alloc (Nat.le_refl _) o1
  have b6 := b5.alloc (by omega) o2
  have b7 := b6.alloc (by omega) o3
  have b8 := b7.alloc (by omega) o4
  have b9 := b8.alloc (by omega) o5
  refine ⟨?_, ?_, ?_, ?_, n5, b9, by rw [World.size_alloc, s4]⟩
  · exact (Below.heap_alloc _ o5 _ (by omega)).trans ((Below.heap_alloc _ o4 _ (by omega)).trans ((Below.heap_alloc _ o3 _ (by omega)).trans ((Below.heap_alloc _ o2 _ (by omega)).trans n1)))
  · exact (Below.heap_alloc _ o5 _ (by omega)).trans ((Below.heap_alloc _ o4 _ (by omega)).trans ((Below.heap_alloc _ o3 _ (by omega)).trans n2))
  · exact (Below.heap_alloc _ o5 _ (by omega)).trans ((Below.heap_alloc _ o4 _ (by omega)).trans n3)
  · exact (Below.heap_alloc _ o5 _ (by omega)).trans n4
/-- what stands while the range runs: the result's box, and the count's -/
def AriI (w : World) (pre : List Bool) (W : World) : Prop :=
  W.heap[w.heap.size]? = some (.cells #[.int .i64 0] 3 (0, 0)) ∧ W.heap[w.heap.size + 1]? = some (.cells #[.int .i64 (pre.length : Int)] 3 (0, 0)) ∧ Below w.heap.size w W ∧ w.heap.size + 5 ≤ W.heap.size
set_option maxRecDepth 100000 in
set_option maxHeartbeats 4000000 in
theorem arity_fix (w : World) : Calls Tryz.prog 71 #[.string fixA] w fun e w' => e = .returned (.int .i64 2) ∧ Below w.heap.size w w' := by
  have hn := fun w => isName_any fixA w (by decide)
  rw [show isNameB fixA = false from by decide +kernel] at hn
  have ho := fun w => lxOp_is fixA w (by decide)
  rw [show isOpL (sb fixA) = false from by decide +kernel] at ho
  have hc := fun w => Tryz.strings_CutSuffix fixA ⟨#[58]⟩ w (by decide)
  rw [show (⟨(Lib.trimSuffix fixA.data.toList (⟨#[58]⟩ : ByteArray).data.toList).toArray⟩ : ByteArray) = bothB from by decide +kernel, show Lib.hasSuffix fixA.data.toList (⟨#[58]⟩ : ByteArray).data.toList = true from by decide +kernel] at hc
  have hp := fun w => splitSeq_any bothB ⟨#[58]⟩ w
  have hz : ((fixA.size : Nat) : Int) = 7 := by decide +kernel
  refine (callsIn_wide (n := 4)).1 ?_
  refine callsIn_of_wp_marks Tryz.func71 rfl trivial ?_ rfl
  simp only [Tryz.ntmps71, List.size_toArray, List.length_cons, List.length_nil, Nat.reduceAdd, Nat.reduceSub, Array.replicate_succ, Array.replicate_zero, List.push_toArray, List.append_toArray, List.nil_append, List.cons_append]
  gi_wp2
  refine ⟨trivial, ?_⟩
  gi_at_call 106
  refine (callsIn_wide.2 (hn _)).mono ?_
  rintro e w' ⟨rfl, rfl⟩
  gi_wp2
  refine ⟨trivial, ?_⟩
  gi_at_call 107
  refine (callsIn_wide.2 (ho _)).mono ?_
  rintro e w' ⟨rfl, rfl⟩
  gi_wp2
  refine ⟨trivial, ?_⟩
  gi_at_call 108
  refine (callsIn_wide.2 (hc _)).mono ?_
  rintro e w' ⟨rfl, rfl⟩
  gi_wp2
  refine ⟨trivial, ?_⟩
  gi_at_call 109
  refine (callsIn_wide.2 (hp _)).mono ?_
  rintro e w' ⟨rfl, rfl⟩
  gi_wp2
  obtain ⟨W0, hW0⟩ : ∃ W0, (((((w.alloc (.cells #[.int .i64 0] 3)).alloc (.cells #[.int .i64 0] 3)).alloc (.cells #[.string bothB] 9)).alloc (.cells #[.string ⟨#[58]⟩] 9)).alloc (.cells #[.int .i64 0] 3)) = W0 := ⟨_, rfl⟩
  obtain ⟨q1, q2, q3, q4, q5, hb0, hsz⟩ := five_boxes w (.cells #[.int .i64 0] 3) (.cells #[.int .i64 0] 3) (.cells #[.string bothB] 9) (.cells #[.string ⟨#[58]⟩] 9) (.cells #[.int .i64 0] 3) W0 hW0
  rw [hW0]
  clear hW0
  refine range_spl (b1 := w.heap.size + 1 + 1 + 1) (b2 := w.heap.size + 1 + 1) (b3 := w.heap.size + 1 + 1 + 1 + 1) (by decide) rfl ⟨q4, q3, q5⟩ ⟨by omega, by omega⟩ (X := fun k => k = w.heap.size + 1) ⟨by omega, by omega, by omega⟩ rfl
    (AriI w) ?put ?al ?st ⟨q1, q2, hb0, by omega⟩ ?round ?done
  case put =>
    rintro s W l o o' ⟨h1, h2, h3, h4⟩ hl hlo ho
    refine ⟨(World.putObj_heap_other (by omega)).trans h1, (World.putObj_heap_other (by omega)).trans h2, ⟨h3.os, h3.tape, h3.output, by simpa using h3.size, fun k hk => (World.putObj_heap_other (by omega)).trans (h3.block k hk)⟩, by simpa using h4⟩
  case al =>
    rintro s W o ⟨h1, h2, h3, h4⟩
    exact ⟨(Below.heap_alloc _ _ _ (by omega)).trans h1, (Below.heap_alloc _ _ _ (by omega)).trans h2, h3.alloc (by omega) _, by rw [World.size_alloc]; omega⟩
  case st =>
    rintro s W v ⟨h1, h2, h3, h4⟩
    exact ⟨(Below.heap_setCell W ⟨w.heap.size + 1 + 1, 0, none⟩ v _ (by show w.heap.size ≠ w.heap.size + 1 + 1; omega)).trans h1, (Below.heap_setCell W ⟨w.heap.size + 1 + 1, 0, none⟩ v _ (by show w.heap.size + 1 ≠ w.heap.size + 1 + 1; omega)).trans h2, h3.setCell (p := ⟨w.heap.size + 1 + 1, 0, none⟩) (by show w.heap.size ≤ w.heap.size + 1 + 1; omega) _, by rw [World.size_setCell]; exact h4⟩
  case round =>
    rintro l pre x W K hi hlen hK
    obtain ⟨t, ht, hnm, hts⟩ : ∃ t : ByteArray, encS x = #[.string t] ∧ isNameB t = true ∧ t.size ≤ 16777216 := by
      cases x
      · exact ⟨atB, rfl, by decide +kernel, by decide⟩
      · exact ⟨putB, rfl, by decide +kernel, by decide⟩
    have hnx := fun W2 => isName_any t W2 hts
    rw [hnm] at hnx
    rw [ht]
    clear ht hnm hts
    gi_wp2
    rintro W2 ⟨h1, h2, h3, h4⟩
    have f1 := one_cellL h2
    gi_wp2
    refine ⟨trivial, ?_⟩
    gi_at_call 106
    refine (CallsIn.inRound l (callsIn_wide.2 (hnx _))).mono ?_
    rintro e w' ⟨rfl, rfl⟩
    gi_wp2
    refine ⟨rfl, ⟨by rw [World.size_setCell]; exact Nat.le_refl _, fun k cs T fr _ hk => Below.heap_setCell W2 ⟨w.heap.size + 1, 0, none⟩ _ k hk⟩, fun k o hk _ _ => Below.heap_setCell W2 ⟨w.heap.size + 1, 0, none⟩ _ k (by show k ≠ w.heap.size + 1; omega), ?_⟩
    refine ⟨(Below.heap_setCell W2 ⟨w.heap.size + 1, 0, none⟩ _ _ (by show w.heap.size ≠ w.heap.size + 1; omega)).trans h1, ?_, h3.setCell (p := ⟨w.heap.size + 1, 0, none⟩) (by show w.heap.size ≤ w.heap.size + 1; omega) _, by rw [World.size_setCell]; exact h4⟩
    rw [List.length_append]
    exact set1L h2 _
  case done =>
    rintro W ⟨h1, h2, h3, h4⟩ hD
    have f1 := one_cellL h1
    have f2 := one_cellL h2
    gi_wp2
    have l1 := lt_of_blk h1
    have hD2 : (W.setCell ⟨w.heap.size, 0, none⟩ (.int .i64 2)).heap[W0.heap.size]? = some (.deferred (some [])) := (Below.heap_setCell W ⟨w.heap.size, 0, none⟩ _ _ (by show W0.heap.size ≠ w.heap.size; omega)).trans hD
    have hr2 := set1L h1 (.int .i64 2)
    have hb2 : Below w.heap.size w (W.setCell ⟨w.heap.size, 0, none⟩ (.int .i64 2)) := h3.setCell (p := ⟨w.heap.size, 0, none⟩) (Nat.le_refl _) _
    refine ⟨by simp, .inl ⟨_, _, rfl, run_takeDeferred hD2, ?_⟩⟩
    have hr3 := (World.putObj_heap_other (o := .deferred none) (show w.heap.size ≠ W0.heap.size by omega)).trans hr2
    have hb3 : Below w.heap.size w ((W.setCell ⟨w.heap.size, 0, none⟩ (.int .i64 2)).putObj W0.heap.size (.deferred none)) := ⟨hb2.os, hb2.tape, hb2.output, by simpa using hb2.size, fun k hk => (World.putObj_heap_other (by omega)).trans (hb2.block k hk)⟩
    obtain ⟨c0, _⟩ := one_cellL hr3
    refine ⟨.int .i64 2, ?_, rfl, hb3⟩
    simp [results, Tryz.results71, go_sem, c0]
end Go.Proofs.YtmdkneollidkfaaGreatDoor.Fl
