/-
  The lexer: the range over strings.SplitSeq("at:put", ":").
-/
import Derived.RangeFuncNested
import Derived.RangeFuncBound
import Derived.RangeFuncCalls
import Derived.RangeFuncLeaves
import Derived.Shelf.Abstract
import Derived.Shelf.RegionOpen
import Derived.WalkKit
import Derived.OwnWalkIn
import Derived.TacticsInMore
import Derived.LoopNIn
import Derived.LoopIn
import Derived.Test.YtakijeooaeflkaaGreatDoorLxF
namespace Go.Proofs.YtakijeooaeflkaaGreatDoor.Fl
open Go.RowKit Go.Shelf
attribute [local go_sem] Oper.semAt_some

abbrev atB : ByteArray := ⟨#[97, 116]⟩
abbrev putB : ByteArray := ⟨#[112, 117, 116]⟩
abbrev bothB : ByteArray := ⟨#[97, 116, 58, 112, 117, 116]⟩
/-- the boxes that the range reads -/
structure SplAt (w : World) (b1 b2 b3 : Nat) (s : ByteArray) : Prop where
  sep : w.heap[b1]? = some (.cells #[.string ⟨#[58]⟩] 9 (0, 0))
  txt : w.heap[b2]? = some (.cells #[.string s] 9 (0, 0))
  sav : w.heap[b3]? = some (.cells #[.int .i64 0] 3 (0, 0))
def KpS (X : Nat → Prop) (W W' : World) : Prop := W.heap.size ≤ W'.heap.size ∧ ∀ k cs T fr, W.heap[k]? = some (.cells cs T fr) → ¬ X k → W'.heap[k]? = W.heap[k]?
theorem SplAt.kept {X : Nat → Prop} {w w' : World} {b1 b2 b3 : Nat} {s : ByteArray} (h : SplAt w b1 b2 b3 s) (hk : KpS X w w') (hX : ¬ X b1 ∧ ¬ X b2 ∧ ¬ X b3) : SplAt w' b1 b2 b3 s :=
  ⟨(hk.2 _ _ _ _ h.sep hX.1).trans h.sep, (hk.2 _ _ _ _ h.txt hX.2.1).trans h.txt, (hk.2 _ _ _ _ h.sav hX.2.2).trans h.sav⟩
theorem SplAt.set {w : World} {b1 b2 b3 : Nat} {s : ByteArray} (h : SplAt w b1 b2 b3 s) (hb : b1 ≠ b2 ∧ b3 ≠ b2) (t : ByteArray) : SplAt (w.setCell ⟨b2, 0, none⟩ (.string t)) b1 b2 b3 t :=
  ⟨(Below.heap_setCell _ _ _ _ hb.1).trans h.sep, set1L h.txt (.string t), (Below.heap_setCell _ _ _ _ hb.2).trans h.sav⟩
def boxLen (b : Nat) (w : World) : Nat := match w.cell? ⟨b, 0, none⟩ with
  | some (.string s) => s.size
  | _ => 0
def encS (x : Bool) : Array Value := #[.string (if x then putB else atB)]
set_option maxRecDepth 100000 in
set_option maxHeartbeats 4000000 in
theorem split_in (n : Nat) (hn : 1 ≤ n) (l : Nat) (J Jx : List Bool → World → Prop) (b1 b2 b3 : Nat) (X : Nat → Prop) (hX : ¬ X b1 ∧ ¬ X b2 ∧ ¬ X b3) (hb : b1 ≠ b2 ∧ b3 ≠ b2) (hJ2 : ∀ s w v, J s w → J s (w.setCell ⟨b2, 0, none⟩ v))
    (hY : ∀ pre x W, J pre W → pre.length < 2 → YieldAt Fence.wide (n - 1) Tryz.prog l (encS x) W fun e W' =>
      (e = .returned (.bool true) ∧ J (pre ++ [x]) W' ∧ KpS X W W') ∨ (e = .returned (.bool false) ∧ Jx (pre ++ [x]) W'))
    (W : World) (h : SplAt W b1 b2 b3 bothB) (h0 : J [] W) :
    CallsIn Fence.wide n Tryz.prog 122 #[.func (.yield l) #[] #[], .pointer (some ⟨b1, 0, none⟩), .pointer (some ⟨b2, 0, none⟩), .pointer (some ⟨b3, 0, none⟩)] W fun e W' => (∃ v, e = .returned v) ∧
      (J [false, true] W' ∨ ∃ pre, Jx pre W') := by
  have f1 := one_cellL h.sep
  have f2 := one_cellL h.txt
  have f3 := one_cellL h.sav
  have hix := fun (s : ByteArray) (w : World) => Tryz.strings_Index_one s 58 w
  have HIx := Lib.hid hix
  clear hix
  refine callsIn_of_wp Tryz.func122 rfl trivial ?_ rfl
  simp only [Tryz.ntmps122, List.size_toArray, List.length_cons, List.length_nil, Nat.reduceAdd, Nat.reduceSub, Array.replicate_succ, Array.replicate_zero, List.push_toArray, List.append_toArray, List.nil_append, List.cons_append]
  gi_wp2
  gi_loopw [] (fun wr => (J [] wr ∧ SplAt wr b1 b2 b3 bothB) ∨ (J [false] wr ∧ SplAt wr b1 b2 b3 putB)) (fun wr => boxLen b2 wr)
  case atStart => exact .inl ⟨h0, h⟩
  case round =>
    clear f1 f2 f3 h h0
    rcases hrel with ⟨hj, h⟩ | ⟨hj, h⟩
    · have f1 := one_cellL h.sep
      have f2 := one_cellL h.txt
      have f3 := one_cellL h.sav
      have hi := HIx.out bothB wr
      rw [show Lib.indexByte bothB.data.toList 58 = 2 from by decide +kernel] at hi
      have he1 : bothB.extract 0 2 = atB := by decide +kernel
      have he2 : bothB.extract 3 6 = putB := by decide +kernel
      have hy0 := hY [] false wr hj (by decide)
      unfold encS at hy0
      simp only [Bool.false_eq_true, if_false, List.nil_append] at hy0
      obtain ⟨fn, tmps, assign, body, hy, hR⟩ := hy0
      gi_wp2
      refine ⟨trivial, ?_⟩
      gi_at_call 82
      refine (callsIn_wide.2 hi).mono ?_
      rintro e w' ⟨rfl, rfl⟩
      gi_wp2
      refine hR.mono ?_
      rintro e w3 (⟨rfl, hJ3, hk3⟩ | ⟨rfl, hJx3⟩)
      · have h3 := h.kept hk3 hX
        have f1 := one_cellL h3.sep
        have f2 := one_cellL h3.txt
        have f3 := one_cellL h3.sav
        have hl0 : boxLen b2 w' = 6 := by unfold boxLen; rw [one_cellL h.txt |>.1]; rfl
        have HL0 := Lib.hid hl0
        have HJ3 := Lib.hid (hJ2 _ _ (.string putB) hJ3)
        have H3 := Lib.hid (h3.set hb putB)
        clear hk3 hJ3 hy hR hi hl0
        gi_wp2
        go_roundw
        case rel => exact .inr ⟨HJ3.out, H3.out⟩
        case measure => rw [HL0.out]; unfold boxLen; rw [(one_cellL H3.out.txt).1]; decide
      · have HJx := Lib.hid hJx3
        clear hJx3 hy hR
        gi_wp2
        refine bodyPost_ret (results_none rfl _ _ _) rfl ?_
        exact ⟨⟨_, rfl⟩, .inr ⟨_, HJx.out⟩⟩
    · have hy0 := hY [false] true wr hj (by decide)
      unfold encS at hy0
      simp only [if_true, List.cons_append, List.nil_append] at hy0
      obtain ⟨fn, tmps, assign, body, hy, hR⟩ := hy0
      have f1 := one_cellL h.sep
      have f2 := one_cellL h.txt
      have f3 := one_cellL h.sav
      have hi := HIx.out putB wr
      rw [show Lib.indexByte putB.data.toList 58 = -1 from by decide +kernel] at hi
      gi_wp2
      refine ⟨trivial, ?_⟩
      gi_at_call 82
      refine (callsIn_wide.2 hi).mono ?_
      rintro e w' ⟨rfl, rfl⟩
      gi_wp2
      refine hR.mono ?_
      rintro e w3 (⟨rfl, hJ3, hk3⟩ | ⟨rfl, hJx3⟩)
      · have HJ3 := Lib.hid hJ3
        clear hk3 hJ3 hy hR hi
        gi_wp2
        first | go_end0 | refine bodyPost_ret (results_none rfl _ _ _) rfl ?_
        exact ⟨⟨_, rfl⟩, .inl HJ3.out⟩
      · have HJx := Lib.hid hJx3
        clear hJx3 hy hR hi
        gi_wp2
        first | go_end0 | refine bodyPost_ret (results_none rfl _ _ _) rfl ?_
        exact ⟨⟨_, rfl⟩, .inr ⟨_, HJx.out⟩⟩
end Go.Proofs.YtakijeooaeflkaaGreatDoor.Fl
