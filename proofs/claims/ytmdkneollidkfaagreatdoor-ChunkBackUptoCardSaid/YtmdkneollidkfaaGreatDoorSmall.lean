/-
  Contracts of package small (layer 1): each function's answer, as plain mathematics (XMath). Words in memory are not touched; what a closure captures lies in new blocks.
-/
import Derived.Test.YtmdkneollidkfaaGreatDoorProg
import Derived.Test.YtmdkneollidkfaaGreatDoorPMath
import Derived.WalkKit
import Derived.WalkSpells
import Derived.WalkLawsBesides
import Derived.Deep.QuietTactic
import Derived.BigQuiet
import Derived.Lib.Hide
namespace Go.Proofs.YtmdkneollidkfaaGreatDoor.Fl
open Go.RowKit

theorem ret_u64 {a b : Int} (h : a = b) : Ending.returned (.int .u64 a) = .returned (.int .u64 b) := by rw [h]
theorem ret_i64 {a b : Int} (h : a = b) : Ending.returned (.int .i64 a) = .returned (.int .i64 b) := by rw [h]
theorem ret_u64_i64 {a b c d : Int} (h : a = b) (k : c = d) : Ending.returned (.tuple #[.int .u64 a, .int .i64 c]) = .returned (.tuple #[.int .u64 b, .int .i64 d]) := by rw [h, k]
theorem below_two {B : Nat} {w w1 w2 : World} (h : Below w.heap.size w w1) (k : Below w1.heap.size w1 w2) (hB : B = w.heap.size) : Below B w w2 := by
  subst hB; exact h.trans (k.mono h.size)

set_option maxHeartbeats 400000 in
theorem of_in (n : Int) (w : World) (h : InR n) :
    Calls Tryz.prog 209 #[.int .i64 n] w fun e w' => e = .returned (.tuple #[.int .u64 (wd n), .int .i64 0]) ∧ w = w' := by
  have h0 := h.1
  have h1 := h.2
  clear h
  go_enter Tryz.func209, Tryz.ntmps209
  go_wp2
  go_ret2
  exact ⟨ret_u64_i64 (of_word n) rfl, rfl⟩
set_option maxHeartbeats 400000 in
theorem of_out (n : Int) (w : World) (h : ¬ InR n) :
    Calls Tryz.prog 209 #[.int .i64 n] w fun e w' => e = .returned (.tuple #[.int .u64 0, .int .i64 9]) ∧ w = w' := by
  by_cases h0 : n < -4611686018427387904
  · clear h
    go_enter Tryz.func209, Tryz.ntmps209
    go_wp2
    go_ret2
    exact ⟨rfl, rfl⟩
  · have h1 : 4611686018427387903 < n := by unfold InR at h; omega
    clear h
    go_enter Tryz.func209, Tryz.ntmps209
    go_wp2
    go_ret2
    exact ⟨rfl, rfl⟩
theorem of_any (n : Int) (w : World) :
    Calls Tryz.prog 209 #[.int .i64 n] w fun e w' => e = .returned (.tuple #[.int .u64 (resW n), .int .i64 (resE n)]) ∧ w = w' := by
  by_cases h : InR n
  · rw [resW_in h, resE_in h]; exact of_in n w h
  · rw [resW_out h, resE_out h]; exact of_out n w h
/-- a chain of new blocks -/
theorem below_alloc2 (w : World) (o1 o2 : Obj) : Below w.heap.size w ((w.alloc o1).alloc o2) := ((Below.refl _ _).alloc (Nat.le_refl _) _).alloc (by simp) _
theorem below_alloc1 (w : World) (o1 : Obj) : Below w.heap.size w (w.alloc o1) := (Below.refl _ _).alloc (Nat.le_refl _) _

end Go.Proofs.YtmdkneollidkfaaGreatDoor.Fl
