/-
  Contracts of package small (layer 1): each function's answer, as plain mathematics (XMath). Words in memory are not touched; what a closure captures lies in new blocks.
-/
import Derived.Test.YtmlfooofgedmaaaDoorProg
import Derived.Test.YtmlfooofgedmaaaDoorMathB
import Derived.WalkKit
import Derived.WalkSpells
import Derived.WalkLawsBesides
import Derived.Deep.QuietTactic
import Derived.BigQuiet
import Derived.Lib.Hide
namespace Go.Proofs.YtmlfooofgedmaaaDoor.Fl
open Go.RowKit

theorem ret_u64 {a b : Int} (h : a = b) : Ending.returned (.int .u64 a) = .returned (.int .u64 b) := by rw [h]
theorem ret_i64 {a b : Int} (h : a = b) : Ending.returned (.int .i64 a) = .returned (.int .i64 b) := by rw [h]
theorem ret_u64_i64 {a b c d : Int} (h : a = b) (k : c = d) : Ending.returned (.tuple #[.int .u64 a, .int .i64 c]) = .returned (.tuple #[.int .u64 b, .int .i64 d]) := by rw [h, k]
theorem below_two {B : Nat} {w w1 w2 : World} (h : Below w.heap.size w w1) (k : Below w1.heap.size w1 w2) (hB : B = w.heap.size) : Below B w w2 := by
  subst hB; exact h.trans (k.mono h.size)

set_option maxHeartbeats 400000 in
theorem is_yes (a : Int) (w : World) (h : IsW a) (ho : a % 2 = 1) :
    Calls Tryd.prog 57 #[.int .u64 a] w fun e w' => e = .returned (.bool true) ∧ w = w' := by
  have hb : (bits BinOp.and IntKind.u64 a 1 == 1) = true := by rw [and_one h, ho]; rfl
  go_enter Tryd.func57, Tryd.ntmps57
  go_wp2
  go_ret
  exact ⟨by simp, rfl⟩
set_option maxHeartbeats 400000 in
theorem is_no (a : Int) (w : World) (h : IsW a) (ho : a % 2 = 0) :
    Calls Tryd.prog 57 #[.int .u64 a] w fun e w' => e = .returned (.bool false) ∧ w = w' := by
  have hb : (bits BinOp.and IntKind.u64 a 1 == 1) = false := by rw [and_one h, ho]; rfl
  go_enter Tryd.func57, Tryd.ntmps57
  go_wp2
  go_ret
  exact ⟨by simp, rfl⟩
set_option maxHeartbeats 400000 in
theorem of_in (n : Int) (w : World) (h : InR n) :
    Calls Tryd.prog 27 #[.int .i64 n] w fun e w' => e = .returned (.tuple #[.int .u64 (wd n), .int .i64 0]) ∧ w = w' := by
  have h0 := h.1
  have h1 := h.2
  clear h
  go_enter Tryd.func27, Tryd.ntmps27
  go_wp2
  go_ret2
  exact ⟨ret_u64_i64 (of_word n) rfl, rfl⟩
set_option maxHeartbeats 400000 in
theorem of_out (n : Int) (w : World) (h : ¬ InR n) :
    Calls Tryd.prog 27 #[.int .i64 n] w fun e w' => e = .returned (.tuple #[.int .u64 0, .int .i64 9]) ∧ w = w' := by
  by_cases h0 : n < -4611686018427387904
  · clear h
    go_enter Tryd.func27, Tryd.ntmps27
    go_wp2
    go_ret2
    exact ⟨rfl, rfl⟩
  · have h1 : 4611686018427387903 < n := by unfold InR at h; omega
    clear h
    go_enter Tryd.func27, Tryd.ntmps27
    go_wp2
    go_ret2
    exact ⟨rfl, rfl⟩
theorem of_any (n : Int) (w : World) :
    Calls Tryd.prog 27 #[.int .i64 n] w fun e w' => e = .returned (.tuple #[.int .u64 (resW n), .int .i64 (resE n)]) ∧ w = w' := by
  by_cases h : InR n
  · rw [resW_in h, resE_in h]; exact of_in n w h
  · rw [resW_out h, resE_out h]; exact of_out n w h
set_option maxHeartbeats 400000 in
theorem number_any (a : Int) (w : World) (h : IsW a) :
    Calls Tryd.prog 58 #[.int .u64 a] w fun e w' => e = .returned (.int .i64 (val a)) ∧ w = w' := by
  go_enter Tryd.func58, Tryd.ntmps58
  go_wp2
  go_ret
  exact ⟨ret_i64 (wrap_half h), rfl⟩
set_option maxHeartbeats 400000 in
theorem value_yes (a : Int) (w : World) (h : IsW a) (ho : a % 2 = 1) :
    Calls Tryd.prog 36 #[.int .u64 a] w fun e w' => e = .returned (.tuple #[.int .i64 (val a), .int .i64 0]) ∧ w = w' := by
  go_enter Tryd.func36, Tryd.ntmps36
  go_wp2_with (first | (go_at_call 57; refine (is_yes _ _ h ho).mono ?_; rintro e w' ⟨rfl, rfl⟩) | (go_at_call 58; refine (number_any _ _ h).mono ?_; rintro e w' ⟨rfl, rfl⟩))
  go_ret2
  exact ⟨rfl, rfl⟩
set_option maxHeartbeats 400000 in
theorem value_no (a : Int) (w : World) (h : IsW a) (ho : a % 2 = 0) :
    Calls Tryd.prog 36 #[.int .u64 a] w fun e w' => e = .returned (.tuple #[.int .i64 0, .int .i64 13]) ∧ w = w' := by
  go_enter Tryd.func36, Tryd.ntmps36
  go_wp2_with (go_at_call 57; refine (is_no _ _ h ho).mono ?_; rintro e w' ⟨rfl, rfl⟩)
  go_ret2
  exact ⟨rfl, rfl⟩

/-- a chain of new blocks -/
theorem below_alloc2 (w : World) (o1 o2 : Obj) : Below w.heap.size w ((w.alloc o1).alloc o2) := ((Below.refl _ _).alloc (Nat.le_refl _) _).alloc (by simp) _
theorem below_alloc1 (w : World) (o1 : Obj) : Below w.heap.size w (w.alloc o1) := (Below.refl _ _).alloc (Nat.le_refl _) _

set_option maxHeartbeats 400000 in
theorem reckon_kind (a b : Int) (f : Value) (w : World) (ha : IsW a) (hb : IsW b) (k : a % 2 = 0 ∨ b % 2 = 0) :
    Calls Tryd.prog 64 #[.int .u64 a, .int .u64 b, f] w fun e w' => e = .returned (.tuple #[.int .u64 0, .int .i64 13]) ∧ w = w' := by
  by_cases ka : a % 2 = 0
  · have Ka := Lib.hid ka
    clear ka k
    go_enter Tryd.func64, Tryd.ntmps64
    go_wp2_with (go_at_call 57; refine (is_no _ _ ha Ka.out).mono ?_; rintro e w' ⟨rfl, rfl⟩)
    go_ret2
    exact ⟨rfl, rfl⟩
  · have Ka := Lib.hid (show a % 2 = 1 by omega)
    have Kb := Lib.hid (show b % 2 = 0 by omega)
    clear ka k
    go_enter Tryd.func64, Tryd.ntmps64
    go_wp2_with fail
    refine (is_yes _ _ ha Ka.out).mono ?_
    rintro e w' ⟨rfl, rfl⟩
    go_wp2_with fail
    refine (is_no _ _ hb Kb.out).mono ?_
    rintro e w' ⟨rfl, rfl⟩
    go_wp2_with fail
    go_ret2
    exact ⟨rfl, rfl⟩

set_option maxHeartbeats 400000 in
theorem add_any (a b : Int) (w : World) (ha : IsW a) (hb : IsW b) (ka : a % 2 = 1) (kb : b % 2 = 1) :
    Calls Tryd.prog 31 #[.int .u64 a, .int .u64 b] w fun e w' => e = .returned (.tuple #[.int .u64 (resW (val a + val b)), .int .i64 (resE (val a + val b))]) ∧ Below w.heap.size w w' := by
  have Ka := Lib.hid ka
  have Kb := Lib.hid kb
  clear ka kb
  have xa := (val_inR ha).1
  have ya := (val_inR ha).2
  have xb := (val_inR hb).1
  have yb := (val_inR hb).2
  go_enter Tryd.func31, Tryd.ntmps31
  go_wp2_with (first | (go_at_call 57; refine (is_yes _ _ (by assumption) (by first | exact Ka.out | exact Kb.out)).mono ?_; rintro e w' ⟨rfl, rfl⟩) | (go_at_call 58; refine (number_any _ _ (by assumption)).mono ?_; rintro e w' ⟨rfl, rfl⟩) | (go_at_call 27; refine (of_any _ _).mono ?_; rintro e w' ⟨rfl, rfl⟩) | go_in)
  go_ret2
  exact ⟨rfl, by first | exact Below.refl _ _ | exact below_alloc1 _ _ | exact below_alloc2 _ _ _⟩

set_option maxHeartbeats 400000 in
theorem add_kind (a b : Int) (w : World) (ha : IsW a) (hb : IsW b) (k : a % 2 = 0 ∨ b % 2 = 0) :
    Calls Tryd.prog 31 #[.int .u64 a, .int .u64 b] w fun e w' => e = .returned (.tuple #[.int .u64 0, .int .i64 13]) ∧ Below w.heap.size w w' := by
  go_enter Tryd.func31, Tryd.ntmps31
  go_wp2_with (first | (go_at_call 64; refine (reckon_kind _ _ _ _ ha hb k).mono ?_; rintro e w' ⟨rfl, rfl⟩) | go_in)
  go_ret2
  exact ⟨rfl, by first | exact Below.refl _ _ | exact below_alloc1 _ _ | exact below_alloc2 _ _ _⟩

end Go.Proofs.YtmlfooofgedmaaaDoor.Fl
