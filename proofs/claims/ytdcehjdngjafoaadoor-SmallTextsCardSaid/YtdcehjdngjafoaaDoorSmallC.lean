/-
  Contracts of package small, third part: products, shifts, Less.
-/
import Derived.Test.YtdcehjdngjafoaaDoorSmallB
namespace Go.Proofs.YtdcehjdngjafoaaDoor.Fl
open Go.RowKit

theorem ret_over {z : Int} (h : ¬ InR z) : Ending.returned (.tuple #[.int .u64 0, .int .i64 9]) = .returned (.tuple #[.int .u64 (resW z), .int .i64 (resE z)]) := by rw [resW_out h, resE_out h]
theorem mul_zero_close {x y : Int} (h : x = 0) : wrap64 (x * y) = x * y := by rw [h, Int.zero_mul]; unfold wrap64; omega
theorem shift_neg_close {x y : Int} (hx : InR x) (h : y < 0) : x / 2 ^ (min (-y).toNat 64) = shR x y := by unfold shR; rw [if_pos h]; exact shr_far hx _
theorem shift_pos_close {x y : Int} (hx : InR x) (h : ¬ y < 0) (e : wrap64 (x * 2 ^ (min y.toNat 64)) / 2 ^ (min y.toNat 64) = x) : wrap64 (x * 2 ^ (min y.toNat 64)) = shR x y := by unfold shR; rw [if_neg h]; exact shl_fits hx _ e
theorem shift_over_close {x y : Int} (hx : InR x) (h : ¬ y < 0) (e : wrap64 (x * 2 ^ (min y.toNat 64)) / 2 ^ (min y.toNat 64) ≠ x) : ¬ InR (shR x y) := by unfold shR; rw [if_neg h]; exact shl_over hx _ e

theorem shr_run (x y : Int) (h : 0 ≤ y) : Op.shift .shr .i64 x .i64 y = pure (.int .i64 (x / 2 ^ (min y.toNat 64))) := by
  have hp : (0 : Int) ≤ 2 ^ (min y.toNat 64) := by have := pow_pos' (min y.toNat 64); omega
  unfold Op.shift
  rw [if_neg (by omega)]
  show pure (Value.int .i64 (x.fdiv (2 ^ (min y.toNat 64)))) = _
  rw [Int.fdiv_eq_ediv_of_nonneg _ hp]
theorem shl_run (x y : Int) (h : 0 ≤ y) : Op.shift .shl .i64 x .i64 y = pure (.int .i64 (wrap64 (x * 2 ^ (min y.toNat 64)))) := by
  unfold Op.shift
  rw [if_neg (by omega)]
  show pure (Value.int .i64 (IntKind.i64.wrap (x * 2 ^ (min y.toNat 64)))) = _
  rw [wrap_i64]

set_option maxHeartbeats 400000 in
theorem mul_any (a b : Int) (w : World) (ha : IsW a) (hb : IsW b) (ka : a % 2 = 1) (kb : b % 2 = 1) :
    Calls Tryd.prog 74 #[.int .u64 a, .int .u64 b] w fun e w' => e = .returned (.tuple #[.int .u64 (resW (val a * val b)), .int .i64 (resE (val a * val b))]) ∧ Below w.heap.size w w' := by
  have Ka := Lib.hid ka
  have Kb := Lib.hid kb
  clear ka kb
  have HV := Lib.hid (val_inR ha)
  have HW := Lib.hid (val_inR hb)
  have xa := (val_inR ha).1
  have ya := (val_inR ha).2
  have xb := (val_inR hb).1
  have yb := (val_inR hb).2
  by_cases h0 : val a = 0
  · have H0 := Lib.hid h0
    have hz : (val a != 0) = false := by simp [h0]
    clear h0
    go_enter Tryd.func74, Tryd.ntmps74
    go_wp2_with (first | (go_at_call 21; refine (is_yes _ _ (by assumption) (by first | exact Ka.out | exact Kb.out)).mono ?_; rintro e w' ⟨rfl, rfl⟩) | (go_at_call 73; refine (number_any _ _ (by assumption)).mono ?_; rintro e w' ⟨rfl, rfl⟩) | (go_at_call 17; refine (of_any _ _).mono ?_; rintro e w' ⟨rfl, rfl⟩) | go_in)
    go_ret2
    exact ⟨ret_res (mul_zero_close H0.out), by first | exact Below.refl _ _ | exact below_alloc1 _ _ | exact below_alloc2 _ _ _⟩
  · have H0 := Lib.hid h0
    have hz : (val a != 0) = true := by simpa using h0
    have hz' : (val a == 0) = false := by simpa using h0
    clear h0
    by_cases hd : wrap64 ((wrap64 (val a * val b)).tdiv (val a)) = val b
    · have HD := Lib.hid hd
      have hn : (wrap64 ((wrap64 (val a * val b)).tdiv (val a)) != val b) = false := by simp [hd]
      clear hd
      go_enter Tryd.func74, Tryd.ntmps74
      go_wp2_with (first | (go_at_call 21; refine (is_yes _ _ (by assumption) (by first | exact Ka.out | exact Kb.out)).mono ?_; rintro e w' ⟨rfl, rfl⟩) | (go_at_call 73; refine (number_any _ _ (by assumption)).mono ?_; rintro e w' ⟨rfl, rfl⟩) | (go_at_call 17; refine (of_any _ _).mono ?_; rintro e w' ⟨rfl, rfl⟩) | go_in)
      go_ret2
      exact ⟨ret_res (mul_fits HV.out H0.out HD.out HW.out), by first | exact Below.refl _ _ | exact below_alloc1 _ _ | exact below_alloc2 _ _ _⟩
    · have HD := Lib.hid hd
      have hn : (wrap64 ((wrap64 (val a * val b)).tdiv (val a)) != val b) = true := by simpa using hd
      clear hd
      go_enter Tryd.func74, Tryd.ntmps74
      go_wp2_with (first | (go_at_call 21; refine (is_yes _ _ (by assumption) (by first | exact Ka.out | exact Kb.out)).mono ?_; rintro e w' ⟨rfl, rfl⟩) | (go_at_call 73; refine (number_any _ _ (by assumption)).mono ?_; rintro e w' ⟨rfl, rfl⟩) | (go_at_call 17; refine (of_any _ _).mono ?_; rintro e w' ⟨rfl, rfl⟩) | go_in)
      go_ret2
      exact ⟨ret_over (mul_over H0.out HW.out HD.out), by first | exact Below.refl _ _ | exact below_alloc1 _ _ | exact below_alloc2 _ _ _⟩

set_option maxHeartbeats 400000 in
theorem shift_any (a b : Int) (w : World) (ha : IsW a) (hb : IsW b) (ka : a % 2 = 1) (kb : b % 2 = 1) :
    Calls Tryd.prog 40 #[.int .u64 a, .int .u64 b] w fun e w' => e = .returned (.tuple #[.int .u64 (resW (shR (val a) (val b))), .int .i64 (resE (shR (val a) (val b)))]) ∧ Below w.heap.size w w' := by
  have Ka := Lib.hid ka
  have Kb := Lib.hid kb
  clear ka kb
  have HV := Lib.hid (val_inR ha)
  have HW := Lib.hid (val_inR hb)
  have xa := (val_inR ha).1
  have ya := (val_inR ha).2
  have xb := (val_inR hb).1
  have yb := (val_inR hb).2
  by_cases h0 : val b < 0
  · have H0 := Lib.hid h0
    have hs := shr_run (val a) (-val b) (by omega)
    go_enter Tryd.func40, Tryd.ntmps40
    go_wp2_with (first | (go_at_call 21; refine (is_yes _ _ (by assumption) (by first | exact Ka.out | exact Kb.out)).mono ?_; rintro e w' ⟨rfl, rfl⟩) | (go_at_call 73; refine (number_any _ _ (by assumption)).mono ?_; rintro e w' ⟨rfl, rfl⟩) | (go_at_call 17; refine (of_any _ _).mono ?_; rintro e w' ⟨rfl, rfl⟩) | go_in)
    go_ret2
    exact ⟨ret_res (shift_neg_close HV.out H0.out), by first | exact Below.refl _ _ | exact below_alloc1 _ _ | exact below_alloc2 _ _ _⟩
  · have H0 := Lib.hid (show ¬ val b < 0 by omega)
    have hp : 0 ≤ val b := by omega
    clear h0
    have hs1 := shl_run (val a) (val b) hp
    have hs2 := shr_run (wrap64 (val a * 2 ^ (min (val b).toNat 64))) (val b) hp
    by_cases hd : wrap64 (val a * 2 ^ (min (val b).toNat 64)) / 2 ^ (min (val b).toNat 64) = val a
    · have HD := Lib.hid hd
      have hn : (wrap64 (val a * 2 ^ (min (val b).toNat 64)) / 2 ^ (min (val b).toNat 64) != val a) = false := by simp [hd]
      clear hd
      go_enter Tryd.func40, Tryd.ntmps40
      go_wp2_with (first | (go_at_call 21; refine (is_yes _ _ (by assumption) (by first | exact Ka.out | exact Kb.out)).mono ?_; rintro e w' ⟨rfl, rfl⟩) | (go_at_call 73; refine (number_any _ _ (by assumption)).mono ?_; rintro e w' ⟨rfl, rfl⟩) | (go_at_call 17; refine (of_any _ _).mono ?_; rintro e w' ⟨rfl, rfl⟩) | go_in)
      go_ret2
      exact ⟨ret_res (shift_pos_close HV.out (Int.not_lt.2 H0.out) HD.out), by first | exact Below.refl _ _ | exact below_alloc1 _ _ | exact below_alloc2 _ _ _⟩
    · have HD := Lib.hid hd
      have hn : (wrap64 (val a * 2 ^ (min (val b).toNat 64)) / 2 ^ (min (val b).toNat 64) != val a) = true := by simpa using hd
      clear hd
      go_enter Tryd.func40, Tryd.ntmps40
      go_wp2_with (first | (go_at_call 21; refine (is_yes _ _ (by assumption) (by first | exact Ka.out | exact Kb.out)).mono ?_; rintro e w' ⟨rfl, rfl⟩) | (go_at_call 73; refine (number_any _ _ (by assumption)).mono ?_; rintro e w' ⟨rfl, rfl⟩) | (go_at_call 17; refine (of_any _ _).mono ?_; rintro e w' ⟨rfl, rfl⟩) | go_in)
      go_ret2
      exact ⟨ret_over (shift_over_close HV.out (Int.not_lt.2 H0.out) HD.out), by first | exact Below.refl _ _ | exact below_alloc1 _ _ | exact below_alloc2 _ _ _⟩

set_option maxHeartbeats 400000 in
theorem less_any (a b : Int) (w : World) (ha : IsW a) (hb : IsW b) (ka : a % 2 = 1) (kb : b % 2 = 1) :
    Calls Tryd.prog 25 #[.int .u64 a, .int .u64 b] w fun e w' => e = .returned (.tuple #[.bool (decide (val a < val b)), .int .i64 0]) ∧ w = w' := by
  have Ka := Lib.hid ka
  have Kb := Lib.hid kb
  clear ka kb
  have HV := Lib.hid (val_inR ha)
  have HW := Lib.hid (val_inR hb)
  have xa := (val_inR ha).1
  have ya := (val_inR ha).2
  have xb := (val_inR hb).1
  have yb := (val_inR hb).2
  go_enter Tryd.func25, Tryd.ntmps25
  go_wp2_with (first | (go_at_call 21; refine (is_yes _ _ (by assumption) (by first | exact Ka.out | exact Kb.out)).mono ?_; rintro e w' ⟨rfl, rfl⟩) | (go_at_call 73; refine (number_any _ _ (by assumption)).mono ?_; rintro e w' ⟨rfl, rfl⟩))
  go_ret2
  exact ⟨rfl, rfl⟩
set_option maxHeartbeats 400000 in
theorem less_kind (a b : Int) (w : World) (ha : IsW a) (hb : IsW b) (k : a % 2 = 0 ∨ b % 2 = 0) :
    Calls Tryd.prog 25 #[.int .u64 a, .int .u64 b] w fun e w' => e = .returned (.tuple #[.bool false, .int .i64 13]) ∧ w = w' := by
  by_cases ka : a % 2 = 0
  · have Ka := Lib.hid ka
    clear ka k
    go_enter Tryd.func25, Tryd.ntmps25
    go_wp2_with (go_at_call 21; refine (is_no _ _ ha Ka.out).mono ?_; rintro e w' ⟨rfl, rfl⟩)
    go_ret2
    exact ⟨rfl, rfl⟩
  · have Ka := Lib.hid (show a % 2 = 1 by omega)
    have Kb := Lib.hid (show b % 2 = 0 by omega)
    clear ka k
    go_enter Tryd.func25, Tryd.ntmps25
    go_wp2_with fail
    refine (is_yes _ _ ha Ka.out).mono ?_
    rintro e w' ⟨rfl, rfl⟩
    go_wp2_with fail
    refine (is_no _ _ hb Kb.out).mono ?_
    rintro e w' ⟨rfl, rfl⟩
    go_wp2_with fail
    go_ret2
    exact ⟨rfl, rfl⟩
end Go.Proofs.YtdcehjdngjafoaaDoor.Fl
