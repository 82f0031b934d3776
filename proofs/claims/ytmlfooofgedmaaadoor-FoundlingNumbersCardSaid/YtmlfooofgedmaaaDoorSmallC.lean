/-
  Contracts of package small, third part: products, shifts, Less.
-/
import Derived.Test.YtmlfooofgedmaaaDoorSmallB
namespace Go.Proofs.YtmlfooofgedmaaaDoor.Fl
open Go.RowKit

theorem ret_over {z : Int} (h : ¬ InR z) : Ending.returned (.tuple #[.int .u64 0, .int .i64 9]) = .returned (.tuple #[.int .u64 (resW z), .int .i64 (resE z)]) := by rw [resW_out h, resE_out h]
theorem mul_zero_close {x y : Int} (h : x = 0) : wrap64 (x * y) = x * y := by rw [h, Int.zero_mul]; unfold wrap64; omega
theorem shift_neg_close {x y : Int} (hx : InR x) (h : y < 0) : x / 2 ^ (min (-y).toNat 64) = shR x y := by unfold shR; rw [if_pos h]; exact shr_far hx _
theorem shift_pos_close {x y : Int} (hx : InR x) (h : ¬ y < 0) (e : wrap64 (x * 2 ^ (min y.toNat 64)) / 2 ^ (min y.toNat 64) = x) : wrap64 (x * 2 ^ (min y.toNat 64)) = shR x y := by unfold shR; rw [if_neg h]; exact shl_fits hx _ e
theorem shift_over_close {x y : Int} (hx : InR x) (h : ¬ y < 0) (e : wrap64 (x * 2 ^ (min y.toNat 64)) / 2 ^ (min y.toNat 64) ≠ x) : ¬ InR (shR x y) := by unfold shR; rw [if_neg h]; exact shl_over hx _ e

theorem shr_run (x y : Int) (h : 0 ≤ y) : Op.shift .shr .i64 x .i64 y = pure (.int .i64 (x / 2 ^ (min y.toNat 64))) := by
  have hp : (0 : Int) ≤ 2 ^ (min y.toNat 64) := by have := pow_pos' (min y.toNat 64); omega
  unfold Op.shift
  rw [if_neg (by omega)]
  show pure (Value.int .i64 (x.fdiv (2 ^ (min y.toNat 64)))) = _
  rw [Int.fdiv_eq_ediv_of_nonneg _ hp]
theorem shl_run (x y : Int) (h : 0 ≤ y) : Op.shift .shl .i64 x .i64 y = pure (.int .i64 (wrap64 (x * 2 ^ (min y.toNat 64)))) := by
  unfold Op.shift
  rw [if_neg (by omega)]
  show pure (Value.int .i64 (IntKind.i64.wrap (x * 2 ^ (min y.toNat 64)))) = _
  rw [wrap_i64]

end Go.Proofs.YtmlfooofgedmaaaDoor.Fl
