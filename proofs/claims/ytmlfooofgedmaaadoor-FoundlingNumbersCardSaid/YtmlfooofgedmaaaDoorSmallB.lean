/-
  Contracts of package small, second part: division, products, shifts.
-/
import Derived.Test.YtmlfooofgedmaaaDoorSmall
namespace Go.Proofs.YtmlfooofgedmaaaDoor.Fl
open Go.RowKit

/-- the quotient, as the walk may write it -/
theorem quo_w1 {x y q : Int} (hx : InR x) (h : q = x.tdiv y) : wrap64 q = x.tdiv y := by rw [h]; exact tdiv_wrap hx
theorem quo_pos {x y : Int} (h0 : 0 ≤ x) : x / y = x.tdiv y := (Int.tdiv_eq_ediv_of_nonneg h0).symm
theorem rem_pos {x y : Int} (h0 : 0 ≤ x) : x % y = x.tmod y := (Int.tmod_eq_emod_of_nonneg h0).symm
def Close (q z : Int) : Prop := q = z
theorem quo_close {x y q : Int} (hx : InR x) (h : q = x.tdiv y ∨ q = wrap64 (x.tdiv y) ∨ q = wrap64 (wrap64 (x.tdiv y)) ∨ (0 ≤ x ∧ (q = x / y ∨ q = wrap64 (x / y) ∨ q = wrap64 (wrap64 (x / y))))) : q = x.tdiv y := by
  have hw := tdiv_wrap (y := y) hx
  rcases h with h | h | h | ⟨h0, h⟩
  · exact h
  · rw [h, hw]
  · rw [h, hw, hw]
  · rw [quo_pos h0] at h
    rcases h with h | h | h
    · exact h
    · rw [h, hw]
    · rw [h, hw, hw]
theorem quo1_close {x y q : Int} (hx : InR x) (h : q = x.tdiv y - 1 ∨ q = wrap64 (x.tdiv y) - 1 ∨ q = wrap64 (x.tdiv y - 1) ∨ q = wrap64 (wrap64 (x.tdiv y) - 1) ∨ (0 ≤ x ∧ (q = x / y - 1 ∨ q = wrap64 (x / y) - 1 ∨ q = wrap64 (x / y - 1) ∨ q = wrap64 (wrap64 (x / y) - 1)))) : q = x.tdiv y - 1 := by
  have hw := tdiv_wrap (y := y) hx
  have hb := tdiv_bd (y := y) hx
  have h1 : wrap64 (x.tdiv y - 1) = x.tdiv y - 1 := wrap64_id (by omega) (by omega)
  rcases h with h | h | h | h | ⟨h0, h⟩
  · exact h
  · rw [h, hw]
  · rw [h, h1]
  · rw [h, hw, h1]
  · rw [quo_pos h0] at h
    rcases h with h | h | h | h
    · exact h
    · rw [h, hw]
    · rw [h, h1]
    · rw [h, hw, h1]


theorem ret_res {q z : Int} (h : q = z) : Ending.returned (.tuple #[.int .u64 (resW q), .int .i64 (resE q)]) = .returned (.tuple #[.int .u64 (resW z), .int .i64 (resE z)]) := by rw [h]
theorem rest_close {x y : Int} (hx : InR x) (hy : InR y) (h0 : y ≠ 0) : wrap64 (x - wrap64 (flo x y * y)) = rest x y := by
  have h := rest_inR hx hy h0
  unfold rest at *
  generalize flo x y * y = p at *
  unfold InR at h
  unfold wrap64
  omega
theorem rem_close {x y q : Int} (h : q = x.tmod y ∨ (0 ≤ x ∧ q = x % y)) : q = x.tmod y := by
  rcases h with h | ⟨h0, h⟩
  · exact h
  · rw [h, rem_pos h0]


end Go.Proofs.YtmlfooofgedmaaaDoor.Fl
