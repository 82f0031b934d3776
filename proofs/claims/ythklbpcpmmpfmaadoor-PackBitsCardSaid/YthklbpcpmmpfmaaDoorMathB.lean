/-
  Plain mathematics for layer 1: division rounded down, products and shifts that wrap at 64 bits, and what the reference's loops come to.
-/
import Derived.Test.YthklbpcpmmpfmaaDoorMath
namespace Go.Proofs.YthklbpcpmmpfmaaDoor.Fl
open Go.RowKit

theorem wrap64_id {n : Int} (h0 : -9223372036854775808 ≤ n) (h1 : n ≤ 9223372036854775807) : wrap64 n = n := by unfold wrap64; omega
theorem wrap64_ex (n : Int) : ∃ k : Int, wrap64 n = n - k * 18446744073709551616 := ⟨(n + 9223372036854775808) / 18446744073709551616, by unfold wrap64; omega⟩
theorem wrap64_bd (n : Int) : -9223372036854775808 ≤ wrap64 n ∧ wrap64 n ≤ 9223372036854775807 := by unfold wrap64; omega

theorem tdiv_bd {x y : Int} (hx : InR x) : -4611686018427387904 ≤ x.tdiv y ∧ x.tdiv y ≤ 4611686018427387904 := by
  have h : (x.tdiv y).natAbs ≤ x.natAbs := by rw [Int.natAbs_tdiv]; exact Nat.div_le_self _ _
  unfold InR at hx
  omega
theorem tdiv_wrap {x y : Int} (hx : InR x) : wrap64 (x.tdiv y) = x.tdiv y := by
  have h := tdiv_bd (y := y) hx
  exact wrap64_id (by omega) (by omega)
theorem tmod_bd {x y : Int} (hy : y ≠ 0) : (x.tmod y).natAbs < y.natAbs := by
  rw [Int.natAbs_tmod]; exact Nat.mod_lt _ (by omega)
theorem tmod_le {x y : Int} : (x.tmod y).natAbs ≤ x.natAbs := by
  rw [Int.natAbs_tmod]; exact Nat.mod_le _ _
theorem tdiv_tmod (x y : Int) : y * x.tdiv y + x.tmod y = x := Int.mul_tdiv_add_tmod x y
theorem tmod_sign {x y : Int} : (0 ≤ x → 0 ≤ x.tmod y) ∧ (x ≤ 0 → x.tmod y ≤ 0) := by
  constructor
  · intro h; exact Int.tmod_nonneg _ h
  · intro h
    have h2 : 0 ≤ (-x).tmod y := Int.tmod_nonneg _ (by omega)
    rw [Int.neg_tmod] at h2; omega
theorem tmod_inR {x y : Int} (hx : InR x) : InR (x.tmod y) := by
  have h := tmod_le (x := x) (y := y)
  have s := tmod_sign (x := x) (y := y)
  unfold InR at *
  omega

/-- divided, down to the next whole number; what is left of that -/
def flo (x y : Int) : Int := if x.tmod y ≠ 0 ∧ decide (x < 0) ≠ decide (y < 0) then x.tdiv y - 1 else x.tdiv y
def rest (x y : Int) : Int := x - flo x y * y
theorem flo_bd {x y : Int} (hx : InR x) (hy : y ≠ 0) : -4611686018427387904 ≤ flo x y ∧ flo x y ≤ 4611686018427387904 := by
  have h := tdiv_bd (y := y) hx
  have e := tdiv_tmod x y
  have ha : (x.tdiv y).natAbs ≤ x.natAbs := by rw [Int.natAbs_tdiv]; exact Nat.div_le_self _ _
  have hs := tmod_sign (x := x) (y := y)
  unfold flo
  split
  · rename_i hc
    -- the quotient is -2^62 only where y = 1 or -1 and nothing is left
    by_cases hq : x.tdiv y = -4611686018427387904
    · exfalso
      have hxm : x = -4611686018427387904 := by unfold InR at hx; omega
      have hd := Int.natAbs_tdiv x y
      rw [hq, hxm] at hd
      have : y.natAbs = 1 := by
        rcases Nat.lt_or_ge 1 y.natAbs with h1 | h1
        · have hl := Nat.div_lt_self (n := 4611686018427387904) (k := y.natAbs) (by omega) h1
          have hd' : (4611686018427387904 : Nat) = 4611686018427387904 / y.natAbs := hd
          rw [← hd'] at hl
          omega
        · omega
      have hm := tmod_bd (x := x) hy
      omega
    · omega
  · omega
theorem rest_eq {x y : Int} : rest x y = if x.tmod y ≠ 0 ∧ decide (x < 0) ≠ decide (y < 0) then x.tmod y + y else x.tmod y := by
  have e := tdiv_tmod x y
  unfold rest flo
  rw [Int.mul_comm] at e
  split
  · rw [Int.sub_mul]; omega
  · omega
theorem rest_inR {x y : Int} (hx : InR x) (hy : InR y) (h0 : y ≠ 0) : InR (rest x y) := by
  rw [rest_eq]
  have h := tmod_bd (x := x) h0
  have s := tmod_sign (x := x) (y := y)
  have i := tmod_inR (y := y) hx
  unfold InR at *
  split
  · rename_i hc
    have : decide (x < 0) ≠ decide (y < 0) := hc.2
    by_cases hx0 : x < 0 <;> by_cases hy0 : y < 0 <;> simp [hx0, hy0] at this <;> omega
  · omega
theorem rest_sign {x y : Int} (h0 : y ≠ 0) : rest x y = 0 ∨ (decide (rest x y < 0) = decide (y < 0)) := by
  rw [rest_eq]
  have h := tmod_bd (x := x) h0
  have s := tmod_sign (x := x) (y := y)
  split
  · rename_i hc
    have : decide (x < 0) ≠ decide (y < 0) := hc.2
    right
    by_cases hx0 : x < 0 <;> by_cases hy0 : y < 0 <;> simp [hx0, hy0] at this ⊢ <;> omega
  · rename_i hc
    by_cases hz : x.tmod y = 0
    · exact .inl hz
    · right
      have : decide (x < 0) = decide (y < 0) := by
        by_cases hd : decide (x < 0) = decide (y < 0)
        · exact hd
        · exact absurd ⟨hz, hd⟩ hc
      rw [← this]
      by_cases hx0 : x < 0 <;> simp [hx0] <;> omega
theorem rest_abs {x y : Int} (h0 : y ≠ 0) : (rest x y).natAbs < y.natAbs := by
  rw [rest_eq]
  have h := tmod_bd (x := x) h0
  have s := tmod_sign (x := x) (y := y)
  split
  · rename_i hc
    have : decide (x < 0) ≠ decide (y < 0) := hc.2
    by_cases hx0 : x < 0 <;> by_cases hy0 : y < 0 <;> simp [hx0, hy0] at this <;> omega
  · omega
theorem flo_mul {x y : Int} : flo x y * y + rest x y = x := by unfold rest; omega

/-! ### products -/
theorem mul_fits {x y : Int} (hx : InR x) (h0 : x ≠ 0) (h : wrap64 ((wrap64 (x * y)).tdiv x) = y) (hy : InR y) : wrap64 (x * y) = x * y := by
  obtain ⟨k, hk⟩ := wrap64_ex (x * y)
  have b := wrap64_bd (x * y)
  have e := tdiv_tmod (wrap64 (x * y)) x
  have m := tmod_bd (x := wrap64 (x * y)) h0
  have q : (wrap64 (x * y)).tdiv x = y := by
    have hq : ((wrap64 (x * y)).tdiv x).natAbs ≤ (wrap64 (x * y)).natAbs := by rw [Int.natAbs_tdiv]; exact Nat.div_le_self _ _
    by_cases hb : (wrap64 (x * y)).tdiv x ≤ 9223372036854775807
    · rw [wrap64_id (by omega) hb] at h; exact h
    · have : (wrap64 (x * y)).tdiv x = 9223372036854775808 := by omega
      rw [this] at h
      have hh : wrap64 9223372036854775808 = -9223372036854775808 := by unfold wrap64; omega
      unfold InR at hy; omega
  rw [q] at e
  unfold InR at hx
  have : k = 0 := by omega
  subst this
  omega
theorem mul_over {x y : Int} (h0 : x ≠ 0) (hy : InR y) (h : wrap64 ((wrap64 (x * y)).tdiv x) ≠ y) : ¬ InR (x * y) := by
  intro hi
  apply h
  have e : wrap64 (x * y) = x * y := by unfold InR at hi; exact wrap64_id (by omega) (by omega)
  rw [e, Int.mul_tdiv_cancel_left _ h0]
  unfold InR at hy; exact wrap64_id (by omega) (by omega)

/-! ### shifts -/
def shR (x y : Int) : Int := if y < 0 then x / 2 ^ (-y).toNat else x * 2 ^ y.toNat
theorem pow_pos' (n : Nat) : (0 : Int) < 2 ^ n := Int.pow_pos (by decide)
theorem pow_le (m n : Nat) (h : m ≤ n) : (2 : Int) ^ m ≤ 2 ^ n := by
  have := Nat.pow_le_pow_right (n := 2) (by decide) h
  exact_mod_cast this
theorem div_far {x : Int} (hx : InR x) (n : Nat) (h : 62 ≤ n) : x / 2 ^ n = if x < 0 then -1 else 0 := by
  have h1 := pow_le 62 n h
  have e62 : (2 : Int) ^ 62 = 4611686018427387904 := by decide
  rw [e62] at h1
  unfold InR at hx
  split
  · rename_i hn
    apply Int.le_antisymm
    · have := Int.ediv_lt_of_lt_mul (a := x) (b := 0) (c := 2 ^ n) (pow_pos' n) (by omega)
      omega
    · exact Int.le_ediv_of_mul_le (pow_pos' n) (by omega)
  · exact Int.ediv_eq_zero_of_lt (by omega) (by omega)
theorem shr_far {x : Int} (hx : InR x) (k : Nat) : x / 2 ^ (min k 64) = x / 2 ^ k := by
  by_cases h : k ≤ 64
  · rw [Nat.min_eq_left h]
  · rw [Nat.min_eq_right (by omega), div_far hx 64 (by decide), div_far hx k (by omega)]
theorem shl_fits {x : Int} (hx : InR x) (n : Nat) (h : wrap64 (x * 2 ^ (min n 64)) / 2 ^ (min n 64) = x) : wrap64 (x * 2 ^ (min n 64)) = x * 2 ^ n := by
  by_cases hn : n ≤ 64
  · rw [Nat.min_eq_left hn] at *
    obtain ⟨k, hk⟩ := wrap64_ex (x * 2 ^ n)
    rw [hk] at h ⊢
    have e : (18446744073709551616 : Int) = 2 ^ (64 - n) * 2 ^ n := by
      rw [← Int.pow_add, Nat.sub_add_cancel hn]; decide
    rw [e, ← Int.mul_assoc, ← Int.sub_mul, Int.mul_ediv_cancel _ (by have := pow_pos' n; omega)] at h
    have hp := pow_pos' (64 - n)
    have : k * 2 ^ (64 - n) = 0 := by omega
    rcases Int.mul_eq_zero.1 this with h0 | h0
    · rw [h0]; omega
    · omega
  · rw [Nat.min_eq_right (by omega)] at *
    have e : (2 : Int) ^ 64 = 18446744073709551616 := by decide
    rw [e] at h ⊢
    have z : wrap64 (x * 18446744073709551616) = 0 := by unfold wrap64; omega
    rw [z] at h ⊢
    have : x = 0 := by omega
    subst this; omega
theorem shl_over {x : Int} (hx : InR x) (n : Nat) (h : wrap64 (x * 2 ^ (min n 64)) / 2 ^ (min n 64) ≠ x) : ¬ InR (x * 2 ^ n) := by
  intro hi
  apply h
  by_cases hn : n ≤ 64
  · rw [Nat.min_eq_left hn]
    have e : wrap64 (x * 2 ^ n) = x * 2 ^ n := by unfold InR at hi; exact wrap64_id (by omega) (by omega)
    rw [e, Int.mul_ediv_cancel _ (by have := pow_pos' n; omega)]
  · rw [Nat.min_eq_right (by omega)]
    have h1 := pow_le 64 n (by omega)
    have e : (2 : Int) ^ 64 = 18446744073709551616 := by decide
    rw [e] at h1 ⊢
    have : x = 0 := by
      rcases Int.lt_trichotomy x 0 with hx0 | hx0 | hx0
      · exfalso
        have : x * 2 ^ n ≤ -1 * 2 ^ n := Int.mul_le_mul_of_nonneg_right (by omega) (by omega)
        unfold InR at hi; omega
      · exact hx0
      · exfalso
        have : 1 * 2 ^ n ≤ x * 2 ^ n := Int.mul_le_mul_of_nonneg_right (by omega) (by omega)
        unfold InR at hi; omega
    subst this
    simp [wrap64]
attribute [irreducible] flo rest shR
end Go.Proofs.YthklbpcpmmpfmaaDoor.Fl
