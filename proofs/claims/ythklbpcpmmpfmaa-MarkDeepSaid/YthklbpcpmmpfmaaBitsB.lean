/-
  Contract of package pack's sets: Next.
-/
import Derived.Test.YthklbpcpmmpfmaaBits
import Derived.Deep.DeepCutAuto
namespace Go.Proofs.Ythklbpcpmmpfmaa.Fl
open Go.RowKit

/-- r is the least number of the set from i on, or -1 -/
def IsNext (ws : List Nat) (n i : Nat) (r : Int) : Prop :=
  (r = -1 ∧ ∀ k, i ≤ k → bitAt ws k = false) ∨ ∃ k : Nat, r = k ∧ i ≤ k ∧ k < n ∧ bitAt ws k = true ∧ ∀ j, i ≤ j → j < k → bitAt ws j = false
/-- what the loop holds: word number a has been masked so that only numbers from m on are in x -/
structure NextInv (ws : List Nat) (m a x : Nat) : Prop where
  lo : ∀ k, m ≤ k → k < 64 * a → bitAt ws k = false
  wd : ∀ j, j < 64 → x.testBit j = (decide (m ≤ 64 * a + j) && bitAt ws (64 * a + j))
theorem bitAt_word {ws : List Nat} {a j : Nat} (ha : a < ws.length) (hj : j < 64) : bitAt ws (64 * a + j) = ws[a].testBit j := by
  unfold bitAt
  rw [bit_div, show (64 * a + j) / 64 = a by omega, show (64 * a + j) % 64 = j by omega, List.getD_eq_getElem?_getD, List.getElem?_eq_getElem ha]; rfl
theorem mask_bits (x m j : Nat) : ((x / 2 ^ m) * 2 ^ m).testBit j = (decide (m ≤ j) && x.testBit j) := by
  rw [Nat.testBit_mul_two_pow, Nat.testBit_div_two_pow]
  by_cases h : m ≤ j
  · simp [h, Nat.sub_add_cancel h]
  · simp [h]
theorem andNot_w {x m : Nat} (hx : x < 18446744073709551616) (hm : m < 64) : bits .andNot .u64 (x : Int) ((2 ^ m - 1 : Nat) : Int) = ((x / 2 ^ m * 2 ^ m : Nat) : Int) := by
  have h2 := two_lt hm
  have hp : 1 ≤ 2 ^ m := Nat.one_le_two_pow
  rw [u64_andNot_nat _ _ hx (by omega)]
  congr 1
  apply Nat.eq_of_testBit_eq
  intro j
  rw [mask_bits, Nat.testBit_and]
  have e : (18446744073709551615 - (2 ^ m - 1)) = 2 ^ 64 - ((2 ^ m - 1) + 1) := by
    have e64 : (2 : Nat) ^ 64 = 18446744073709551616 := by decide
    omega
  rw [e, Nat.testBit_two_pow_sub_succ (by have e64 : (2 : Nat) ^ 64 = 18446744073709551616 := by decide
                                          omega), Nat.testBit_two_pow_sub_one]
  by_cases h : m ≤ j
  · by_cases hj : j < 64
    · simp [h, hj, show ¬ j < m by omega]
    · have : x.testBit j = false := Nat.testBit_lt_two_pow (Nat.lt_of_lt_of_le hx (by
        have : (2 : Nat) ^ 64 ≤ 2 ^ j := Nat.pow_le_pow_right (by decide) (by omega)
        have e64 : (2 : Nat) ^ 64 = 18446744073709551616 := by decide
        omega))
      simp [this]
  · simp [h, show j < m by omega]
theorem next_start {ws : List Nat} {m : Nat} (h : m / 64 < ws.length) : NextInv ws m (m / 64) (ws[m / 64] / 2 ^ (m % 64) * 2 ^ (m % 64)) := by
  refine ⟨fun k h1 h2 => by omega, fun j hj => ?_⟩
  rw [mask_bits, bitAt_word h hj]
  congr 1
  rw [Bool.eq_iff_iff]; simp; omega
theorem next_step {ws : List Nat} {m a : Nat} (hm : m / 64 ≤ a) (h : NextInv ws m a 0) (ha : a + 1 < ws.length) : NextInv ws m (a + 1) ws[a + 1] := by
  refine ⟨fun k h1 h2 => ?_, fun j hj => ?_⟩
  · by_cases hk : k < 64 * a
    · exact h.lo k h1 hk
    · have := h.wd (k - 64 * a) (by omega)
      rw [show 64 * a + (k - 64 * a) = k by omega] at this
      simp [h1] at this
      exact this
  · rw [bitAt_word ha hj]; simp; omega
theorem next_end {ws : List Nat} {n m a : Nat} (h : NextInv ws m a 0) (ha : a + 1 = ws.length) (hl : ws.length = (n + 63) / 64) (ht : ∀ k, n ≤ k → bitAt ws k = false) : IsNext ws n m (-1) := by
  refine .inl ⟨rfl, fun k hk => ?_⟩
  by_cases h1 : k < 64 * a
  · exact h.lo k hk h1
  · by_cases h2 : k < 64 * (a + 1)
    · have := h.wd (k - 64 * a) (by omega)
      rw [show 64 * a + (k - 64 * a) = k by omega] at this
      simp [hk] at this
      exact this
    · exact ht k (by omega)
theorem ctz_bits {x : Nat} (hx : x < 18446744073709551616) (h0 : x ≠ 0) : Lib.ctz 64 x < 64 ∧ x.testBit (Lib.ctz 64 x) = true ∧ ∀ j, j < Lib.ctz 64 x → x.testBit j = false := by
  obtain ⟨m, hm, hk⟩ := Lib.ctzFrom_spec 64 x (by omega) hx
  have e : Lib.ctz 64 x = Lib.ctzFrom 64 x := by simp [Lib.ctz, h0]
  rw [e]
  generalize Lib.ctzFrom 64 x = c at hm hk
  refine ⟨hk, ?_, fun j hj => ?_⟩
  · rw [hm, Nat.mul_comm, Nat.testBit_mul_two_pow]; simp
  · rw [hm, Nat.mul_comm, Nat.testBit_mul_two_pow]; simp; omega
theorem next_found {ws : List Nat} {n m a x : Nat} (h : NextInv ws m a x) (hx : x < 18446744073709551616) (h0 : x ≠ 0) (ht : ∀ k, n ≤ k → bitAt ws k = false) : IsNext ws n m ((a : Int) * 64 + (Lib.ctz 64 x : Nat)) := by
  obtain ⟨h1, h2, h3⟩ := ctz_bits hx h0
  have hw := h.wd _ h1
  rw [h2] at hw
  have hw' : m ≤ 64 * a + Lib.ctz 64 x ∧ bitAt ws (64 * a + Lib.ctz 64 x) = true := by
    have := hw.symm; simpa using this
  refine .inr ⟨64 * a + Lib.ctz 64 x, by omega, hw'.1, ?_, hw'.2, fun j hj1 hj2 => ?_⟩
  · rcases Nat.lt_or_ge (64 * a + Lib.ctz 64 x) n with h | h
    · exact h
    · rw [ht _ h] at hw'; exact absurd hw'.2 (by decide)
  · by_cases hja : j < 64 * a
    · exact h.lo j hj1 hja
    · have h4 := h.wd (j - 64 * a) (by omega)
      rw [h3 _ (by omega), show 64 * a + (j - 64 * a) = j by omega] at h4
      simp [hj1] at h4
      exact h4

theorem below_q (i : Nat) (w : World) (hi : i ≤ 16777216) :
    Calls Try.prog 29 #[.int .i64 (i : Int)] w fun e w' => e = .returned (.int .u64 ((2 ^ (i % 64) - 1 : Nat) : Int)) ∧ w' = w := (below_in i w hi).mono fun _ _ ⟨h1, h2⟩ => ⟨h1, h2.symm⟩
theorem BitsAt.drewN {w : World} {g g2 n : Nat} {ws : List Nat} (h : BitsAt w g g2 n ws) (q : Nat) : BitsAt (w.drewN q) g g2 n ws := h.at_ rfl rfl
theorem vInt {k : IntKind} {a b : Int} (h : a = b) : Value.int k a = .int k b := by rw [h]
def NextPost (ws : List Nat) (n i : Nat) (w : World) (e : Ending) (w' : World) : Prop := ∃ (r : Int) (q : Nat), e = .returned (.int .i64 r) ∧ IsNext ws n i r ∧ w.drewN q = w'
end Go.Proofs.Ythklbpcpmmpfmaa.Fl
