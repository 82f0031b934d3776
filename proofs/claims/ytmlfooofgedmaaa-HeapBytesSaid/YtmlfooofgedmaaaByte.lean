/-
  One byte of a word.
-/
import Derived.Test.YtmlfooofgedmaaaHeapI
import Derived.Laws.BitsAllLaws
namespace Go.Proofs.Ytmlfooofgedmaaa.Fl
open Go.RowKit

def getB (x j : Nat) : Nat := x / 2 ^ (8 * j) % 2 ^ 8
def putB (x s b : Nat) : Nat := (BitVec.ofNat 64 x &&& ~~~ BitVec.ofNat 64 (255 * 2 ^ s)).toNat ||| (b * 2 ^ s)
theorem shl_lt {c s : Nat} (hc : c < 256) (hs : s ≤ 56) : c * 2 ^ s < 18446744073709551616 := by
  have h1 : 2 ^ s ≤ 2 ^ 56 := Nat.pow_le_pow_right (by omega) hs
  have h2 : c * 2 ^ s ≤ 255 * 2 ^ 56 := Nat.mul_le_mul (by omega) h1
  have h3 : 255 * 2 ^ 56 < 18446744073709551616 := by decide
  omega
theorem wrap_shl {c s : Nat} (hc : c < 256) (hs : s ≤ 56) : IntKind.u64.wrap ((c : Int) * 2 ^ s) = ((c * 2 ^ s : Nat) : Int) := by
  have h := shl_lt hc hs
  have e : (c : Int) * 2 ^ s = ((c * 2 ^ s : Nat) : Int) := by simp
  rw [e, IntKind.wrap_u64]
  generalize c * 2 ^ s = m at h ⊢
  omega
theorem andNot_nat (a b : Nat) : bits .andNot .u64 (a : Int) (b : Int) = ((BitVec.ofNat 64 a &&& ~~~ BitVec.ofNat 64 b).toNat : Int) := by
  show IntKind.u64.wrap ((BitVec.ofInt 64 (a : Int) &&& ~~~ BitVec.ofInt 64 (b : Int)).toNat : Int) = _
  rw [BitVec.ofInt_natCast, BitVec.ofInt_natCast, IntKind.wrap_u64]
  have := (BitVec.ofNat 64 a &&& ~~~ BitVec.ofNat 64 b).isLt
  generalize (BitVec.ofNat 64 a &&& ~~~ BitVec.ofNat 64 b).toNat = m at this ⊢
  omega
theorem putB_lt {x s b : Nat} (hs : s ≤ 56) (hb : b < 256) : putB x s b < 18446744073709551616 :=
  Nat.or_lt_two_pow (n := 64) (BitVec.isLt _) (shl_lt hb hs)
theorem putB_int {x s b : Nat} (hs : s ≤ 56) (hb : b < 256) : bits .or .u64 (bits .andNot .u64 (x : Int) (IntKind.u64.wrap (255 * 2 ^ s))) (IntKind.u64.wrap ((b : Int) * 2 ^ s)) = ((putB x s b : Nat) : Int) := by
  have h1 := wrap_shl (c := 255) (by omega) hs
  rw [show ((255 : Nat) : Int) = 255 from rfl] at h1
  rw [h1, wrap_shl hb hs, andNot_nat, u64_or_nat _ _ (BitVec.isLt _) (shl_lt hb hs)]
  rfl
theorem bit_shl (c s m : Nat) : (c * 2 ^ s).testBit m = (decide (s ≤ m) && c.testBit (m - s)) := by
  rw [Nat.mul_comm, Nat.testBit_two_pow_mul]
theorem bit_255 (t : Nat) : (255 : Nat).testBit t = decide (t < 8) := Nat.testBit_two_pow_sub_one 8 t
theorem bit_high {b : Nat} (hb : b < 256) {t : Nat} (ht : 8 ≤ t) : b.testBit t = false := Nat.testBit_lt_two_pow (Nat.lt_of_lt_of_le hb (Nat.pow_le_pow_right (n := 2) (by omega) ht))
theorem bit_putB {x s b m : Nat} (hm : m < 64) (_hx : x < 18446744073709551616) (hs : s ≤ 56) : (putB x s b).testBit m = ((x.testBit m && !(decide (s ≤ m) && decide (m - s < 8))) || (decide (s ≤ m) && b.testBit (m - s))) := by
  unfold putB
  have h255 := shl_lt (c := 255) (by omega) hs
  rw [Nat.testBit_or, bit_shl, ← BitVec.getLsbD, BitVec.getLsbD_and, BitVec.getLsbD_not, BitVec.getLsbD_ofNat, BitVec.getLsbD_ofNat, bit_shl, bit_255]
  simp [hm]
theorem getB_putB {x j j2 b : Nat} (hx : x < 18446744073709551616) (hj : j < 8) (hj2 : j2 < 8) (hb : b < 256) : getB (putB x (8 * j) b) j2 = if j = j2 then b else getB x j2 := by
  apply Nat.eq_of_testBit_eq
  intro t
  unfold getB
  rw [Nat.testBit_mod_two_pow, Nat.testBit_div_two_pow]
  by_cases ht : t < 8
  · rw [bit_putB (by omega) hx (by omega)]
    by_cases e : j = j2
    · subst e
      rw [if_pos rfl]
      have e1 : t + 8 * j - 8 * j = t := by omega
      simp [ht, e1]
    · rw [if_neg e, Nat.testBit_mod_two_pow, Nat.testBit_div_two_pow]
      by_cases h1 : 8 * j ≤ t + 8 * j2
      · have h2 : 8 ≤ t + 8 * j2 - 8 * j := by omega
        have h3 : ¬ (t + 8 * j2 - 8 * j < 8) := by omega
        simp [ht, h1, h3, bit_high hb h2]
      · simp [ht, h1]
  · simp only [ht, decide_false, Bool.false_and]
    by_cases e : j = j2
    · rw [if_pos e]; exact (bit_high hb (by omega)).symm
    · rw [if_neg e, Nat.testBit_mod_two_pow]; simp [ht]
theorem getB_lt (x j : Nat) : getB x j < 256 := by unfold getB; exact Nat.mod_lt _ (by decide)
end Go.Proofs.Ytmlfooofgedmaaa.Fl
