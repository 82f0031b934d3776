/-
  Plain mathematics for the checksum: one step, one byte, all bytes; another byte makes another sum. No program in it.
-/
import Derived.Test.YthklbpcpmmpfmaaDoorMath
namespace Go.Proofs.YthklbpcpmmpfmaaDoor.Fl
open Go.RowKit

def crcBit (s : Nat) : Nat := (s / 2) ^^^ (if s % 2 = 1 then 3988292384 else 0)
def crcBits : Nat → Nat → Nat
  | 0, s => s
  | k + 1, s => crcBits k (crcBit s)
def crcByte (s : Nat) (c : UInt8) : Nat := crcBits 8 (s ^^^ c.toNat)
def crcAll (s : Nat) (xs : List UInt8) : Nat := xs.foldl crcByte s
def compl (v : Nat) : Nat := 4294967295 - v
def upd (v : Nat) (xs : List UInt8) : Nat := compl (crcAll (compl v) xs)

theorem crcBit_lt {s : Nat} (h : s < 4294967296) : crcBit s < 4294967296 := by
  unfold crcBit
  apply Nat.xor_lt_two_pow (n := 32)
  · omega
  · split <;> omega
theorem crcBits_lt : ∀ (k : Nat) {s : Nat}, s < 4294967296 → crcBits k s < 4294967296
  | 0, _, h => h
  | k + 1, _, h => crcBits_lt k (crcBit_lt h)
theorem crcBits_snoc : ∀ (k s : Nat), crcBits (k + 1) s = crcBit (crcBits k s)
  | 0, _ => rfl
  | k + 1, s => crcBits_snoc k (crcBit s)
theorem byte_xor_lt {s : Nat} {c : UInt8} (h : s < 4294967296) : (s ^^^ c.toNat) < 4294967296 := by
  apply Nat.xor_lt_two_pow (n := 32) h
  have := UInt8.toNat_lt c
  omega
theorem crcByte_lt {s : Nat} {c : UInt8} (h : s < 4294967296) : crcByte s c < 4294967296 := crcBits_lt 8 (byte_xor_lt h)
theorem crcAll_lt {s : Nat} (xs : List UInt8) (h : s < 4294967296) : crcAll s xs < 4294967296 := by
  unfold crcAll
  induction xs generalizing s with
  | nil => exact h
  | cons c r ih => exact ih (crcByte_lt h)
theorem compl_lt (v : Nat) : compl v < 4294967296 := by unfold compl; omega
theorem compl_compl {v : Nat} (h : v < 4294967296) : compl (compl v) = v := by unfold compl; omega
theorem upd_lt (v : Nat) (xs : List UInt8) : upd v xs < 4294967296 := compl_lt _
theorem crcAll_append (s : Nat) (a b : List UInt8) : crcAll s (a ++ b) = crcAll (crcAll s a) b := by unfold crcAll; exact List.foldl_append
theorem upd_append (v : Nat) (a b : List UInt8) : upd (upd v a) b = upd v (a ++ b) := by
  unfold upd
  rw [compl_compl (crcAll_lt a (compl_lt v)), crcAll_append]
theorem upd_nil {v : Nat} (h : v < 4294967296) : upd v [] = v := compl_compl h
theorem crcAll_snoc (s : Nat) (a : List UInt8) (c : UInt8) : crcAll s (a ++ [c]) = crcByte (crcAll s a) c := by rw [crcAll_append]; rfl

/-! ### another byte -/
theorem high_bit {s : Nat} (h : s < 4294967296) : crcBit s / 2147483648 = s % 2 := by
  unfold crcBit
  rw [show (2147483648 : Nat) = 2 ^ 31 from by decide, Nat.xor_div_two_pow]
  have e31 : (2 : Nat) ^ 31 = 2147483648 := by decide
  have h0 : s / 2 < 2 ^ 31 := by omega
  rw [Nat.div_eq_of_lt h0]
  rcases Nat.mod_two_eq_zero_or_one s with e | e <;> rw [e]
  · decide
  · decide
theorem crcBit_inj {s t : Nat} (hs : s < 4294967296) (ht : t < 4294967296) (h : crcBit s = crcBit t) : s = t := by
  have h1 := high_bit hs
  have h2 := high_bit ht
  have e : s % 2 = t % 2 := by rw [← h1, ← h2, h]
  unfold crcBit at h
  rw [e] at h
  have h3 : s / 2 = t / 2 := by
    have := congrArg (· ^^^ (if t % 2 = 1 then 3988292384 else 0)) h
    simpa [Nat.xor_assoc] using this
  omega
theorem crcBits_inj : ∀ (k : Nat) {s t : Nat}, s < 4294967296 → t < 4294967296 → crcBits k s = crcBits k t → s = t
  | 0, _, _, _, _, h => h
  | k + 1, _, _, hs, ht, h => crcBit_inj hs ht (crcBits_inj k (crcBit_lt hs) (crcBit_lt ht) h)
theorem crcByte_inj {s t : Nat} {c : UInt8} (hs : s < 4294967296) (ht : t < 4294967296) (h : crcByte s c = crcByte t c) : s = t := by
  have := crcBits_inj 8 (byte_xor_lt hs) (byte_xor_lt ht) h
  have := congrArg (· ^^^ c.toNat) this
  simpa [Nat.xor_assoc] using this
theorem crcAll_inj {s t : Nat} (xs : List UInt8) (hs : s < 4294967296) (ht : t < 4294967296) (h : crcAll s xs = crcAll t xs) : s = t := by
  unfold crcAll at h
  induction xs generalizing s t with
  | nil => exact h
  | cons c r ih => exact crcByte_inj hs ht (ih (crcByte_lt hs) (crcByte_lt ht) h)
theorem crcByte_ne {s : Nat} {c d : UInt8} (hs : s < 4294967296) (h : c ≠ d) : crcByte s c ≠ crcByte s d := by
  intro e
  have := crcBits_inj 8 (byte_xor_lt hs) (byte_xor_lt hs) e
  have := congrArg (s ^^^ ·) this
  simp only [← Nat.xor_assoc, Nat.xor_self, Nat.zero_xor] at this
  exact h (UInt8.toNat_inj.1 this)
theorem crc_other {s : Nat} (a b : List UInt8) {c d : UInt8} (hs : s < 4294967296) (h : c ≠ d) : crcAll s (a ++ c :: b) ≠ crcAll s (a ++ d :: b) := by
  intro e
  rw [crcAll_append, crcAll_append] at e
  have e2 : crcAll (crcByte (crcAll s a) c) b = crcAll (crcByte (crcAll s a) d) b := e
  exact crcByte_ne (crcAll_lt a hs) h (crcAll_inj b (crcByte_lt (crcAll_lt a hs)) (crcByte_lt (crcAll_lt a hs)) e2)
theorem upd_other (a b : List UInt8) {c d : UInt8} (h : c ≠ d) : upd 0 (a ++ c :: b) ≠ upd 0 (a ++ d :: b) := by
  intro e
  unfold upd compl at e
  have h1 := crcAll_lt (a ++ c :: b) (s := 4294967295 - 0) (by omega)
  have h2 := crcAll_lt (a ++ d :: b) (s := 4294967295 - 0) (by omega)
  exact crc_other a b (s := 4294967295 - 0) (by omega) h (by omega)

/-! ### as the walk writes it -/
theorem compl_nat {v : Nat} (h : v < 4294967296) : (4294967295 ^^^ v) = compl v := by
  have h1 := nat_xor_and 4294967295 v
  have h2 := nat_and_or 4294967295 v
  have h3 : (4294967295 &&& v) = v := by
    rw [Nat.and_comm, show (4294967295 : Nat) = 2 ^ 32 - 1 from by decide, Nat.and_two_pow_sub_one_eq_mod]
    have e32 : (2 : Nat) ^ 32 = 4294967296 := by decide
    omega
  unfold compl
  omega
theorem max_u32 : IntKind.u32.max = 4294967295 := by decide
theorem compl_w {v : Nat} (h : v < 4294967296) : bits .xor .u32 IntKind.u32.max (v : Int) = (compl v : Nat) := by
  rw [max_u32, show (4294967295 : Int) = ((4294967295 : Nat) : Int) from rfl, u32_xor_nat _ _ (by omega) h]
  rw [compl_nat h]
theorem compl_w2 {v : Nat} (h : v < 4294967296) : bits .xor .u32 (v : Int) 4294967295 = (compl v : Nat) := by
  rw [show (4294967295 : Int) = ((4294967295 : Nat) : Int) from rfl, u32_xor_nat _ _ h (by omega), Nat.xor_comm]
  rw [compl_nat h]
end Go.Proofs.YthklbpcpmmpfmaaDoor.Fl
