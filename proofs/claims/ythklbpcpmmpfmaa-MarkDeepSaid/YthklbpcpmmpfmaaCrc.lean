/-
  Contracts of the checksum: the document's Crc, Sum.Add, Sum.Value, Crc.
-/
import Derived.Test.YthklbpcpmmpfmaaProg
import Derived.Test.YthklbpcpmmpfmaaMem
import Derived.Test.YthklbpcpmmpfmaaMathC
import Derived.WalkSpells
import Derived.WalkLawsBesides
import Derived.Deep.QuietTactic
import Derived.BigQuiet
import Derived.Lib.Hide
namespace Go.Proofs.Ythklbpcpmmpfmaa.Fl
open Go.RowKit
attribute [local irreducible] crcBit crcBits crcByte crcAll compl upd

theorem take_snoc8 (xs : List UInt8) (k : Nat) (h : k < xs.length) : xs.take (k + 1) = xs.take k ++ [xs[k]] := List.take_succ_eq_append_getElem h
theorem crc_take (s : Nat) (xs : List UInt8) (k : Nat) (h : k < xs.length) : crcAll s (xs.take (k + 1)) = crcByte (crcAll s (xs.take k)) xs[k] := by rw [take_snoc8 xs k h, crcAll_snoc]
theorem byte_w {s : Nat} {c : UInt8} (h : s < 4294967296) : bits .xor .u32 (s : Int) (c.toNat : Int) = ((s ^^^ c.toNat : Nat) : Int) := u32_xor_nat _ _ h (by have := UInt8.toNat_lt c; omega)
theorem crcByte_eq (s : Nat) (c : UInt8) : crcByte s c = crcBits 8 (s ^^^ c.toNat) := by unfold crcByte; rfl

theorem bit_yes {t : Nat} (ht : t < 4294967296) (h : t % 2 = 1) : bits .xor .u32 ((t : Int) / 2) 3988292384 = (crcBit t : Nat) := by
  rw [show ((t : Int) / 2) = ((t / 2 : Nat) : Int) by omega, show (3988292384 : Int) = ((3988292384 : Nat) : Int) from rfl, u32_xor_nat _ _ (by omega) (by omega)]
  unfold crcBit; rw [if_pos h]
theorem bit_no {t : Nat} (h : ¬ t % 2 = 1) : ((t : Int) / 2) = (crcBit t : Nat) := by
  unfold crcBit; rw [if_neg h, Nat.xor_zero]; omega
theorem crcBits_succ (k s : Nat) : crcBits (k + 1) s = crcBits k (crcBit s) := by rw [crcBits]
theorem compl_zero : compl 0 = 4294967295 := by unfold compl; rfl
theorem crcBits_left {j t : Nat} (h : j < 8) : crcBits (8 - j) t = crcBits (8 - (j + 1)) (crcBit t) := by
  rw [show 8 - j = (8 - (j + 1)) + 1 by omega, crcBits_succ]
theorem and_one32 {t : Nat} (ht : t < 4294967296) (h : t % 2 = 1) : bits .and .u32 (t : Int) 1 = 1 := by
  rw [show (1 : Int) = ((1 : Nat) : Int) from rfl, u32_and_nat _ _ ht (by omega), nat_mask1, h]
theorem and_zero32 {t : Nat} (ht : t < 4294967296) (h : ¬ t % 2 = 1) : bits .and .u32 (t : Int) 1 = 0 := by
  rw [show (1 : Int) = ((1 : Nat) : Int) from rfl, u32_and_nat _ _ ht (by omega), nat_mask1, show t % 2 = 0 by omega]; rfl
theorem mask_yes : bits .and .u32 3988292384 4294967295 = 3988292384 := by decide
theorem mask_no : bits .and .u32 3988292384 0 = 0 := by decide
theorem bit_no' {t : Nat} (ht : t < 4294967296) (h : ¬ t % 2 = 1) : bits .xor .u32 ((t : Int) / 2) 0 = (crcBit t : Nat) := by
  rw [show ((t : Int) / 2) = ((t / 2 : Nat) : Int) by omega, show (0 : Int) = ((0 : Nat) : Int) from rfl, u32_xor_nat _ _ (by omega) (by omega)]
  unfold crcBit; rw [if_neg h]
theorem val_u32 {a b : Int} (h : a = b) : Value.int .u32 a = .int .u32 b := by rw [h]
theorem ret_u32 {a b : Int} (h : a = b) : Ending.returned (.int .u32 a) = .returned (.int .u32 b) := by rw [h]

end Go.Proofs.Ythklbpcpmmpfmaa.Fl
