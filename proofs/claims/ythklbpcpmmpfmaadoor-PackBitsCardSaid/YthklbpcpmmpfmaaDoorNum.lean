/-
  Contracts of package pack's numbers: number, Get; the document's Get.
-/
import Derived.Test.YthklbpcpmmpfmaaDoorAwP
namespace Go.Proofs.YthklbpcpmmpfmaaDoor.Fl
open Go.RowKit

/-- the number of bytes, the lowest first -/
def leNat : List UInt8 → Nat
  | [] => 0
  | c :: cs => c.toNat + 256 * leNat cs
theorem leNat_lt (xs : List UInt8) : leNat xs < 256 ^ xs.length := by
  induction xs with
  | nil => simp [leNat]
  | cons c cs ih =>
    have hc := UInt8.toNat_lt c
    simp only [leNat, List.length_cons, Nat.pow_succ]
    omega
theorem leNat_snoc (xs : List UInt8) (c : UInt8) : leNat (xs ++ [c]) = leNat xs + c.toNat * 256 ^ xs.length := by
  induction xs with
  | nil => simp [leNat]
  | cons a ts ih =>
    simp only [List.cons_append, leNat, ih, List.length_cons, Nat.pow_succ, Nat.mul_add]
    rw [← Nat.add_assoc, Nat.mul_left_comm, Nat.mul_comm 256 (256 ^ ts.length)]
theorem pow256 {k : Nat} (h : k ≤ 8) : 256 ^ k ≤ 18446744073709551616 := by
  have : 256 ^ k ≤ 256 ^ 8 := Nat.pow_le_pow_right (by decide) h
  omega
theorem byte_mul_lt {k c : Nat} (h : k < 8) (hc : c < 256) : c * 256 ^ k < 18446744073709551616 := by
  have h1 := pow256 (k := k + 1) (by omega)
  rw [Nat.pow_succ] at h1
  have hp : 0 < 256 ^ k := Nat.pow_pos (by decide)
  have : c * 256 ^ k < 256 * 256 ^ k := Nat.mul_lt_mul_of_pos_right hc hp
  omega
theorem or_byte {s k : Nat} {c : UInt8} (h : k < 8) (hs : s < 256 ^ k) : bits .or .u64 (s : Int) (IntKind.u64.wrap ((c.toNat : Int) * 2 ^ (8 * k))) = ((s + c.toNat * 256 ^ k : Nat) : Int) := by
  have hc := UInt8.toNat_lt c
  have hm := byte_mul_lt h (by omega : c.toNat < 256)
  have hp := pow256 (k := k) (by omega)
  have e : IntKind.u64.wrap ((c.toNat : Int) * 2 ^ (8 * k)) = ((c.toNat * 256 ^ k : Nat) : Int) := by
    rw [pow_mul_cast, ← Int.natCast_mul, IntKind.wrap_u64]
    generalize c.toNat * 256 ^ k = z at hm
    omega
  rw [e, u64_or_nat _ _ (by omega) hm]
  congr 1
  rw [← pow8] at hs ⊢
  rw [Nat.or_comm, Nat.mul_comm, ← Nat.two_pow_add_eq_or_of_lt hs]
  omega
theorem num_step {xs : List UInt8} {k : Nat} (hk : k < xs.length) : leNat (xs.take (k + 1)) = leNat (xs.take k) + xs[k].toNat * 256 ^ k := by
  rw [List.take_succ_eq_append_getElem hk, leNat_snoc, List.length_take, Nat.min_eq_left (Nat.le_of_lt hk)]
theorem take_lt (xs : List UInt8) {k : Nat} (h : k ≤ xs.length) : leNat (xs.take k) < 256 ^ k := by
  have := leNat_lt (xs.take k)
  rwa [List.length_take, Nat.min_eq_left h] at this
def resNum (xs : List UInt8) (m : Nat) : Nat := if xs.length < m then 0 else leNat (xs.take m)
def errNum (xs : List UInt8) (m : Nat) : Nat := if xs.length < m then 4 else 0
theorem leNat_drop {xs : List UInt8} {m j : Nat} (h : j < m) (hm : m ≤ xs.length) : leNat ((xs.take m).drop j) = (xs[j]'(by omega)).toNat + 256 * leNat ((xs.take m).drop (j + 1)) := by
  rw [List.drop_eq_getElem_cons (by rw [List.length_take]; omega)]
  simp [leNat]
theorem leNat_drop_lt (xs : List UInt8) (m j : Nat) (hm : m ≤ 8) : leNat ((xs.take m).drop (j + 1)) < 256 ^ 7 ∨ m ≤ j := by
  rcases Nat.lt_or_ge j m with h | h
  · have h1 := leNat_lt ((xs.take m).drop (j + 1))
    have h2 : 256 ^ ((xs.take m).drop (j + 1)).length ≤ 256 ^ 7 := Nat.pow_le_pow_right (by decide) (by simp; omega)
    exact .inl (Nat.lt_of_lt_of_le h1 h2)
  · exact .inr h
end Go.Proofs.YthklbpcpmmpfmaaDoor.Fl
