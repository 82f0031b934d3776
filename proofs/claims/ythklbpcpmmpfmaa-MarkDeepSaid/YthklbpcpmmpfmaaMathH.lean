/-
  Heads of objects in plain mathematics: the second word, what is wrong with a head, how many cells it has.
-/
import Derived.Laws.BitsAllLaws
namespace Go.Proofs.Ythklbpcpmmpfmaa.Fl

/-- the least error of a head -/
def hErr (cl kind size hash : Int) : Int := if cl = 0 ∨ cl % 2 = 1 then 1 else if size < 0 ∨ 1048576 < size then 2 else if 16777216 ≤ hash then 9 else if kind < 0 ∨ 2 < kind then 13 else 0
/-- the second word -/
def pk (kind size hash : Nat) (mark : Bool) : Nat := size + kind * 4294967296 + hash * 1099511627776 + (if mark then 68719476736 else 0)
theorem hErr_ok {cl kind size hash : Int} (h : hErr cl kind size hash = 0) : (cl ≠ 0 ∧ cl % 2 ≠ 1) ∧ (0 ≤ size ∧ size ≤ 1048576) ∧ hash < 16777216 ∧ (0 ≤ kind ∧ kind ≤ 2) := by
  unfold hErr at h
  split at h
  · cases h
  split at h
  · cases h
  split at h
  · cases h
  split at h
  · cases h
  omega
theorem hErr_mk {cl kind size hash : Int} (h0 : cl ≠ 0) (h1 : cl % 2 ≠ 1) (h2 : 0 ≤ size) (h3 : size ≤ 1048576) (h4 : hash < 16777216) (h5 : 0 ≤ kind) (h6 : kind ≤ 2) : hErr cl kind size hash = 0 := by
  unfold hErr
  rw [if_neg (by omega), if_neg (by omega), if_neg (by omega), if_neg (by omega)]
theorem hErr_cases (cl kind size hash : Int) : hErr cl kind size hash = 1 ∨ hErr cl kind size hash = 2 ∨ hErr cl kind size hash = 9 ∨ hErr cl kind size hash = 13 ∨ hErr cl kind size hash = 0 := by
  unfold hErr
  split
  · simp
  split
  · simp
  split
  · simp
  split <;> simp
theorem or32 {a b : Nat} (h : b < 4294967296) : 4294967296 * a ||| b = 4294967296 * a + b := (Nat.two_pow_add_eq_or_of_lt (i := 32) h a).symm
theorem or36 {a b : Nat} (h : b < 68719476736) : 68719476736 * a ||| b = 68719476736 * a + b := (Nat.two_pow_add_eq_or_of_lt (i := 36) h a).symm
theorem or40 {a b : Nat} (h : b < 1099511627776) : 1099511627776 * a ||| b = 1099511627776 * a + b := (Nat.two_pow_add_eq_or_of_lt (i := 40) h a).symm
theorem pk_lt {kind size hash : Nat} {mark : Bool} (hk : kind ≤ 2) (hs : size ≤ 1048576) (hh : hash < 16777216) : pk kind size hash mark < 18446744073709551616 := by
  unfold pk; split <;> omega
theorem or_kind {kind size : Nat} (hs : size ≤ 1048576) : size ||| kind * 4294967296 = size + kind * 4294967296 := by
  rw [Nat.or_comm, Nat.mul_comm kind, or32 (by omega), Nat.add_comm]
theorem pk_f {kind size hash : Nat} : pk kind size hash false = 1099511627776 * hash + (size + kind * 4294967296) := by
  show size + kind * 4294967296 + hash * 1099511627776 + 0 = _
  omega
theorem pk_t {kind size hash : Nat} : pk kind size hash true = 1099511627776 * hash + (68719476736 * 1 + (size + kind * 4294967296)) := by
  show size + kind * 4294967296 + hash * 1099511627776 + 68719476736 = _
  omega
theorem or_hash {kind size hash : Nat} (hk : kind ≤ 2) (hs : size ≤ 1048576) : (size + kind * 4294967296) ||| hash * 1099511627776 = pk kind size hash false := by
  rw [pk_f, Nat.or_comm, Nat.mul_comm hash, or40 (by omega)]
theorem or_mark {kind size hash : Nat} (hk : kind ≤ 2) (hs : size ≤ 1048576) : pk kind size hash false ||| 68719476736 = pk kind size hash true := by
  have h0 : size + kind * 4294967296 < 68719476736 := by omega
  rw [pk_f, pk_t]
  generalize size + kind * 4294967296 = y at h0
  rw [← or40 (a := hash) (b := y) (by omega), Nat.or_assoc, Nat.or_comm y, show y = y from rfl]
  have e : (68719476736 : Nat) ||| y = 68719476736 * 1 + y := or36 (a := 1) h0
  rw [e, or40 (by omega)]

/-- the parts of a second word -/
def zSize (x : Nat) : Nat := x % 4294967296
def zKind (x : Nat) : Nat := x / 4294967296 % 16
def zHash (x : Nat) : Nat := x / 1099511627776
def zMark (x : Nat) : Bool := decide (x / 68719476736 % 2 = 1)
/-- the three bits between are 0 -/
def zGap (x : Nat) : Nat := x / 137438953472 % 8
theorem whole (x : Nat) : x = x % 4294967296 + x / 4294967296 % 16 * 4294967296 + x / 68719476736 % 2 * 68719476736 + x / 137438953472 % 8 * 137438953472 + x / 1099511627776 * 1099511627776 := by
  have h1 : x = x % 4294967296 + x / 4294967296 * 4294967296 := by omega
  have h2 : x / 68719476736 = x / 4294967296 / 16 := by rw [Nat.div_div_eq_div_mul]
  have h3 : x / 137438953472 = x / 4294967296 / 32 := by rw [Nat.div_div_eq_div_mul]
  have h4 : x / 1099511627776 = x / 4294967296 / 256 := by rw [Nat.div_div_eq_div_mul]
  rw [h2, h3, h4]
  generalize x / 4294967296 = y at *
  generalize x % 4294967296 = z at *
  omega
theorem zMark_val (x : Nat) : (if zMark x then 68719476736 else 0) = x / 68719476736 % 2 * 68719476736 := by
  unfold zMark
  by_cases h : x / 68719476736 % 2 = 1
  · simp [h]
  · simp [show x / 68719476736 % 2 = 0 by omega]
theorem whole_z (x : Nat) : x = pk (zKind x) (zSize x) (zHash x) (zMark x) + zGap x * 137438953472 := by
  unfold pk
  rw [zMark_val]
  unfold zKind zSize zHash zGap
  have key : ∀ a b c d e : Nat, a + b * 4294967296 + c * 68719476736 + d * 137438953472 + e * 1099511627776 = a + b * 4294967296 + e * 1099511627776 + c * 68719476736 + d * 137438953472 := by intros; omega
  exact (whole x).trans (key _ _ _ _ _)
theorem pk_back {x : Nat} (hg : zGap x = 0) : pk (zKind x) (zSize x) (zHash x) (zMark x) = x := by
  have := whole_z x
  rw [hg] at this
  omega
theorem pk_gap {x : Nat} (h : pk (zKind x) (zSize x) (zHash x) (zMark x) = x) : zGap x = 0 := by
  have := whole_z x
  omega
theorem z_pk {kind size hash : Nat} (mark : Bool) (hk : kind ≤ 2) (hs : size ≤ 1048576) : zSize (pk kind size hash mark) = size ∧ zKind (pk kind size hash mark) = kind ∧ zHash (pk kind size hash mark) = hash ∧ zMark (pk kind size hash mark) = mark ∧ zGap (pk kind size hash mark) = 0 := by
  obtain ⟨m, hm, hm2, he⟩ : ∃ m : Nat, m ≤ 1 ∧ mark = decide (m = 1) ∧ pk kind size hash mark = size + (kind + 16 * (m + 16 * hash)) * 4294967296 := by
    cases mark
    · exact ⟨0, by omega, rfl, by rw [pk_f]; omega⟩
    · exact ⟨1, by omega, rfl, by rw [pk_t]; omega⟩
  rw [he]
  have h1 : (size + (kind + 16 * (m + 16 * hash)) * 4294967296) / 4294967296 = kind + 16 * (m + 16 * hash) := by omega
  have h2 : ∀ y : Nat, y / 68719476736 = y / 4294967296 / 16 := fun y => by rw [Nat.div_div_eq_div_mul]
  have h3 : ∀ y : Nat, y / 137438953472 = y / 4294967296 / 32 := fun y => by rw [Nat.div_div_eq_div_mul]
  have h4 : ∀ y : Nat, y / 1099511627776 = y / 4294967296 / 256 := fun y => by rw [Nat.div_div_eq_div_mul]
  unfold zKind zSize zHash zMark zGap
  rw [h2, h3, h4, h1, hm2]
  refine ⟨by omega, by omega, by omega, ?_, by omega⟩
  rw [show (kind + 16 * (m + 16 * hash)) / 16 % 2 = m by omega]
theorem zHash_lt {x : Nat} (h : x < 18446744073709551616) : zHash x < 16777216 := by unfold zHash; omega
end Go.Proofs.Ythklbpcpmmpfmaa.Fl
