/-
  First and After: object by object.
-/
import Derived.Test.YtahmljjjdoaahaaDoorPDoc
import Derived.Test.YtahmljjjdoaahaaDoorPHeap
namespace Go.Proofs.YtahmljjjdoaahaaDoor.Fl
open Go.RowKit

section
variable {base g gc cap gb gb2 size last : Nat} {L ws : List Nat}
def standN (L : List Nat) (n : Nat) : Nat := if n < L.length then 2 * n else 0
end
/-- the pointer to object k, 0 behind the last one -/
def standK (os : List Ob) (k : Nat) : Nat := if k < os.length then 2 * pos os k else 0
theorem standN_pos {os : List Ob} {k : Nat} (h : k ≤ os.length) : standN (Lof os) (pos os k) = standK os k := by
  unfold standN standK
  by_cases hk : k < os.length
  · have := pos_top os hk
    rw [if_pos hk, if_pos (by omega)]
  · have e : k = os.length := by omega
    subst e
    rw [pos_all, if_neg (Nat.lt_irrefl _), if_neg (Nat.lt_irrefl _)]
section
variable {w : World} {base g gc cap gb gb2 size last : Nat} {os : List Ob} {ws : List Nat}
end
theorem standK_lt {os : List Ob} {k : Nat} (h : k < os.length) : standK os k = 2 * pos os k := if_pos h
theorem standK_end {os : List Ob} {k : Nat} (h : os.length ≤ k) : standK os k = 0 := if_neg (by omega)
/-- how many objects stand from here on -/
def leftZ (os : List Ob) (z : Int) : Nat := if z = 0 then 0 else os.length - idx os z.toNat
def leftK (os : List Ob) (v : Value) : Nat := leftZ os (intOf v)
theorem leftK_lt {os : List Ob} {k : Nat} (h : k < os.length) : leftK os (.int .u64 (standK os k : Int)) = os.length - k := by
  have hp := pos_two os k
  show leftZ os (standK os k : Int) = _
  rw [standK_lt h]
  unfold leftZ
  rw [if_neg (by omega), show ((2 * pos os k : Nat) : Int).toNat = 2 * pos os k by omega, idx_pos os h]
theorem leftK_end {os : List Ob} {k : Nat} (h : os.length ≤ k) : leftK os (.int .u64 (standK os k : Int)) = 0 := by
  show leftZ os (standK os k : Int) = _
  rw [standK_end h]
  exact if_pos rfl
theorem leftK_step {os : List Ob} {k : Nat} (h : k < os.length) : leftK os (.int .u64 (standK os (k + 1) : Int)) < leftK os (.int .u64 (standK os k : Int)) := by
  rw [leftK_lt h]
  by_cases h1 : k + 1 < os.length
  · rw [leftK_lt h1]; omega
  · rw [leftK_end (by omega)]; omega
end Go.Proofs.YtahmljjjdoaahaaDoor.Fl
