/-
  Instructions: the document's bytes of a number.
-/
import Derived.Test.YtdfghcbojbbgcaaDoorCdH
namespace Go.Proofs.YtdfghcbojbbgcaaDoor.Fl
open Go.RowKit

def okU (s : Nat) (y : Int) : Bool := decide (0 ≤ y) && decide (y < ((256 ^ s : Nat) : Int))
theorem okU_end (s : Nat) (hs : s ≤ 2) (y : Int) (h : 0 < s → 0 ≤ y) : okU s y = (y / ((256 ^ s : Nat) : Int) == 0) := by
  unfold okU
  obtain rfl | rfl | rfl : s = 0 ∨ s = 1 ∨ s = 2 := by omega
  · rw [Bool.eq_iff_iff]; simp only [Bool.and_eq_true, decide_eq_true_eq, beq_iff_eq]; constructor <;> intro _ <;> omega
  · have := h (by omega)
    rw [Bool.eq_iff_iff]; simp only [Bool.and_eq_true, decide_eq_true_eq, beq_iff_eq]; constructor <;> intro _ <;> omega
  · have := h (by omega)
    rw [Bool.eq_iff_iff]; simp only [Bool.and_eq_true, decide_eq_true_eq, beq_iff_eq]; constructor <;> intro _ <;> omega
theorem okU_neg (s : Nat) {y : Int} (h : y < 0) : okU s y = false := by
  unfold okU
  rw [decide_eq_false (by omega)]
  rfl
theorem byteI_mod {a b : Int} (h : a % 256 = b % 256) : byteI a = byteI b := by unfold byteI; rw [h]
theorem bytesN_s1 (x : Int) : bytesN 1 ((x + 256) % 256) = bytesN 1 x := by
  show [byteI ((x + 256) % 256)] = [byteI x]
  rw [byteI_mod (show (x + 256) % 256 % 256 = x % 256 by omega)]
theorem bytesN_s2 (x : Int) : bytesN 2 ((x + 65536) % 65536) = bytesN 2 x := by
  show [byteI ((x + 65536) % 65536), byteI ((x + 65536) % 65536 / 256)] = [byteI x, byteI (x / 256)]
  rw [byteI_mod (show (x + 65536) % 65536 % 256 = x % 256 by omega), byteI_mod (show (x + 65536) % 65536 / 256 % 256 = x / 256 % 256 by omega)]
/-- bytes stand behind those of the call's own, or not all of them -/
def RPost (base : Nat) (xs ys : List UInt8) (ok : Bool) (w : World) (e : Ending) (w' : World) : Prop :=
  Below base w w' ∧ ∃ A c ts, e = .returned (.tuple #[.slice A ts.length c, .bool ok]) ∧ OwnB w' base (.slice A ts.length c) ts ∧ ts.length ≤ xs.length + 2 ∧ (ok = true → ts = xs ++ ys)

end Go.Proofs.YtdfghcbojbbgcaaDoor.Fl
