/-
  The fixed fact of the second layer's laws.
-/
import Derived.Test.YtmlfooofgedmaaaPut
import Derived.Lib.SlBytesConst
namespace Go.Proofs.Ytmlfooofgedmaaa.Fl
open Go.RowKit

def digits9 : List UInt8 := [49, 50, 51, 52, 53, 54, 55, 56, 57]
theorem crc_digits : (upd 0 digits9 : Nat) = 3421780262 := by decide +kernel
theorem cb_digits : cb digits9 = [.int .u8 49, .int .u8 50, .int .u8 51, .int .u8 52, .int .u8 53, .int .u8 54, .int .u8 55, .int .u8 56, .int .u8 57] := rfl
def zeros100 : List Nat := List.replicate ((100 + 63) / 64) 0
theorem zeros_bit (k : Nat) : bitAt zeros100 k = false := bitAt_zero _ k
theorem zeros_70 : bitAt zeros100 70 = !true := zeros_bit _
theorem next_70 {r : Int} (h : IsNext (flip zeros100 70) 100 4 r) : r = 70 := by
  have hb : ∀ k, bitAt (flip zeros100 70) k = if k = 70 then true else false := by
    intro k
    rw [bitAt_flip (by decide), zeros_bit, zeros_bit]; rfl
  rcases h with ⟨_, h⟩ | ⟨k, rfl, _, _, h, _⟩
  · have := h 70 (by omega)
    rw [hb] at this; simp at this
  · rw [hb] at h
    by_cases hk : k = 70
    · rw [hk]; rfl
    · rw [if_neg hk] at h; cases h
theorem le_2 : le 258 (min (2 : Int).toNat 8) = [2, 1] := by decide
theorem rd_digits (w : World) : Rd (w.alloc (.cells #[.int .u8 49, .int .u8 50, .int .u8 51, .int .u8 52, .int .u8 53, .int .u8 54, .int .u8 55, .int .u8 56, .int .u8 57] 5 (9, 10))) (w.heap.size + 1) (some ⟨w.heap.size, 0, none⟩) (cb digits9) := by
  refine .inr ⟨_, 0, rfl, by omega, fun j v hj => ?_⟩
  rw [Nat.zero_add, cell_of_row _ _ _ _ _ _ (heap_alloc_new w _), ← hj, cb_digits]; simp
end Go.Proofs.Ytmlfooofgedmaaa.Fl
