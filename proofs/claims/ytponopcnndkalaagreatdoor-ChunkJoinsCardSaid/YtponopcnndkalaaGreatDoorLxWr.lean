/-
  The lexer: written.
-/
import Derived.Test.YtponopcnndkalaaGreatDoorLxSp
import Derived.Lib.AppendIntMem
namespace Go.Proofs.YtponopcnndkalaaGreatDoor.Fl
open Go.RowKit

theorem dbl_len : ∀ l : List UInt8, (dbl l).length ≤ 2 * l.length
  | [] => Nat.le_refl _
  | c :: l => by
    have := dbl_len l
    rw [dbl]
    split <;> simp only [List.length_cons] <;> omega
theorem writ_c (wd : List UInt8) (n : Int) : writL 0 wd n = [] ∧ writL 1 wd n = wd ∧ writL 2 wd n = wd ∧ writL 6 wd n = wd ∧ writL 7 wd n = [58, 61] ∧ writL 8 wd n = [94] ∧ writL 9 wd n = [46] ∧ writL 10 wd n = [59] ∧ writL 11 wd n = [40] ∧ writL 12 wd n = [41] ∧ writL 13 wd n = [91] ∧ writL 14 wd n = [93] ∧ writL 15 wd n = [35, 40] ∧ writL 16 wd n = [58] := by
  refine ⟨?_, ?_, ?_, ?_, ?_, ?_, ?_, ?_, ?_, ?_, ?_, ?_, ?_, ?_⟩ <;> simp [writL, marksL]
end Go.Proofs.YtponopcnndkalaaGreatDoor.Fl
