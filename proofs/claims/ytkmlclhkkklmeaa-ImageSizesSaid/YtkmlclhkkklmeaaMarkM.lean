/-
  What can be reached: a wave in which something is loose.
-/
import Derived.Test.YtkmlclhkkklmeaaPMarkE
namespace Go.Proofs.Ytkmlclhkkklmeaa.Fl
open Go.RowKit

section
variable {w w' : World} {base g gc cap gb gb2 size last LB lk sb sb2 : Nat} {L ws fs : List Nat} {k : Nat}
theorem askL_none {ld : Nat → List Nat} {p : Nat} {t : List Nat} (h : askL ld ws fs (p :: t) = none) : findL ws fs (ld p) = none ∨ ∃ f1, findL ws fs (ld p) = some f1 ∧ askL ld ws f1 t = none := by
  rw [askL] at h
  cases hc : findL ws fs (ld p) with
  | none => exact .inl rfl
  | some f1 => rw [hc] at h; exact .inr ⟨f1, rfl, h⟩
end
end Go.Proofs.Ytkmlclhkkklmeaa.Fl
