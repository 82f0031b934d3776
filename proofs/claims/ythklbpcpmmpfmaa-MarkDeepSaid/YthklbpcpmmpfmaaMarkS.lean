/-
  What can be reached: the objects of a heap, and how many cells they have.
-/
import Derived.Test.YthklbpcpmmpfmaaMarkE
namespace Go.Proofs.Ythklbpcpmmpfmaa.Fl
open Go.RowKit

/-- how many cells some objects have, with their heads -/
def sumC (cn : Nat → Nat) : List Nat → Nat
  | [] => 0
  | p :: t => 2 + cn p + sumC cn t
theorem sumC_snoc (cn : Nat → Nat) (l : List Nat) (p : Nat) : sumC cn (l ++ [p]) = sumC cn l + (2 + cn p) := by
  induction l with
  | nil => simp [sumC]
  | cons a t ih => rw [List.cons_append, sumC, ih, sumC]; omega
theorem sumC_le (cn : Nat → Nat) (l : List Nat) (h : ∀ p ∈ l, cn p ≤ 1048576) : sumC cn l ≤ l.length * 1048578 := by
  induction l with
  | nil => simp [sumC]
  | cons a t ih =>
    have h1 := h a (by simp)
    have h2 := ih (fun p hp => h p (by simp [hp]))
    rw [sumC, List.length_cons, Nat.succ_mul]; omega
/-- the objects of a heap, what each leads to, how many cells it has behind its head -/
def Graph (ld : Nat → List Nat) (cn : Nat → Nat) (L ws : List Nat) : Prop := ∀ p, isP ws p → ∃ cl kind sz hash mark xs, ObAt L ws p cl kind sz hash mark xs ∧ ld p = cl :: xs ∧ cellsI cl kind sz hash = (cn p : Int)
theorem Graph.leads {ld : Nat → List Nat} {cn : Nat → Nat} {L ws : List Nat} (h : Graph ld cn L ws) : Leads ld L ws := fun p hp => by
  obtain ⟨cl, kind, sz, hash, mark, xs, h1, h2, _⟩ := h p hp
  exact ⟨cl, kind, sz, hash, mark, xs, h1, h2⟩
theorem cellsI_le {cl kind sz hash : Nat} : cellsI cl kind sz hash ≤ 1048576 := by
  unfold cellsI
  split
  · next h =>
    have := (hErr_ok h).2.1
    split <;> omega
  · omega
theorem Graph.cn_le {ld : Nat → List Nat} {cn : Nat → Nat} {L ws : List Nat} (h : Graph ld cn L ws) {p : Nat} (hp : isP ws p) : cn p ≤ 1048576 := by
  obtain ⟨cl, kind, sz, hash, mark, xs, h1, h2, h3⟩ := h p hp
  have := @cellsI_le cl kind sz hash
  omega
end Go.Proofs.Ythklbpcpmmpfmaa.Fl
