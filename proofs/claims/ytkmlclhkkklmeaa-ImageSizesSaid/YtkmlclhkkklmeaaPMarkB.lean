/-
  What can be reached: one word.
-/
import Derived.Test.YtkmlclhkkklmeaaMark
namespace Go.Proofs.Ytkmlclhkkklmeaa.Fl
open Go.RowKit

theorem OwnH.keep {w w' : World} {B : Nat} {v : Value} {fs : List Nat} (h : OwnH w B v fs) (hk : ∀ (k : Nat) (cur : Array Value), w.heap[k]? = some (Obj.cells cur 39 (0, 0)) → w'.heap[k]? = w.heap[k]?) : OwnH w' B v fs := by
  refine ⟨h.1, ?_⟩
  rcases h.2 with h | ⟨g', cap', cur, e, hb', hg, hr⟩
  · exact .inl h
  · exact .inr ⟨g', cap', cur, e, hb', (hk _ _ hg).trans hg, hr⟩
section
variable {w w' : World} {base g gc cap gb gb2 size last LB lk sb sb2 : Nat} {L ws fs : List Nat} {k : Nat}
theorem own_other {w : World} {B : Nat} {v : Value} {fs : List Nat} (h : OwnH w B v fs) {b : Nat} {cur : Array Value} {T : TypeId} (hb : w.heap[b]? = some (.cells cur T (0, 0))) (hT : T ≠ 39 ∨ b < B) : some b ≠ v.ownBlock := by
  intro e
  rcases h.2 with ⟨rfl, _⟩ | ⟨g', cap', cur', rfl, hb', hg, hr⟩
  · simp [Value.ownBlock] at e
  · simp [Value.ownBlock] at e
    subst e
    rcases hT with hT | hT
    · rw [hg] at hb
      injection hb with hb
      injection hb with _ hb _
      exact hT hb.symm
    · omega
theorem mem_push {bs fs : List Nat} {i : Nat} {ws' : List Nat} (hm : ∀ j, bitAt bs j = true ↔ 2 * j ∈ fs) (hl : i / 64 < bs.length) (hn : bitAt bs i = false) (he : ws' = flip bs i) (j : Nat) : bitAt ws' j = true ↔ 2 * j ∈ fs ++ [2 * i] := by
  subst he
  rw [bitAt_flip hl]
  by_cases h : j = i
  · subst h; simp [hn]
  · rw [if_neg h, hm j, List.mem_append, List.mem_singleton]
    constructor
    · exact .inl
    · rintro (h1 | h1)
      · exact h1
      · omega
end
end Go.Proofs.Ytkmlclhkkklmeaa.Fl

/-
  What can be reached: what an object leads to.
-/
namespace Go.Proofs.Ytkmlclhkkklmeaa.Fl
open Go.RowKit

/-- what is found with some words more -/
def findL (ws : List Nat) : List Nat → List Nat → Option (List Nat)
  | fs, [] => some fs
  | fs, x :: t => (find1 ws fs x).bind fun fs' => findL ws fs' t
theorem findL_cons {ws fs fs' : List Nat} {x : Nat} {t : List Nat} (h : findL ws fs (x :: t) = some fs') : ∃ f1, find1 ws fs x = some f1 ∧ findL ws f1 t = some fs' := by
  rw [findL] at h
  cases hc : find1 ws fs x with
  | none => rw [hc] at h; cases h
  | some f1 => rw [hc] at h; exact ⟨f1, rfl, h⟩
/-- an object: its head, and what it leads to -/
structure ObAt (L ws : List Nat) (p cl kind sz hash : Nat) (mark : Bool) (xs : List Nat) : Prop where
  isp : isP ws p
  hi : HeadIn L (p / 2) cl kind sz hash mark
  body : kind ≠ 2 → p / 2 + 2 + sz ≤ L.length ∧ xs = (L.drop (p / 2 + 2)).take sz
  raw : kind = 2 → xs = []
section
variable {w w' : World} {base g gc cap gb gb2 size last LB lk sb sb2 : Nat} {L ws fs : List Nat} {k : Nat}
end
end Go.Proofs.Ytkmlclhkkklmeaa.Fl
