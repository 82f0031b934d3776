/-
  What all laws over a laid graph share: objects of three words, roots.
-/
import Derived.Test.YtahmljjjdoaahaaDoorLay
import Derived.Test.YtahmljjjdoaahaaDoorPRoots
import Derived.Test.YtahmljjjdoaahaaDoorPReach
import Derived.Test.YtahmljjjdoaahaaDoorWhole
namespace Go.Proofs.YtahmljjjdoaahaaDoor.Fl
open Go.RowKit

theorem laid_clean {os : List Ob} {j : Nat} (h : LaidOk os j) : (∀ o ∈ os, CleanO o) ∧ ∀ o ∈ os, o.hash = 0 := by
  refine ⟨fun o ho => ?_, fun o ho => (h.each o ho).1⟩
  intro hk _
  have := (h.each o ho).2.2.2 hk
  refine ⟨by rw [this]; decide, ?_⟩
  rw [List.getElem_of_eq this]
  simp
theorem led_none {ld : Nat → List Nat} {rs : List Nat} (h : ∀ x ∈ rs, ¬ isW x) {x : Nat} : ¬ Led ld rs x := by
  intro hl
  induction hl with
  | root h1 h2 => exact h _ h1 h2
  | step _ _ _ ih => exact ih
theorem rootL_lt {os : List Ob} {l : List Nat} (hl : (Lof os).length ≤ 16777216) (h : ∀ x ∈ l, x < 18446744073709551616) : ∀ y ∈ rootL os l, y < 18446744073709551616 := by
  intro y hy
  unfold rootL at hy
  obtain ⟨z, hz, rfl⟩ := List.mem_map.1 hy
  exact rootX_lt hl (h _ (List.mem_of_mem_take hz))
theorem rootL_len (os : List Ob) (l : List Nat) : (rootL os l).length ≤ 6 := by unfold rootL; simp; omega
theorem led_more {ld : Nat → List Nat} {rs rs' : List Nat} (h : ∀ x ∈ rs, x ∈ rs') {x : Nat} (hl : Led ld rs x) : Led ld rs' x := hl.mono fun _ hy hw => .root (h _ hy) hw
theorem laid_pos {os : List Ob} {j : Nat} (h : LaidOk os j) (hok : ∀ o ∈ os, o.Ok) : ∀ o ∈ os, 0 < o.xs.length := fun o ho => by
  obtain ⟨_, _, h3, h4⟩ := h.each o ho
  by_cases h2 : o.kind = 2
  · rw [h4 h2]; decide
  · rw [(hok o ho).words h2, h3]; decide
end Go.Proofs.YtahmljjjdoaahaaDoor.Fl
