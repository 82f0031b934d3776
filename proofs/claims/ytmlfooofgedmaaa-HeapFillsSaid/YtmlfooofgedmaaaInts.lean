/-
  A slice of numbers that came in.
-/
import Derived.Test.YtmlfooofgedmaaaMem
namespace Go.Proofs.Ytmlfooofgedmaaa.Fl
open Go.RowKit

/-- a slice of numbers that came in -/
theorem ints_row {k : IntKind} {w : World} {A : Option Addr} {len cap : Nat} {zs : List Int} (h : IsRow k w A len cap zs) :
    ∃ cs : List Int, cs.length = len ∧ len ≤ cap ∧ cap ≤ maxLen ∧ Rd w w.heap.size A (cs.map (Value.int k)) ∧ (A = none → len = 0 ∧ cap = 0) ∧ ∀ x ∈ cs, (Lit.int k x).wf = true := by
  rcases h with ⟨rfl, rfl, rfl, rfl⟩ | ⟨x, rfl, hl, hm, hz, hcell, hwz⟩
  · exact ⟨[], rfl, Nat.le_refl _, by unfold maxLen; omega, .inl rfl, fun _ => ⟨rfl, rfl⟩, fun x hx => by cases hx⟩
  · refine ⟨zs.take len, by simp [List.length_take]; omega, hl, hm, ?_, (fun h => by cases h), fun y hy => hwz _ (List.mem_of_mem_take hy)⟩
    rcases Nat.eq_zero_or_pos len with h0 | h0
    · subst h0; exact .inl (by simp)
    · obtain ⟨b, off, spot⟩ := x
      have hc := hcell 0 (by omega)
      have hspot : spot = none := by simpa [Addr.add] using World.cell?_spot hc
      subst hspot
      have hc0 : w.cell? ⟨b, off, none⟩ = some (.int k (zs.getD 0 0)) := by simpa [Addr.add] using hc
      refine .inr ⟨b, off, rfl, ?_, fun j v hj => ?_⟩
      · rcases Nat.lt_or_ge b w.heap.size with h1 | h1
        · exact h1
        · simp [World.cell?, Array.getElem?_eq_none h1] at hc0
      · have hjl : j < ((zs.take len).map (Value.int k)).length := by
          rcases Nat.lt_or_ge j ((zs.take len).map (Value.int k)).length with h1 | h1
          · exact h1
          · rw [List.getElem?_eq_none h1] at hj; cases hj
        have hjz : j < zs.length := by simp [List.length_take] at hjl; omega
        have hcj := hcell j hjz
        rw [show (⟨b, off, none⟩ : Addr).add j = ⟨b, off + j, none⟩ from by simp [Addr.add]] at hcj
        rw [hcj, ← hj, List.getElem?_eq_getElem hjl]
        simp [List.getD_eq_getElem?_getD, List.getElem?_eq_getElem hjz]
end Go.Proofs.Ytmlfooofgedmaaa.Fl
