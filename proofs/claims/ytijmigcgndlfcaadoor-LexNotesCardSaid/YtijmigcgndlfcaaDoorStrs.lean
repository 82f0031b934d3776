/-
  A slice of strings that came in.
-/
import Derived.Test.YtijmigcgndlfcaaDoorWkLexNotes
import Derived.Deep.Strs
import Derived.ChangeArms
namespace Go.Proofs.YtijmigcgndlfcaaDoor.Fl
open Go.RowKit Go.ChangeShapes Go.WideShapes

set_option maxRecDepth 100000 in
theorem open_strL {H : Type} {enc : TypeId × Value → H} {w : World} {base : Nat} {spare : Nat → Bool} {held : Bool} {A : Option Addr} {len cap : Nat} {d : DataW H} {p : List MemPlace}
    (h : DataW.Trod enc Tryd.prog w base spare held 22 (.slice A len cap) d p) : ∃ ts : List ByteArray, len = ts.length ∧ StrsAt w w.heap.size A ts ∧ ts.length ≤ cap := by
  obtain ⟨fuel, hf⟩ := h
  rcases Deep.open_strs Tryd.underlying22 Tryd.underlying9 (by kernel_rfl) hf with ⟨hcs, _⟩ | ⟨a, l, c, m, Sx, hcs, hb, hl, hm, hmm, _, hx⟩
  · simp [Value.cells] at hcs
    obtain ⟨rfl, rfl, rfl⟩ := hcs
    exact ⟨[], rfl, .inl rfl, Nat.le_refl _⟩
  · simp [Value.cells] at hcs
    obtain ⟨rfl, rfl, rfl⟩ := hcs
    refine ⟨(List.range len).map Sx, by simp, ?_, by simpa using hl⟩
    by_cases h0 : len = 0
    · subst h0; exact .inl rfl
    obtain ⟨b, off, spot⟩ := a
    have hlm : len ≤ m := by rw [hmm]; split <;> omega
    have hspot : spot = none := by
      have e := World.cell?_spot (hx 0 (by omega)).1
      simpa [Addr.add] using e
    subst hspot
    have pl : ∀ x n : Nat, (⟨b, x, none⟩ : Addr).add n = ⟨b, x + n, none⟩ := fun x n => by unfold Addr.add; split <;> simp_all
    have hx2 : ∀ i, i < m → w.cell? ⟨b, off + i, none⟩ = some (.string (Sx i)) := fun i hi => by rw [← pl]; exact (hx i hi).1
    refine .inr ⟨b, off, rfl, World.block_lt_of_cell? w _ (hx2 0 (by omega)), fun j v hj => ?_⟩
    have hjl : j < len := by
      have := (List.getElem?_eq_some_iff.1 hj).1
      simpa using this
    have hv : v = .string (Sx j) := by
      rw [List.getElem?_map, List.getElem?_map, List.getElem?_range hjl] at hj
      simpa using hj.symm
    rw [hv]
    exact hx2 j (by omega)
end Go.Proofs.YtijmigcgndlfcaaDoor.Fl
