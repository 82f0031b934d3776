/-
  Arguments that came in: words.
-/
import Derived.Test.YtkmlclhkkklmeaaOpenG
import Derived.Test.YtkmlclhkkklmeaaPPut
namespace Go.Proofs.Ytkmlclhkkklmeaa.Fl
open Go.RowKit

theorem word_wf {x : Int} (h : (Lit.int .u64 x).wf = true) : ∃ X : Nat, x = X ∧ X < 18446744073709551616 := by
  have h1 := bounds_u64 h
  exact ⟨x.toNat, by omega, by omega⟩
theorem words_row {w : World} {A : Option Addr} {len cap : Nat} {zs : List Int} (h : IsRow .u64 w A len cap zs) :
    ∃ ls : List Nat, ls.length = len ∧ len ≤ cap ∧ cap ≤ maxLen ∧ Rd w w.heap.size A (cw ls) ∧ ∀ x ∈ ls, x < 18446744073709551616 := by
  obtain ⟨cs, rfl, h1, h2, h3, _, h4⟩ := ints_row h
  have e : cs.map (Value.int .u64) = cw (cs.map Int.toNat) := by
    unfold cw
    rw [List.map_map]
    refine List.map_congr_left fun z hz => ?_
    obtain ⟨X, rfl, _⟩ := word_wf (h4 z hz)
    simp
  rw [e] at h3
  refine ⟨cs.map Int.toNat, by simp, h1, h2, h3, fun x hx => ?_⟩
  obtain ⟨z, hz, rfl⟩ := List.mem_map.1 hx
  obtain ⟨X, rfl, hX⟩ := word_wf (h4 z hz)
  simpa using hX
theorem cells2 {w : World} {g : Nat} {v0 v1 : Value} {T : TypeId} (h : w.heap[g]? = some (.cells #[v0, v1] T (0, 0))) :
    w.cell? ⟨g, 0, none⟩ = some v0 ∧ w.cell? ⟨g, 1, none⟩ = some v1 ∧ ∀ k, w.frozen? ⟨g, k, none⟩ = false :=
  ⟨cell_of_row _ _ _ _ _ _ h, cell_of_row _ _ _ _ _ _ h, fun _ => frozen_of_row _ _ _ _ _ h⟩
end Go.Proofs.Ytkmlclhkkklmeaa.Fl
