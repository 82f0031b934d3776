/-
  A graph that came in: a struct of two slices of numbers.
-/
import Derived.Test.YtahmljjjdoaahaaDoorProg
import Derived.Test.YtahmljjjdoaahaaDoorPMem
import Derived.Deep.SlicePairs
import Derived.ChangeArms
import Derived.Test.YtahmljjjdoaahaaDoorPPut
namespace Go.Proofs.YtahmljjjdoaahaaDoor.Fl
open Go.RowKit Go.ChangeShapes Go.WideShapes

theorem ints_of {P : Program} {H : Type} {enc : TypeId × Value → H} {w : World} {base : Nat} {held : Bool} {t e : TypeId} {k : IntKind} {fuel : Nat} {v : Value} {x : DataW H × List MemPlace}
    (ht : P.underlying t = some (.slice e)) (he : P.underlying e = some (.int k)) (hc : P.cellsOf e = 1) (h : DataW.trod enc P w base (fun _ => true) held fuel t [v] = some x) : ∃ A l c zs, v = .slice A l c ∧ IsRow k w A l c zs := by
  rcases open_ints ht he hc h with ⟨hcs, _⟩ | ⟨a, l, c, zs, hcs, _, hl, hm, hz, _, hcell, hwz⟩
  · injection hcs with hcs
    exact ⟨none, 0, 0, [], hcs, .inl ⟨rfl, rfl, rfl, rfl⟩⟩
  · injection hcs with hcs
    exact ⟨_, _, _, zs, hcs, .inr ⟨a, rfl, hl, hm, by simpa using hz, hcell, hwz⟩⟩
set_option linter.constructorNameAsVariable false in
set_option maxRecDepth 100000 in
theorem open_graph {H : Type} {enc : TypeId × Value → H} {w : World} {base b0 : Nat} {held : Bool} {r : Reach} {v : Value} {d : DataW H} {p : List MemPlace}
    (hv : Value.okWide Tryd.prog w r b0 25 v) (h : DataW.Trod enc Tryd.prog w base (fun _ => true) held 25 v d p) :
    ∃ A l c zs A' l' c' zs', v = .agg #[.slice A l c, .slice A' l' c'] ∧ IsRow .i64 w A l c zs ∧ IsRow .u64 w A' l' c' zs' := by
  have kg : Tryd.prog.cellsOf 25 = 2 := by kernel_rfl
  have k1 : Tryd.prog.cellsOf 22 = 1 := by kernel_rfl
  have k2 : Tryd.prog.cellsOf 23 = 1 := by kernel_rfl
  obtain ⟨cs, rfl, hsz⟩ := okWide_struct Tryd.underlying25 hv
  rw [kg] at hsz
  obtain ⟨cs⟩ := cs
  obtain ⟨fuel, hf⟩ := h
  obtain ⟨xs, n, _, _, hl, hxl, hfl⟩ := DataW.trod_struct Tryd.underlying25 hf
  match cs, hsz with
  | [v0, v1], _ =>
    have g0 := hfl 0 _ rfl
    have g1 := hfl 1 _ rfl
    simp [k1, k2] at g0 g1
    obtain ⟨y0, h0⟩ : ∃ y, xs[0]? = some y := ⟨_, List.getElem?_eq_getElem (by rw [hxl]; decide)⟩
    obtain ⟨y1, h1⟩ : ∃ y, xs[1]? = some y := ⟨_, List.getElem?_eq_getElem (by rw [hxl]; decide)⟩
    rw [h0] at g0
    rw [h1] at g1
    obtain ⟨A, l, c, zs, rfl, i1⟩ := ints_of (k := .i64) Tryd.underlying22 Tryd.underlying3 (by kernel_rfl) g0
    obtain ⟨A', l', c', zs', rfl, i2⟩ := ints_of (k := .u64) Tryd.underlying23 Tryd.underlying37 (by kernel_rfl) g1
    exact ⟨A, l, c, zs, A', l', c', zs', rfl, i1, i2⟩
end Go.Proofs.YtahmljjjdoaahaaDoor.Fl

/-
  Arguments that came in: words.
-/
namespace Go.Proofs.YtahmljjjdoaahaaDoor.Fl
open Go.RowKit

theorem word_wf {x : Int} (h : (Lit.int .u64 x).wf = true) : ∃ X : Nat, x = X ∧ X < 18446744073709551616 := by
  have h1 := bounds_u64 h
  exact ⟨x.toNat, by omega, by omega⟩
theorem words_row {w : World} {A : Option Addr} {len cap : Nat} {zs : List Int} (h : IsRow .u64 w A len cap zs) :
    ∃ ls : List Nat, ls.length = len ∧ len ≤ cap ∧ cap ≤ maxLen ∧ Rd w w.heap.size A (cw ls) ∧ ∀ x ∈ ls, x < 18446744073709551616 := by
  obtain ⟨cs, rfl, h1, h2, h3, _, h4⟩ := ints_row h
  have e : cs.map (Value.int .u64) = cw (cs.map Int.toNat) := by
    unfold cw
    rw [List.map_map]
    refine List.map_congr_left fun z hz => ?_
    obtain ⟨X, rfl, _⟩ := word_wf (h4 z hz)
    simp
  rw [e] at h3
  refine ⟨cs.map Int.toNat, by simp, h1, h2, h3, fun x hx => ?_⟩
  obtain ⟨z, hz, rfl⟩ := List.mem_map.1 hx
  obtain ⟨X, rfl, hX⟩ := word_wf (h4 z hz)
  simpa using hX
theorem cells2 {w : World} {g : Nat} {v0 v1 : Value} {T : TypeId} (h : w.heap[g]? = some (.cells #[v0, v1] T (0, 0))) :
    w.cell? ⟨g, 0, none⟩ = some v0 ∧ w.cell? ⟨g, 1, none⟩ = some v1 ∧ ∀ k, w.frozen? ⟨g, k, none⟩ = false :=
  ⟨cell_of_row _ _ _ _ _ _ h, cell_of_row _ _ _ _ _ _ h, fun _ => frozen_of_row _ _ _ _ _ h⟩
end Go.Proofs.YtahmljjjdoaahaaDoor.Fl
