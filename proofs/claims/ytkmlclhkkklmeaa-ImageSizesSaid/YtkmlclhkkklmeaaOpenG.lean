/-
  A graph that came in: a struct of two slices of numbers.
-/
import Derived.Test.YtkmlclhkkklmeaaProg
import Derived.Test.YtkmlclhkkklmeaaPMem
import Derived.Deep.SlicePairs
import Derived.ChangeArms
namespace Go.Proofs.Ytkmlclhkkklmeaa.Fl
open Go.RowKit Go.ChangeShapes Go.WideShapes

theorem ints_of {P : Program} {H : Type} {enc : TypeId × Value → H} {w : World} {base : Nat} {held : Bool} {t e : TypeId} {k : IntKind} {fuel : Nat} {v : Value} {x : DataW H × List MemPlace}
    (ht : P.underlying t = some (.slice e)) (he : P.underlying e = some (.int k)) (hc : P.cellsOf e = 1) (h : DataW.trod enc P w base (fun _ => true) held fuel t [v] = some x) : ∃ A l c zs, v = .slice A l c ∧ IsRow k w A l c zs := by
  rcases open_ints ht he hc h with ⟨hcs, _⟩ | ⟨a, l, c, zs, hcs, _, hl, hm, hz, _, hcell, hwz⟩
  · injection hcs with hcs
    exact ⟨none, 0, 0, [], hcs, .inl ⟨rfl, rfl, rfl, rfl⟩⟩
  · injection hcs with hcs
    exact ⟨_, _, _, zs, hcs, .inr ⟨a, rfl, hl, hm, by simpa using hz, hcell, hwz⟩⟩
set_option linter.constructorNameAsVariable false in
set_option maxRecDepth 100000 in
theorem open_graph {H : Type} {enc : TypeId × Value → H} {w : World} {base b0 : Nat} {held : Bool} {r : Reach} {v : Value} {d : DataW H} {p : List MemPlace}
    (hv : Value.okWide Try.prog w r b0 25 v) (h : DataW.Trod enc Try.prog w base (fun _ => true) held 25 v d p) :
    ∃ A l c zs A' l' c' zs', v = .agg #[.slice A l c, .slice A' l' c'] ∧ IsRow .i64 w A l c zs ∧ IsRow .u64 w A' l' c' zs' := by
  have kg : Try.prog.cellsOf 25 = 2 := by kernel_rfl
  have k1 : Try.prog.cellsOf 22 = 1 := by kernel_rfl
  have k2 : Try.prog.cellsOf 23 = 1 := by kernel_rfl
  obtain ⟨cs, rfl, hsz⟩ := okWide_struct Try.underlying25 hv
  rw [kg] at hsz
  obtain ⟨cs⟩ := cs
  obtain ⟨fuel, hf⟩ := h
  obtain ⟨xs, n, _, _, hl, hxl, hfl⟩ := DataW.trod_struct Try.underlying25 hf
  match cs, hsz with
  | [v0, v1], _ =>
    have g0 := hfl 0 _ rfl
    have g1 := hfl 1 _ rfl
    simp [k1, k2] at g0 g1
    obtain ⟨y0, h0⟩ : ∃ y, xs[0]? = some y := ⟨_, List.getElem?_eq_getElem (by rw [hxl]; decide)⟩
    obtain ⟨y1, h1⟩ : ∃ y, xs[1]? = some y := ⟨_, List.getElem?_eq_getElem (by rw [hxl]; decide)⟩
    rw [h0] at g0
    rw [h1] at g1
    obtain ⟨A, l, c, zs, rfl, i1⟩ := ints_of (k := .i64) Try.underlying22 Try.underlying3 (by kernel_rfl) g0
    obtain ⟨A', l', c', zs', rfl, i2⟩ := ints_of (k := .u64) Try.underlying23 Try.underlying38 (by kernel_rfl) g1
    exact ⟨A, l, c, zs, A', l', c', zs', rfl, i1, i2⟩
end Go.Proofs.Ytkmlclhkkklmeaa.Fl
