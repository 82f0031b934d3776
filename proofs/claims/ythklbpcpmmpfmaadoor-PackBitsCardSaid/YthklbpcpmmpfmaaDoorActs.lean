/-
  A slice of structs of three fields that came in.
-/
import Derived.Test.YthklbpcpmmpfmaaDoorProg
import Derived.Test.YthklbpcpmmpfmaaDoorMem
import Derived.Deep.SlicePairs
import Derived.ChangeArms
namespace Go.Proofs.YthklbpcpmmpfmaaDoor.Fl
open Go.RowKit Go.ChangeShapes Go.WideShapes

/-- each of the elements: two numbers and a bool -/
def ActRow (w : World) (B : Nat) (A : Option Addr) (len : Nat) : Prop := ∀ k, k < len → ∃ (b off : Nat) (t i : Int) (on : Bool), A = some ⟨b, off, none⟩ ∧ b < B ∧
  w.cell? ⟨b, off + k * 3, none⟩ = some (.int .i64 t) ∧ w.cell? ⟨b, off + k * 3 + 1, none⟩ = some (.int .i64 i) ∧ w.cell? ⟨b, off + k * 3 + 2, none⟩ = some (.bool on) ∧ (Lit.int .i64 t).wf = true ∧ (Lit.int .i64 i).wf = true
theorem ActRow.below {w w' : World} {B : Nat} {A : Option Addr} {len : Nat} (h : ActRow w B A len) (hb : Below B w w') : ActRow w' B A len := fun k hk => by
  obtain ⟨b, off, t, i, on, h1, h2, h3, h4, h5, h6⟩ := h k hk
  exact ⟨b, off, t, i, on, h1, h2, (hb.cell (p := ⟨b, _, none⟩) h2).trans h3, (hb.cell (p := ⟨b, _, none⟩) h2).trans h4, (hb.cell (p := ⟨b, _, none⟩) h2).trans h5, h6⟩
set_option maxRecDepth 100000 in
theorem open_acts {H : Type} {enc : TypeId × Value → H} {w : World} {base : Nat} {spare : Nat → Bool} {held : Bool} {A : Option Addr} {len cap : Nat} {d : DataW H} {p : List MemPlace}
    (h : DataW.Trod enc Tryd.prog w base spare held 22 (.slice A len cap) d p) : ActRow w w.heap.size A len ∧ len ≤ cap ∧ cap ≤ maxLen := by
  obtain ⟨fuel, hf⟩ := h
  rcases Deep.open_slice Tryd.underlying22 hf with ⟨hcs, _⟩ | ⟨a, l, c, m, n, D, Pl, hcs, hb, hl, hm, hmm, _, hx⟩
  · simp [Value.cells] at hcs
    obtain ⟨rfl, rfl, rfl⟩ := hcs
    exact ⟨fun k hk => by omega, Nat.le_refl _, by unfold maxLen; omega⟩
  · simp [Value.cells] at hcs
    obtain ⟨rfl, rfl, rfl⟩ := hcs
    refine ⟨fun k hk => ?_, hl, hm⟩
    have hkm : k < m := by rw [hmm]; split <;> omega
    have ce : Tryd.prog.cellsOf 32 = 3 := by kernel_rfl
    have c0 : Tryd.prog.cellsOf 3 = 1 := by kernel_rfl
    have c1 : Tryd.prog.cellsOf 4 = 1 := by kernel_rfl
    obtain ⟨cs', h1, h2⟩ := hx k hkm
    rw [ce] at h1
    obtain ⟨_, hlen, hcell⟩ := World.cells?_some h1
    obtain ⟨xs, q, hq, hxy, _, hxl, hfl⟩ := DataW.trod_struct Tryd.underlying32 h2
    match xs, hxl, cs', hlen with
    | [y0, y1, y2], _, [v0, v1, v2], _ =>
      have g0 := hfl 0 _ rfl
      have g1 := hfl 1 _ rfl
      have g2 := hfl 2 _ rfl
      simp [c0, c1] at g0 g1 g2
      obtain ⟨t, ht, _, ht2⟩ := DataW.trod_int Tryd.underlying3 g0
      obtain ⟨i, hi, _, hi2⟩ := DataW.trod_int Tryd.underlying3 g1
      obtain ⟨on, hon, _⟩ := DataW.trod_bool Tryd.underlying4 g2
      simp at ht hi hon
      subst ht hi hon
      have e0 := hcell 0 (by omega)
      have e1 := hcell 1 (by omega)
      have e2 := hcell 2 (by omega)
      obtain ⟨b, off, spot⟩ := a
      have hspot : spot = none := by
        obtain ⟨cs0, h10, _⟩ := hx 0 (by omega)
        rw [ce] at h10
        obtain ⟨_, hl0, hc0⟩ := World.cells?_some h10
        have e1 := hc0 0 (by omega)
        rw [List.getElem?_eq_getElem (by omega)] at e1
        have e := World.cell?_spot e1
        simpa [Addr.add] using e
      subst hspot
      have pl : ∀ x n : Nat, (⟨b, x, none⟩ : Addr).add n = ⟨b, x + n, none⟩ := fun x n => by unfold Addr.add; split <;> simp_all
      rw [pl, pl] at e0 e1 e2
      refine ⟨b, off, t, i, on, rfl, World.block_lt_of_cell? w _ e0, ?_, ?_, ?_, ht2, hi2⟩
      · simpa using e0
      · simpa [Nat.add_assoc] using e1
      · simpa [Nat.add_assoc] using e2
end Go.Proofs.YthklbpcpmmpfmaaDoor.Fl
