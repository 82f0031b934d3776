/-
  CodeRuns: what came in.
-/
import Derived.Test.YtdfghcbojbbgcaaDoorCeR
import Derived.Deep.SlicePairs
import Derived.ChangeArms
namespace Go.Proofs.YtdfghcbojbbgcaaDoor.Fl
open Go.RowKit Go.ChangeShapes Go.WideShapes

theorem list3R {α : Type} {l : List α} (h : l.length = 3) : ∃ a b c, l = [a, b, c] := by
  match l, h with
  | [a, b, c], _ => exact ⟨a, b, c, rfl⟩
theorem wld_cells : Tryd.prog.cellsOf 24 = 3 := by kernel_rfl
theorem open_wld {H : Type} {enc : TypeId × Value → H} {w : World} {base b0 : Nat} {spare : Nat → Bool} {held : Bool} {r : Reach} {v : Value} {d : DataW H} {p : List MemPlace}
    (hv : Value.okWide Tryd.prog w r b0 24 v) (h : DataW.Trod enc Tryd.prog w base spare held 24 v d p) :
    ∃ a b c : Int, v = .agg #[.int .i64 a, .int .i64 b, .int .i64 c] := by
  obtain ⟨cs, rfl, hsz⟩ := okWide_struct Tryd.underlying24 hv
  obtain ⟨l⟩ := cs
  obtain ⟨c0, c1, c2, rfl⟩ := list3R (hsz.trans wld_cells)
  obtain ⟨fuel, hf⟩ := h
  obtain ⟨xs, n, _, _, _, hlen, hg⟩ := DataW.trod_struct Tryd.underlying24 hf
  obtain ⟨y0, y1, y2, rfl⟩ := list3R hlen
  have k3 : Tryd.prog.cellsOf 3 = 1 := by kernel_rfl
  have g0 : DataW.trod enc Tryd.prog w base spare held n 3 [c0] = some y0 := by simpa [Value.cells, k3] using hg 0 _ rfl
  have g1 : DataW.trod enc Tryd.prog w base spare held n 3 [c1] = some y1 := by simpa [Value.cells, k3] using hg 1 _ rfl
  have g2 : DataW.trod enc Tryd.prog w base spare held n 3 [c2] = some y2 := by simpa [Value.cells, k3] using hg 2 _ rfl
  obtain ⟨a, e0, _, wa⟩ := DataW.trod_int Tryd.underlying3 g0
  obtain ⟨b, e1, _, wb⟩ := DataW.trod_int Tryd.underlying3 g1
  obtain ⟨c, e2, _, wc⟩ := DataW.trod_int Tryd.underlying3 g2
  simp at e0 e1 e2
  subst e0 e1 e2
  exact ⟨a, b, c, rfl⟩
def BoolRow (w : World) (B : Nat) (A : Option Addr) (len : Nat) : Prop := ∀ k, k < len → ∃ (b off : Nat) (t : Bool), A = some ⟨b, off, none⟩ ∧ b < B ∧ w.cell? ⟨b, off + k, none⟩ = some (.bool t)
theorem boolRow_rd {w : World} {B : Nat} {A : Option Addr} {len : Nat} (h : BoolRow w B A len) : ∃ xs : List Bool, xs.length = len ∧ Rd w B A (cbo xs) := by
  rcases Nat.eq_zero_or_pos len with rfl | hp
  · exact ⟨[], rfl, .inl rfl⟩
  · obtain ⟨b, off, _, rfl, hb, _⟩ := h 0 hp
    have hn : ∀ n, n ≤ len → ∃ xs : List Bool, xs.length = n ∧ (∀ j v, (cbo xs)[j]? = some v → w.cell? ⟨b, off + j, none⟩ = some v) := by
      intro n
      induction n with
      | zero => exact fun _ => ⟨[], rfl, fun j v hj => by simp [cbo] at hj⟩
      | succ n ih =>
        intro hn
        obtain ⟨xs, hl, hc⟩ := ih (by omega)
        obtain ⟨b', off', t, e, _, c0⟩ := h n (by omega)
        cases e
        refine ⟨xs ++ [t], by simp [hl], fun q v hq => ?_⟩
        rw [cbo, List.map_append] at hq
        rcases Nat.lt_or_ge q (xs.map fun b => Value.bool b).length with h1 | h1
        · rw [List.getElem?_append_left h1] at hq
          exact hc q v hq
        · rw [List.getElem?_append_right h1] at hq
          rw [List.length_map, hl] at hq h1
          obtain ⟨m, rfl⟩ : ∃ m, q = n + m := ⟨q - n, by omega⟩
          rw [Nat.add_sub_cancel_left] at hq
          rcases m with _ | m
          · exact c0.trans hq
          · simp at hq
    obtain ⟨xs, hl, hc⟩ := hn len (Nat.le_refl _)
    exact ⟨xs, hl, .inr ⟨b, off, rfl, hb, hc⟩⟩
set_option maxRecDepth 100000 in
theorem open_bools {H : Type} {enc : TypeId × Value → H} {w : World} {base : Nat} {spare : Nat → Bool} {held : Bool} {A : Option Addr} {len cap : Nat} {d : DataW H} {p : List MemPlace}
    (h : DataW.Trod enc Tryd.prog w base spare held 25 (.slice A len cap) d p) : ∃ xs : List Bool, xs.length = len ∧ Rd w w.heap.size A (cbo xs) ∧ len ≤ cap ∧ cap ≤ maxLen := by
  suffices hh : BoolRow w w.heap.size A len ∧ len ≤ cap ∧ cap ≤ maxLen by
    obtain ⟨xs, h1, h2⟩ := boolRow_rd hh.1
    exact ⟨xs, h1, h2, hh.2.1, hh.2.2⟩
  obtain ⟨fuel, hf⟩ := h
  rcases Deep.open_slice Tryd.underlying25 hf with ⟨hcs, _⟩ | ⟨a, l, c, m, n, D, Pl, hcs, hb, hl, hm, hmm, _, hx⟩
  · simp [Value.cells] at hcs
    obtain ⟨rfl, rfl, rfl⟩ := hcs
    exact ⟨fun k hk => by omega, Nat.le_refl _, by unfold maxLen; omega⟩
  · simp [Value.cells] at hcs
    obtain ⟨rfl, rfl, rfl⟩ := hcs
    refine ⟨fun k hk => ?_, hl, hm⟩
    have hkm : k < m := by rw [hmm]; split <;> omega
    have ce : Tryd.prog.cellsOf 4 = 1 := by kernel_rfl
    obtain ⟨cs', h1, h2⟩ := hx k hkm
    rw [ce] at h1
    obtain ⟨_, hlen, hcell⟩ := World.cells?_some h1
    match cs', hlen with
    | [v0], _ =>
      obtain ⟨t, ht, _⟩ := DataW.trod_bool Tryd.underlying4 h2
      simp at ht
      subst ht
      have e0 := hcell 0 (by omega)
      obtain ⟨b, off, spot⟩ := a
      have hspot : spot = none := by
        obtain ⟨cs0, h10, _⟩ := hx 0 (by omega)
        rw [ce] at h10
        obtain ⟨_, hl0, hc0⟩ := World.cells?_some h10
        have e1 := hc0 0 (by omega)
        rw [List.getElem?_eq_getElem (by omega)] at e1
        have e := World.cell?_spot e1
        simpa [Addr.add] using e
      subst hspot
      have pl : ∀ x n : Nat, (⟨b, x, none⟩ : Addr).add n = ⟨b, x + n, none⟩ := fun x n => by unfold Addr.add; split <;> simp_all
      rw [pl, pl] at e0
      refine ⟨b, off, t, rfl, World.block_lt_of_cell? w _ e0, ?_⟩
      simpa using e0
end Go.Proofs.YtdfghcbojbbgcaaDoor.Fl
