/-
  A slice of instructions that came in.
-/
import Derived.Test.YtghnpmhidcfghaaDoorCdY
import Derived.Deep.SlicePairs
import Derived.ChangeArms
namespace Go.Proofs.YtghnpmhidcfghaaDoor.Fl
open Go.RowKit Go.ChangeShapes Go.WideShapes

def insOk (l : List Ins) : Prop := ∀ x ∈ l, (-9223372036854775808 ≤ x.1 ∧ x.1 ≤ 9223372036854775807) ∧ -9223372036854775808 ≤ x.2.1 ∧ x.2.1 ≤ 9223372036854775807 ∧ -9223372036854775808 ≤ x.2.2 ∧ x.2.2 ≤ 9223372036854775807
theorem wf_bd {t : Int} (h : (Lit.int .i64 t).wf = true) : -9223372036854775808 ≤ t ∧ t ≤ 9223372036854775807 := by
  have h1 := h
  simp [Lit.wf, IntKind.min, IntKind.max, IntKind.signed, IntKind.bits] at h1
  omega
def InsRow (w : World) (B : Nat) (A : Option Addr) (len : Nat) : Prop := ∀ k, k < len → ∃ (b off : Nat) (t i j : Int), A = some ⟨b, off, none⟩ ∧ b < B ∧
  w.cell? ⟨b, off + k * 3, none⟩ = some (.int .i64 t) ∧ w.cell? ⟨b, off + k * 3 + 1, none⟩ = some (.int .i64 i) ∧ w.cell? ⟨b, off + k * 3 + 2, none⟩ = some (.int .i64 j) ∧ (Lit.int .i64 t).wf = true ∧ (Lit.int .i64 i).wf = true ∧ (Lit.int .i64 j).wf = true
theorem insRow_rd {w : World} {B : Nat} {A : Option Addr} {len : Nat} (h : InsRow w B A len) : ∃ xs : List Ins, xs.length = len ∧ Rd w B A (ci xs) ∧ insOk xs := by
  rcases Nat.eq_zero_or_pos len with rfl | hp
  · exact ⟨[], rfl, .inl rfl, fun x hx => by cases hx⟩
  · obtain ⟨b, off, _, _, _, rfl, hb, _⟩ := h 0 hp
    have hn : ∀ n, n ≤ len → ∃ xs : List Ins, xs.length = n ∧ (∀ j v, (ci xs)[j]? = some v → w.cell? ⟨b, off + j, none⟩ = some v) ∧ insOk xs := by
      intro n
      induction n with
      | zero => exact fun _ => ⟨[], rfl, fun j v hj => by simp [ci] at hj, fun x hx => by cases hx⟩
      | succ n ih =>
        intro hn
        obtain ⟨xs, hl, hc, ho⟩ := ih (by omega)
        obtain ⟨b', off', t, i, j, e, _, c0, c1, c2, w0, w1, w2⟩ := h n (by omega)
        cases e
        refine ⟨xs ++ [(t, i, j)], by simp [hl], fun q v hq => ?_, fun x hx => ?_⟩
        · rw [ci_app] at hq
          rcases Nat.lt_or_ge q (ci xs).length with h1 | h1
          · rw [List.getElem?_append_left h1] at hq
            exact hc q v hq
          · rw [List.getElem?_append_right h1] at hq
            rw [ci_len, hl] at hq h1
            obtain ⟨m, rfl⟩ : ∃ m, q = n * 3 + m := ⟨q - n * 3, by omega⟩
            rw [Nat.add_sub_cancel_left] at hq
            have hq' : [Value.int .i64 t, .int .i64 i, .int .i64 j][m]? = some v := hq
            rcases m with _ | _ | _ | m
            · exact c0.trans hq'
            · exact c1.trans hq'
            · exact c2.trans hq'
            · simp at hq'
        · rcases List.mem_append.1 hx with h1 | h1
          · exact ho x h1
          · obtain rfl := List.mem_singleton.1 h1
            exact ⟨wf_bd w0, (wf_bd w1).1, (wf_bd w1).2, (wf_bd w2).1, (wf_bd w2).2⟩
    obtain ⟨xs, hl, hc, ho⟩ := hn len (Nat.le_refl _)
    exact ⟨xs, hl, .inr ⟨b, off, rfl, hb, hc⟩, ho⟩
set_option maxRecDepth 100000 in
theorem open_ins {H : Type} {enc : TypeId × Value → H} {w : World} {base : Nat} {spare : Nat → Bool} {held : Bool} {A : Option Addr} {len cap : Nat} {d : DataW H} {p : List MemPlace}
    (h : DataW.Trod enc Tryd.prog w base spare held 22 (.slice A len cap) d p) : ∃ xs : List Ins, xs.length = len ∧ Rd w w.heap.size A (ci xs) ∧ insOk xs ∧ len ≤ cap ∧ cap ≤ maxLen := by
  suffices hh : InsRow w w.heap.size A len ∧ len ≤ cap ∧ cap ≤ maxLen by
    obtain ⟨xs, h1, h2, h3⟩ := insRow_rd hh.1
    exact ⟨xs, h1, h2, h3, hh.2.1, hh.2.2⟩
  obtain ⟨fuel, hf⟩ := h
  rcases Deep.open_slice Tryd.underlying22 hf with ⟨hcs, _⟩ | ⟨a, l, c, m, n, D, Pl, hcs, hb, hl, hm, hmm, _, hx⟩
  · simp [Value.cells] at hcs
    obtain ⟨rfl, rfl, rfl⟩ := hcs
    exact ⟨fun k hk => by omega, Nat.le_refl _, by unfold maxLen; omega⟩
  · simp [Value.cells] at hcs
    obtain ⟨rfl, rfl, rfl⟩ := hcs
    refine ⟨fun k hk => ?_, hl, hm⟩
    have hkm : k < m := by rw [hmm]; split <;> omega
    have ce : Tryd.prog.cellsOf 26 = 3 := by kernel_rfl
    have c0 : Tryd.prog.cellsOf 3 = 1 := by kernel_rfl
    obtain ⟨cs', h1, h2⟩ := hx k hkm
    rw [ce] at h1
    obtain ⟨_, hlen, hcell⟩ := World.cells?_some h1
    obtain ⟨xs, q, hq, hxy, _, hxl, hfl⟩ := DataW.trod_struct Tryd.underlying26 h2
    match xs, hxl, cs', hlen with
    | [y0, y1, y2], _, [v0, v1, v2], _ =>
      have g0 := hfl 0 _ rfl
      have g1 := hfl 1 _ rfl
      have g2 := hfl 2 _ rfl
      simp [c0] at g0 g1 g2
      obtain ⟨t, ht, _, ht2⟩ := DataW.trod_int Tryd.underlying3 g0
      obtain ⟨i, hi, _, hi2⟩ := DataW.trod_int Tryd.underlying3 g1
      obtain ⟨j, hj, _, hj2⟩ := DataW.trod_int Tryd.underlying3 g2
      simp at ht hi hj
      subst ht hi hj
      have e0 := hcell 0 (by omega)
      have e1 := hcell 1 (by omega)
      have e2 := hcell 2 (by omega)
      obtain ⟨b, off, spot⟩ := a
      have hspot : spot = none := by
        obtain ⟨cs0, h10, _⟩ := hx 0 (by omega)
        rw [ce] at h10
        obtain ⟨_, hl0, hc0⟩ := World.cells?_some h10
        have e1 := hc0 0 (by omega)
        rw [List.getElem?_eq_getElem (by omega)] at e1
        have e := World.cell?_spot e1
        simpa [Addr.add] using e
      subst hspot
      have pl : ∀ x n : Nat, (⟨b, x, none⟩ : Addr).add n = ⟨b, x + n, none⟩ := fun x n => by unfold Addr.add; split <;> simp_all
      rw [pl, pl] at e0 e1 e2
      refine ⟨b, off, t, i, j, rfl, World.block_lt_of_cell? w _ e0, ?_, ?_, ?_, ht2, hi2, hj2⟩
      · simpa using e0
      · simpa [Nat.add_assoc] using e1
      · simpa [Nat.add_assoc] using e2
end Go.Proofs.YtghnpmhidcfghaaDoor.Fl
