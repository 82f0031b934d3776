/-
  Events that came in, in memory.
-/
import Derived.Test.YtlmelfakmllinaaEvA
import Derived.Deep.Strs
import Derived.ChangeArms
namespace Go.Proofs.Ytlmelfakmllinaa.Fl
open Go.RowKit Go.ChangeShapes Go.WideShapes

def EvsRow (w : World) (B : Nat) (A : Option Addr) (len : Nat) : Prop := ∀ k, k < len → ∃ (b off : Nat) (x : EE), A = some ⟨b, off, none⟩ ∧ b < B ∧
  w.cell? ⟨b, off + k * 3, none⟩ = some (.int .i64 x.1.kd) ∧ w.cell? ⟨b, off + k * 3 + 1, none⟩ = some (.slice x.2.1 x.1.bs.length x.2.2) ∧ w.cell? ⟨b, off + k * 3 + 2, none⟩ = some (.string ⟨x.1.nm.toArray⟩) ∧
  Rd w B x.2.1 (cb x.1.bs) ∧ x.1.bs.length ≤ x.2.2 ∧ (x.2.1 = none → x.1.bs = [] ∧ x.2.2 = 0)
theorem evsRow_rd {w : World} {B : Nat} {A : Option Addr} {len : Nat} (h : EvsRow w B A len) : ∃ xs : List EE, xs.length = len ∧ Rd w B A (ee_ xs) ∧ EvBs w B xs := by
  rcases Nat.eq_zero_or_pos len with rfl | hp
  · exact ⟨[], rfl, .inl rfl, fun x hx => by cases hx⟩
  · obtain ⟨b, off, _, rfl, hb, _⟩ := h 0 hp
    have hn : ∀ n, n ≤ len → ∃ xs : List EE, xs.length = n ∧ (∀ j v, (ee_ xs)[j]? = some v → w.cell? ⟨b, off + j, none⟩ = some v) ∧ EvBs w B xs := by
      intro n
      induction n with
      | zero => exact fun _ => ⟨[], rfl, (fun j v hj => by simp [ee_] at hj), (fun x hx => by cases hx)⟩
      | succ n ih =>
        intro hn
        obtain ⟨xs, hl, hc, ho⟩ := ih (by omega)
        obtain ⟨b', off', x, e, _, c0, c1, c2, r1, r2, r3⟩ := h n (by omega)
        cases e
        refine ⟨xs ++ [x], by simp [hl], fun q v hq => ?_, ho.app fun y hy => by obtain rfl := List.mem_singleton.1 hy; exact ⟨r1, r2, r3⟩⟩
        rw [ee_app] at hq
        rcases Nat.lt_or_ge q (ee_ xs).length with h1 | h1
        · rw [List.getElem?_append_left h1] at hq
          exact hc q v hq
        · rw [List.getElem?_append_right h1] at hq
          rw [ee_len, hl] at hq h1
          obtain ⟨m, rfl⟩ : ∃ m, q = n * 3 + m := ⟨q - n * 3, by omega⟩
          rw [Nat.add_sub_cancel_left, show ee_ [x] = ee3 x by simp [ee_]] at hq
          rcases m with _ | _ | _ | m
          · exact c0.trans hq
          · exact c1.trans hq
          · exact c2.trans hq
          · simp [ee3] at hq
    obtain ⟨xs, hl, hc, ho⟩ := hn len (Nat.le_refl _)
    exact ⟨xs, hl, .inr ⟨b, off, rfl, hb, hc⟩, ho⟩
set_option maxRecDepth 100000 in
theorem open_events {H : Type} {enc : TypeId × Value → H} {w : World} {base : Nat} {held : Bool} {A : Option Addr} {len cap : Nat} {d : DataW H} {p : List MemPlace}
    (h : DataW.Trod enc Try.prog w base (fun _ => true) held 22 (.slice A len cap) d p) : ∃ xs : List EE, xs.length = len ∧ Rd w w.heap.size A (ee_ xs) ∧ EvBs w w.heap.size xs := by
  suffices hh : EvsRow w w.heap.size A len from evsRow_rd hh
  obtain ⟨fuel, hf⟩ := h
  rcases Deep.open_slice Try.underlying22 hf with ⟨hcs, _⟩ | ⟨a, l, c, m, n, D, Pl, hcs, hb, hl, hm, hmm, hdd, hx⟩
  · simp [Value.cells] at hcs
    obtain ⟨rfl, rfl, rfl⟩ := hcs
    exact fun k hk => by omega
  · simp [Value.cells] at hcs
    obtain ⟨rfl, rfl, rfl⟩ := hcs
    intro k hk
    have hkm : k < m := by rw [hmm]; split <;> omega
    have ce : Try.prog.cellsOf 34 = 3 := by kernel_rfl
    have c0 : Try.prog.cellsOf 3 = 1 := by kernel_rfl
    have c1 : Try.prog.cellsOf 9 = 1 := by kernel_rfl
    have c2 : Try.prog.cellsOf 32 = 1 := by kernel_rfl
    obtain ⟨cs', h1, h2⟩ := hx k hkm
    rw [ce] at h1
    obtain ⟨_, hlen, hcell⟩ := World.cells?_some h1
    obtain ⟨xs, q, hq, hxy, _, hxl, hfl⟩ := DataW.trod_struct Try.underlying34 h2
    match xs, hxl, cs', hlen with
    | [y0, y1, y2], _, [v0, v1, v2], _ =>
      have g0 := hfl 0 _ rfl
      have g1 := hfl 1 _ rfl
      have g2 := hfl 2 _ rfl
      simp [c0, c1, c2] at g0 g1 g2
      obtain ⟨j0, hj0, _, _⟩ := DataW.trod_int Try.underlying3 g0
      obtain ⟨s2, hs2, _, _⟩ := DataW.trod_string Try.underlying9 g2
      have hrow : ∃ (Ab : Option Addr) (lb cb' : Nat) (zs : List Int), v1 = .slice Ab lb cb' ∧ IsRow .u8 w Ab lb cb' zs := by
        rcases open_ints Try.underlying32 Try.underlying5 (by kernel_rfl) g1 with ⟨hcs, _⟩ | ⟨x, l', c', zs, hcs, _, hl', hm', hz', _, hcell', hwz'⟩
        · injection hcs with hcs
          exact ⟨none, 0, 0, [], hcs, .inl ⟨rfl, rfl, rfl, rfl⟩⟩
        · injection hcs with hcs
          exact ⟨some x, l', c', zs, hcs, .inr ⟨x, rfl, hl', hm', by simpa using hz', hcell', hwz'⟩⟩
      obtain ⟨Ab, lb, cb', zs, rfl, hrow⟩ := hrow
      obtain ⟨bs, hbl, hbc, _, hrd, hnone, _⟩ := bytes_of_row hrow
      simp at hj0 hs2
      subst hj0 hs2 hbl
      have e0 := hcell 0 (by omega)
      have e1 := hcell 1 (by omega)
      have e2 := hcell 2 (by omega)
      obtain ⟨b, off, spot⟩ := a
      have hspot : spot = none := by
        obtain ⟨cs0, h10, _⟩ := hx 0 (by omega)
        rw [ce] at h10
        obtain ⟨_, hl0, hc0⟩ := World.cells?_some h10
        have e1 := hc0 0 (by omega)
        rw [List.getElem?_eq_getElem (by omega)] at e1
        have e := World.cell?_spot e1
        simpa [Addr.add] using e
      subst hspot
      have pl : ∀ x n : Nat, (⟨b, x, none⟩ : Addr).add n = ⟨b, x + n, none⟩ := fun x n => by unfold Addr.add; split <;> simp_all
      rw [pl, pl] at e0 e1 e2
      refine ⟨b, off, (⟨j0, bs, sb s2⟩, (Ab, cb')), rfl, World.block_lt_of_cell? w _ e0, ?_, ?_, ?_, hrd, hbc, fun h => ⟨List.eq_nil_of_length_eq_zero (hnone h).1, (hnone h).2⟩⟩
      · simpa using e0
      · simpa [Nat.add_assoc] using e1
      · have e : (⟨(sb s2).toArray⟩ : ByteArray) = s2 := by cases s2; simp [sb]
        show _ = some (Value.string ⟨(sb s2).toArray⟩)
        rw [e]
        simpa [Nat.add_assoc] using e2
end Go.Proofs.Ytlmelfakmllinaa.Fl
