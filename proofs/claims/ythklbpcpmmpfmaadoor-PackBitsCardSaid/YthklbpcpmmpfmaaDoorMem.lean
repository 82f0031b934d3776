/-
  Words for slices: a slice that came in (IsRow), and a slice value that reads as a list of cells (Rd), kept while the call only adds memory of its own.
-/
import Derived.WalkKit
import Derived.WalkSmall
import Derived.Laws.OwnMore
import Derived.Laws.Rows
import Derived.OpenShut
namespace Go.Proofs.YthklbpcpmmpfmaaDoor.Fl
open Go.RowKit

/-- a slice of integers that came in: nil, or a row of 'cap' cells that hold the numbers zs -/
def IsRow (k : IntKind) (w : World) (a : Option Addr) (len cap : Nat) (zs : List Int) : Prop :=
  (a = none ∧ len = 0 ∧ cap = 0 ∧ zs = []) ∨
  ∃ x, a = some x ∧ len ≤ cap ∧ cap ≤ maxLen ∧ zs.length = cap ∧ (∀ i, i < zs.length → w.cell? (x.add i) = some (.int k (zs.getD i 0))) ∧ ∀ n ∈ zs, (Lit.int k n).wf = true

/-- the slice value '.slice A vs.length c' reads as the cells vs, which lie below block B -/
def Rd (w : World) (B : Nat) (A : Option Addr) (vs : List Value) : Prop :=
  vs = [] ∨ ∃ b off, A = some ⟨b, off, none⟩ ∧ b < B ∧ ∀ j v, vs[j]? = some v → w.cell? ⟨b, off + j, none⟩ = some v
theorem Rd.nil (w : World) (B : Nat) (A : Option Addr) : Rd w B A [] := .inl rfl
theorem Rd.at_ {w : World} {B : Nat} {A : Option Addr} {vs : List Value} (h : Rd w B A vs) {k : Nat} (hk : k < vs.length) :
    ∃ b off, A = some ⟨b, off, none⟩ ∧ b < B ∧ w.cell? ⟨b, off + k, none⟩ = some vs[k] := by
  rcases h with rfl | ⟨b, off, hA, hb, hc⟩
  · simp at hk
  · exact ⟨b, off, hA, hb, hc k _ (List.getElem?_eq_getElem hk)⟩
theorem Rd.keep {w w' : World} {B : Nat} {A : Option Addr} {vs : List Value} (h : Rd w B A vs) (hk : ∀ b o, b < B → w'.cell? ⟨b, o, none⟩ = w.cell? ⟨b, o, none⟩) : Rd w' B A vs := by
  rcases h with rfl | ⟨b, off, hA, hb, hc⟩
  · exact .inl rfl
  · exact .inr ⟨b, off, hA, hb, fun j v hj => (hk b _ hb).trans (hc j v hj)⟩
theorem Rd.below {w w' : World} {B B' : Nat} {A : Option Addr} {vs : List Value} (h : Rd w B A vs) (hb : Below B' w w') (hB : B ≤ B') : Rd w' B A vs :=
  h.keep fun b o hlt => hb.cell (p := ⟨b, o, none⟩) (by show b < B'; omega)
theorem Rd.more {w : World} {B B' : Nat} {A : Option Addr} {vs : List Value} (h : Rd w B A vs) (hB : B ≤ B') : Rd w B' A vs := by
  rcases h with rfl | ⟨b, off, hA, hb, hc⟩
  · exact .inl rfl
  · exact .inr ⟨b, off, hA, by omega, hc⟩
theorem Rd.take_ {w : World} {B : Nat} {A : Option Addr} {vs : List Value} (h : Rd w B A vs) (k : Nat) : Rd w B A (vs.take k) := by
  rcases h with rfl | ⟨b, off, hA, hb, hc⟩
  · exact .inl (by simp)
  · refine .inr ⟨b, off, hA, hb, fun j v hj => hc j v ?_⟩
    rw [List.getElem?_take] at hj
    split at hj
    · exact hj
    · cases hj
theorem Rd.drop_ {w : World} {B : Nat} {b off : Nat} {vs : List Value} (h : Rd w B (some ⟨b, off, none⟩) vs) (k : Nat) : Rd w B (some ⟨b, off + k, none⟩) (vs.drop k) := by
  rcases h with rfl | ⟨b', off', hA, hb, hc⟩
  · exact .inl (by simp)
  · obtain ⟨rfl, rfl⟩ : b = b' ∧ off = off' := by injection hA with hA; injection hA with h1 h2 _; exact ⟨h1, h2⟩
    refine .inr ⟨b, off + k, rfl, hb, fun j v hj => ?_⟩
    rw [Nat.add_assoc]
    exact hc _ v (by rw [← hj, List.getElem?_drop])

/-- bytes as cells -/
def cb (xs : List UInt8) : List Value := xs.map fun c => .int .u8 (c.toNat : Int)
theorem cb_len (xs : List UInt8) : (cb xs).length = xs.length := by simp [cb]
theorem cb_take (xs : List UInt8) (k : Nat) : (cb xs).take k = cb (xs.take k) := by simp [cb, List.map_take]
theorem cb_drop (xs : List UInt8) (k : Nat) : (cb xs).drop k = cb (xs.drop k) := by simp [cb, List.map_drop]
theorem cb_append (xs ys : List UInt8) : cb (xs ++ ys) = cb xs ++ cb ys := by simp [cb]
theorem cb_at (xs : List UInt8) (k : Nat) (h : k < xs.length) : (cb xs)[k]? = some (.int .u8 (xs[k].toNat : Int)) := by simp [cb, h]
theorem rdb_at {w : World} {B : Nat} {A : Option Addr} {xs : List UInt8} (h : Rd w B A (cb xs)) {k : Nat} (hk : k < xs.length) :
    ∃ b off, A = some ⟨b, off, none⟩ ∧ b < B ∧ w.cell? ⟨b, off + k, none⟩ = some (.int .u8 (xs[k].toNat : Int)) := by
  obtain ⟨b, off, hA, hb, hc⟩ := h.at_ (k := k) (by rw [cb_len]; exact hk)
  refine ⟨b, off, hA, hb, ?_⟩
  rw [hc]; simp [cb]

/-- bytes that came in -/
theorem bytes_of_row {w : World} {a : Option Addr} {len cap : Nat} {zs : List Int} (h : IsRow .u8 w a len cap zs) :
    ∃ xs : List UInt8, xs.length = len ∧ len ≤ cap ∧ cap ≤ maxLen ∧ Rd w w.heap.size a (cb xs) ∧ (a = none → len = 0 ∧ cap = 0) ∧ (0 < len → ∃ b off, a = some ⟨b, off, none⟩) := by
  rcases h with ⟨rfl, rfl, rfl, rfl⟩ | ⟨x, rfl, hl, hm, hz, hcell, hwz⟩
  · exact ⟨[], rfl, Nat.le_refl _, by unfold maxLen; omega, .inl rfl, fun _ => ⟨rfl, rfl⟩, fun h => by omega⟩
  · refine ⟨(zs.take len).map fun n => UInt8.ofNat n.toNat, by simp [List.length_take]; omega, hl, hm, ?_, (fun h => by cases h), fun h0 => ?_⟩
    · rcases Nat.eq_zero_or_pos len with h0 | h0
      · subst h0; exact .inl (by simp [cb])
      · obtain ⟨b, off, spot⟩ := x
        have hc := hcell 0 (by omega)
        have hspot : spot = none := by simpa [Addr.add] using World.cell?_spot hc
        subst hspot
        have hc0 : w.cell? ⟨b, off, none⟩ = some (.int .u8 (zs.getD 0 0)) := by simpa [Addr.add] using hc
        refine .inr ⟨b, off, rfl, ?_, fun j v hj => ?_⟩
        · rcases Nat.lt_or_ge b w.heap.size with h1 | h1
          · exact h1
          · exfalso
            unfold World.cell? at hc0
            simp [Array.getElem?_eq_none h1] at hc0
        · have hjl : j < (cb ((zs.take len).map fun n => UInt8.ofNat n.toNat)).length := by
            rcases Nat.lt_or_ge j (cb ((zs.take len).map fun n => UInt8.ofNat n.toNat)).length with h1 | h1
            · exact h1
            · rw [List.getElem?_eq_none h1] at hj; cases hj
          simp [cb, List.length_take] at hjl
          have hcj := hcell j (by omega)
          have e : (⟨b, off, none⟩ : Addr).add j = ⟨b, off + j, none⟩ := by unfold Addr.add; split <;> simp_all
          rw [e] at hcj
          rw [hcj]
          have hzj : zs[j]? = some zs[j] := List.getElem?_eq_getElem (by omega)
          simp [cb, hjl] at hj
          rw [← hj]
          have hb := bounds_u8 (hwz zs[j] (List.getElem_mem (by omega)))
          simp [List.getD, hzj]
          omega
    · obtain ⟨b, off, spot⟩ := x
      have hc := hcell 0 (by omega)
      have hspot : spot = none := by simpa [Addr.add] using World.cell?_spot hc
      subst hspot
      exact ⟨b, off, rfl⟩
end Go.Proofs.YthklbpcpmmpfmaaDoor.Fl
