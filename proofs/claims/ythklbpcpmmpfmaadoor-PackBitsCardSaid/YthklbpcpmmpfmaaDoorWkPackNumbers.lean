/-
  The walk of PackNumbers.
-/
import Derived.Test.YthklbpcpmmpfmaaDoorSpare
namespace Go.Proofs.YthklbpcpmmpfmaaDoor.Fl
open Go.RowKit

theorem xor_byte (c : UInt8) : ∃ d : UInt8, bits .xor .u8 (c.toNat : Int) 255 = (d.toNat : Int) := by
  have hc := UInt8.toNat_lt c
  have h1 : c.toNat ^^^ 255 < 2 ^ 8 := Nat.xor_lt_two_pow (by omega) (by omega)
  refine ⟨UInt8.ofNat (c.toNat ^^^ 255), ?_⟩
  rw [show (255 : Int) = ((255 : Nat) : Int) from rfl, u8_xor_nat _ _ (by omega) (by omega), UInt8.toNat_ofNat', Nat.mod_eq_of_lt h1]
theorem fit_take {xs L : List UInt8} (h : ∀ i, i < xs.length + 7 → L[i]? = some (sp xs i)) : L.take xs.length = xs := by
  apply List.ext_getElem?
  intro i
  rw [List.getElem?_take]
  by_cases hi : i < xs.length
  · rw [if_pos hi, h i (by omega), sp_in hi, List.getElem?_eq_getElem hi]
  · rw [if_neg hi, List.getElem?_eq_none (by omega)]
theorem res_cases (ys : List UInt8) (m : Nat) : (errNum ys m = 0 ∧ decide (errNum ys m = 0) = true) ∨ (errNum ys m = 4 ∧ decide (errNum ys m = 0) = false) := by
  unfold errNum; split <;> simp
theorem Own.below {w w' : World} {base : Nat} {v : Value} {xs : List UInt8} (h : Own w base v xs) (hb : Below w.heap.size w w') : Own w' base v xs := by
  refine ⟨h.1, h.2.elim .inl fun ⟨g, cap, cur, hv, hbg, hg, r⟩ => .inr ⟨g, cap, cur, hv, hbg, ?_, r⟩⟩
  have hlt : g < w.heap.size := by
    rcases Nat.lt_or_ge g w.heap.size with h1 | h1
    · exact h1
    · rw [Array.getElem?_eq_none h1] at hg; cases hg
  rw [hb.block g hlt]; exact hg
theorem own_ad {w : World} {base n c : Nat} {A : Option Addr} {xs : List UInt8} (h : Own w base (.slice A n c) xs) (hn : 0 < n) : ∃ g, A = some ⟨g, 0, none⟩ ∧ base ≤ g := by
  rcases h.2 with ⟨e, _⟩ | ⟨g, cap, cur, e, hb, _⟩
  · injection e with _ e _; omega
  · injection e with e _ _; exact ⟨g, e, hb⟩
/-- a slice of bytes that came in, cut to at most m bytes -/
theorem bytes_cut {w : World} {A : Option Addr} {len cap : Nat} {zs : List Int} (m : Nat) (h : IsRow .u8 w A len cap zs) :
    ∃ ys : List UInt8, min len m = ys.length ∧ len ≤ cap ∧ Rd w w.heap.size A (cb ys) ∧ (A = none → ys = [] ∧ cap = 0) := by
  obtain ⟨xs, hx, hc, _, hr, hn, _⟩ := bytes_of_row h
  refine ⟨xs.take m, by rw [List.length_take, hx, Nat.min_comm], hc, by rw [← cb_take]; exact hr.take_ m, fun h0 => ?_⟩
  obtain ⟨h1, h2⟩ := hn h0
  exact ⟨by rw [List.eq_nil_of_length_eq_zero (hx.trans h1)]; simp, h2⟩
end Go.Proofs.YthklbpcpmmpfmaaDoor.Fl
