/-
  Instructions: the law's own, Equal.
-/
import Derived.Test.YtdfghcbojbbgcaaDoorCdL
import Derived.Lib.SlicesS
namespace Go.Proofs.YtdfghcbojbbgcaaDoor.Fl
open Go.RowKit

theorem nums_getDC (xs : List UInt8) (i : Nat) (h : i < xs.length) : (xs.map fun c => (c.toNat : Int)).getD i 0 = (xs[i].toNat : Int) := by
  rw [List.getD_eq_getElem?_getD, List.getElem?_map, List.getElem?_eq_getElem h]; rfl
theorem conv_strC {w : World} {B : Nat} {A : Option Addr} {xs : List UInt8} (c : Nat) (hr : Rd w B A (cb xs)) : (convert 22 9 (.slice A xs.length c)).run Tryd.prog w = .ok (.string (strOfNums (xs.map fun c => (c.toNat : Int)))) w := by
  rcases Nat.eq_zero_or_pos xs.length with h | h
  · obtain rfl := List.eq_nil_of_length_eq_zero h
    have h0 := run_convert_bytes_string (P := Tryd.prog) w 22 9 5 A 0 c Tryd.underlying22 Tryd.underlying5 Tryd.underlying9
    rw [show ([] : List UInt8).length = 0 from rfl, h0]
    cases A <;> simp [Conv.bytesToString, loadCells] <;> rfl
  · obtain ⟨b, off, rfl, _, _⟩ := cbC_at hr h
    refine run_convert_bytes_arg w 22 5 Tryd.underlying22 Tryd.underlying5 b off xs.length c _ (by simp) (fun i hi => ?_) 9 Tryd.underlying9
    obtain ⟨b', off', e, _, hc⟩ := cbC_at hr hi
    obtain ⟨rfl, rfl⟩ : b = b' ∧ off = off' := by injection e with e; injection e with h1 h2 _; exact ⟨h1, h2⟩
    rw [nums_getDC _ _ hi]; exact hc
end Go.Proofs.YtdfghcbojbbgcaaDoor.Fl
