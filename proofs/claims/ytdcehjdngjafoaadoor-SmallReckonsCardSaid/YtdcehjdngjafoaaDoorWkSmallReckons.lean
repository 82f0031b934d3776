/-
  The walk of SmallReckons: it returns true, and writes nothing that was there.
-/
import Derived.Test.YtdcehjdngjafoaaDoorReckA
import Derived.Test.YtdcehjdngjafoaaDoorReckB
import Derived.Test.YtdcehjdngjafoaaDoorReckC
namespace Go.Proofs.YtdcehjdngjafoaaDoor.Fl
open Go.RowKit
theorem op_cases (op : Int) : ∃ k : Nat, k ≤ 10 ∧ (wrap64 (op.tmod 11 + 11)).tmod 11 = (k : Int) := by
  have h : (op.tmod 11).natAbs < 11 := by rw [Int.natAbs_tmod]; exact Nat.mod_lt _ (by decide)
  have e : wrap64 (op.tmod 11 + 11) = op.tmod 11 + 11 := wrap64_id (by omega) (by omega)
  rw [e, Int.tmod_eq_emod_of_nonneg (by omega)]
  exact ⟨((op.tmod 11 + 11) % 11).toNat, by omega, by omega⟩
theorem walk_SmallReckons (op a b : Int) (w : World) (wop : (Lit.int .i64 op).wf = true) (wa : (Lit.int .u64 a).wf = true) (wb : (Lit.int .u64 b).wf = true) (htab : Lib.TabIs Tryd.prog w "internal/strconv.uint64pow10" .u64 Lib.pow10Tab) :
    Calls Tryd.prog 4 #[.int .i64 op, .int .u64 a, .int .u64 b] w fun e w' => e = .returned (.bool true) ∧ Below w.heap.size w w' := by
  have ha : IsW a := bounds_u64 wa
  have hb : IsW b := bounds_u64 wb
  have ho := bounds_i64 wop
  obtain ⟨k, hk, e⟩ := op_cases op
  by_cases h0 : k = 0
  · exact reck_add op a b w (by rw [e, h0]; rfl) ho.1 ho.2 ha hb htab
  by_cases h1 : k = 1
  · exact reck_sub op a b w (by rw [e, h1]; rfl) ho.1 ho.2 ha hb htab
  by_cases h2 : k = 2
  · exact reck_mul op a b w (by rw [e, h2]; rfl) ho.1 ho.2 ha hb htab
  by_cases h3 : k = 3
  · exact reck_floor op a b w (by rw [e, h3]; rfl) ho.1 ho.2 ha hb htab
  by_cases h4 : k = 4
  · exact reck_mod op a b w (by rw [e, h4]; rfl) ho.1 ho.2 ha hb htab
  by_cases h5 : k = 5
  · exact reck_quo op a b w (by rw [e, h5]; rfl) ho.1 ho.2 ha hb htab
  by_cases h6 : k = 6
  · exact reck_rem op a b w (by rw [e, h6]; rfl) ho.1 ho.2 ha hb htab
  by_cases h7 : k = 7
  · exact reck_and op a b w (by rw [e, h7]; rfl) ho.1 ho.2 ha hb htab
  by_cases h8 : k = 8
  · exact reck_or op a b w (by rw [e, h8]; rfl) ho.1 ho.2 ha hb htab
  by_cases h9 : k = 9
  · exact reck_xor op a b w (by rw [e, h9]; rfl) ho.1 ho.2 ha hb htab
  by_cases h10 : k = 10
  · exact reck_shift op a b w (by rw [e, h10]; rfl) ho.1 ho.2 ha hb htab
  omega
end Go.Proofs.YtdcehjdngjafoaaDoor.Fl
