/-
  The walk of SmallBits: it returns true, and writes nothing that was there.
-/
import Derived.Test.YtdcehjdngjafoaaDoorWd
namespace Go.Proofs.YtdcehjdngjafoaaDoor.Fl
open Go.RowKit

theorem quarter {a : Int} (h : -9223372036854775808 ≤ a ∧ a ≤ 9223372036854775807) : -2305843009213693952 ≤ a / 4 ∧ a / 4 ≤ 2305843009213693951 := by omega
set_option maxHeartbeats 1000000 in
theorem walk_SmallBits (a b : Int) (w : World) (wa : (Lit.int .i64 a).wf = true) (wb : (Lit.int .i64 b).wf = true) (htab : Lib.TabIs Tryd.prog w "internal/strconv.uint64pow10" .u64 Lib.pow10Tab) :
    Calls Tryd.prog 8 #[.int .i64 a, .int .i64 b] w fun e w' => e = .returned (.bool true) ∧ Below w.heap.size w w' := by
  have qa := quarter (bounds_i64 wa)
  have qb := quarter (bounds_i64 wb)
  have HA := Lib.hid (show InR (a / 4) by unfold InR; omega)
  have HB := Lib.hid (show InR (b / 4) by unfold InR; omega)
  have HS := Lib.hid (show InR (a / 4 + b / 4) by unfold InR; omega)
  clear qa qb wa wb
  have HAnd := Lib.hid (and_inR HA.out HB.out)
  have HOr := Lib.hid (or_inR HA.out HB.out)
  have HXor := Lib.hid (xor_inR HA.out HB.out)
  have E1 := and_or_sum HA.out HB.out HS.out
  have E2 := or_and_diff HA.out HB.out
  have E3 := xor_xor (y := b / 4) HA.out
  have HS2 := Lib.hid (show InR (bits .and .i64 (a / 4) (b / 4) + bits .or .i64 (a / 4) (b / 4)) by rw [E1]; exact HS.out)
  have HD2 := Lib.hid (show InR (bits .or .i64 (a / 4) (b / 4) - bits .and .i64 (a / 4) (b / 4)) by rw [E2]; exact HXor.out)
  have HX2 := Lib.hid (show InR (bits .xor .i64 (bits .xor .i64 (a / 4) (b / 4)) (b / 4)) by rw [E3]; exact HA.out)
  have T1 := Lib.hid (congrArg wd E1)
  have T2 := Lib.hid (congrArg wd E2)
  have T3 := Lib.hid (congrArg wd E3)
  clear E1 E2 E3
  go_enter Tryd.func8, Tryd.ntmps8
  go_wp2_with (first
    | (go_at_call 16; (with_reducible refine (awake_any _ htab).mono ?_); rintro e w' ⟨rfl, hb0⟩)
    | (go_at_call 17; (with_reducible refine (of_in _ _ HA.out).mono ?_); rintro e w' ⟨rfl, rfl⟩)
    | (go_at_call 17; (with_reducible refine (of_in _ _ HB.out).mono ?_); rintro e w' ⟨rfl, rfl⟩)
    | (go_at_call 36; (with_reducible refine (and_in _ _ _ HA.out HB.out HAnd.out).mono ?_); rintro e w' ⟨rfl, hb1⟩)
    | (go_at_call 37; (with_reducible refine (or_in _ _ _ HA.out HB.out HOr.out).mono ?_); rintro e w' ⟨rfl, hb2⟩)
    | (go_at_call 38; (with_reducible refine (xor_in _ _ _ HA.out HB.out HXor.out).mono ?_); rintro e w' ⟨rfl, hb3⟩)
    | (go_at_call 39; (with_reducible refine (add_in _ _ _ HA.out HB.out HS.out).mono ?_); rintro e w' ⟨rfl, hb4⟩)
    | (go_at_call 39; (with_reducible refine (add_in _ _ _ HAnd.out HOr.out HS2.out).mono ?_); rintro e w' ⟨rfl, hb5⟩; rw [T1.out])
    | (go_at_call 35; (with_reducible refine (sub_in _ _ _ HOr.out HAnd.out HD2.out).mono ?_); rintro e w' ⟨rfl, hb6⟩; rw [T2.out])
    | (go_at_call 38; (with_reducible refine (xor_in _ _ _ HXor.out HB.out HX2.out).mono ?_); rintro e w' ⟨rfl, hb7⟩; rw [T3.out]))
  go_ret
  exact ⟨by simp, below_two (below_two (below_two (below_two (below_two (below_two (below_two hb0 hb1 rfl) hb2 rfl) hb3 rfl) hb4 rfl) hb5 rfl) hb6 rfl) hb7 rfl⟩
end Go.Proofs.YtdcehjdngjafoaaDoor.Fl
