/-
  The walk of SmallOrders: it returns true, and writes nothing that was there.
-/
import Derived.Test.YtdcehjdngjafoaaDoorWd
namespace Go.Proofs.YtdcehjdngjafoaaDoor.Fl
open Go.RowKit

theorem half_inR {a : Int} (h : -9223372036854775808 ≤ a ∧ a ≤ 9223372036854775807) : InR (a / 2) := by unfold InR; omega
set_option maxHeartbeats 2000000 in
theorem walk_SmallOrders (a b c : Int) (w : World) (wa : (Lit.int .i64 a).wf = true) (wb : (Lit.int .i64 b).wf = true) (wc : (Lit.int .i64 c).wf = true) (htab : Lib.TabIs Tryd.prog w "internal/strconv.uint64pow10" .u64 Lib.pow10Tab) :
    Calls Tryd.prog 7 #[.int .i64 a, .int .i64 b, .int .i64 c] w fun e w' => e = .returned (.bool true) ∧ Below w.heap.size w w' := by
  have HA := Lib.hid (half_inR (bounds_i64 wa))
  have HB := Lib.hid (half_inR (bounds_i64 wb))
  have HC := Lib.hid (half_inR (bounds_i64 wc))
  clear wa wb wc
  by_cases h1 : a / 2 < b / 2
  · have n1 : decide (a / 2 < b / 2) = true := by simp; omega
    have n2 : decide (b / 2 < a / 2) = false := by simp; omega
    have n3 : decide (a / 2 - b / 2 < 0) = true := by simp; omega
    have n4 : (a / 2 - b / 2 == 0) = false := by simp; omega
    have n5 : (wd (a / 2) == wd (b / 2)) = false := by simpa using wd_ne HA.out HB.out (by omega)
    have n6 : (wd (a / 2) != wd (b / 2)) = true := by simpa using wd_ne HA.out HB.out (by omega)
    by_cases hd : InR (a / 2 - b / 2)
    · have HD := Lib.hid hd
      clear hd
      go_enter Tryd.func7, Tryd.ntmps7
      go_wp2_with (first
        | (go_at_call 16; (with_reducible refine (awake_any _ htab).mono ?_); rintro e w' ⟨rfl, hb0⟩)
        | (go_at_call 17; (with_reducible refine (of_in _ _ HA.out).mono ?_); rintro e w' ⟨rfl, rfl⟩)
        | (go_at_call 17; (with_reducible refine (of_in _ _ HB.out).mono ?_); rintro e w' ⟨rfl, rfl⟩)
        | (go_at_call 17; (with_reducible refine (of_in _ _ HC.out).mono ?_); rintro e w' ⟨rfl, rfl⟩)
        | (go_at_call 25; (with_reducible refine (less_wd _ _ _ HA.out HB.out).mono ?_); rintro e w' ⟨rfl, rfl⟩)
        | (go_at_call 25; (with_reducible refine (less_wd _ _ _ HB.out HA.out).mono ?_); rintro e w' ⟨rfl, rfl⟩)
        | (go_at_call 25; (with_reducible refine (less_wd _ _ _ HB.out HC.out).mono ?_); rintro e w' ⟨rfl, rfl⟩)
        | (go_at_call 25; (with_reducible refine (less_wd _ _ _ HA.out HC.out).mono ?_); rintro e w' ⟨rfl, rfl⟩)
        | (go_at_call 35; (with_reducible refine (sub_in _ _ _ HA.out HB.out HD.out).mono ?_); rintro e w' ⟨rfl, hb1⟩)
        | (go_at_call 19; (with_reducible refine (value_wd _ _ HD.out).mono ?_); rintro e w' ⟨rfl, rfl⟩))
      all_goals go_ret
      all_goals exact ⟨by first | rfl | (simp; omega), below_two hb0 hb1 rfl⟩
    · have HD := Lib.hid hd
      clear hd
      go_enter Tryd.func7, Tryd.ntmps7
      go_wp2_with (first
        | (go_at_call 16; (with_reducible refine (awake_any _ htab).mono ?_); rintro e w' ⟨rfl, hb0⟩)
        | (go_at_call 17; (with_reducible refine (of_in _ _ HA.out).mono ?_); rintro e w' ⟨rfl, rfl⟩)
        | (go_at_call 17; (with_reducible refine (of_in _ _ HB.out).mono ?_); rintro e w' ⟨rfl, rfl⟩)
        | (go_at_call 17; (with_reducible refine (of_in _ _ HC.out).mono ?_); rintro e w' ⟨rfl, rfl⟩)
        | (go_at_call 25; (with_reducible refine (less_wd _ _ _ HA.out HB.out).mono ?_); rintro e w' ⟨rfl, rfl⟩)
        | (go_at_call 25; (with_reducible refine (less_wd _ _ _ HB.out HA.out).mono ?_); rintro e w' ⟨rfl, rfl⟩)
        | (go_at_call 25; (with_reducible refine (less_wd _ _ _ HB.out HC.out).mono ?_); rintro e w' ⟨rfl, rfl⟩)
        | (go_at_call 25; (with_reducible refine (less_wd _ _ _ HA.out HC.out).mono ?_); rintro e w' ⟨rfl, rfl⟩)
        | (go_at_call 35; (with_reducible refine (sub_out _ _ _ HA.out HB.out HD.out).mono ?_); rintro e w' ⟨rfl, hb1⟩))
      all_goals go_ret
      all_goals exact ⟨by first | rfl | (simp; omega), below_two hb0 hb1 rfl⟩
  · by_cases h2 : b / 2 < a / 2
    · have n1 : decide (a / 2 < b / 2) = false := by simp; omega
      have n2 : decide (b / 2 < a / 2) = true := by simp; omega
      have n3 : decide (a / 2 - b / 2 < 0) = false := by simp; omega
      have n4 : (a / 2 - b / 2 == 0) = false := by simp; omega
      have n5 : (wd (a / 2) == wd (b / 2)) = false := by simpa using wd_ne HA.out HB.out (by omega)
      have n6 : (wd (a / 2) != wd (b / 2)) = true := by simpa using wd_ne HA.out HB.out (by omega)
      by_cases hd : InR (a / 2 - b / 2)
      · have HD := Lib.hid hd
        clear hd
        go_enter Tryd.func7, Tryd.ntmps7
        go_wp2_with (first
          | (go_at_call 16; (with_reducible refine (awake_any _ htab).mono ?_); rintro e w' ⟨rfl, hb0⟩)
          | (go_at_call 17; (with_reducible refine (of_in _ _ HA.out).mono ?_); rintro e w' ⟨rfl, rfl⟩)
          | (go_at_call 17; (with_reducible refine (of_in _ _ HB.out).mono ?_); rintro e w' ⟨rfl, rfl⟩)
          | (go_at_call 17; (with_reducible refine (of_in _ _ HC.out).mono ?_); rintro e w' ⟨rfl, rfl⟩)
          | (go_at_call 25; (with_reducible refine (less_wd _ _ _ HA.out HB.out).mono ?_); rintro e w' ⟨rfl, rfl⟩)
          | (go_at_call 25; (with_reducible refine (less_wd _ _ _ HB.out HA.out).mono ?_); rintro e w' ⟨rfl, rfl⟩)
          | (go_at_call 25; (with_reducible refine (less_wd _ _ _ HB.out HC.out).mono ?_); rintro e w' ⟨rfl, rfl⟩)
          | (go_at_call 25; (with_reducible refine (less_wd _ _ _ HA.out HC.out).mono ?_); rintro e w' ⟨rfl, rfl⟩)
          | (go_at_call 35; (with_reducible refine (sub_in _ _ _ HA.out HB.out HD.out).mono ?_); rintro e w' ⟨rfl, hb1⟩)
          | (go_at_call 19; (with_reducible refine (value_wd _ _ HD.out).mono ?_); rintro e w' ⟨rfl, rfl⟩))
        all_goals go_ret
        all_goals exact ⟨by first | rfl | (simp; omega), below_two hb0 hb1 rfl⟩
      · have HD := Lib.hid hd
        clear hd
        go_enter Tryd.func7, Tryd.ntmps7
        go_wp2_with (first
          | (go_at_call 16; (with_reducible refine (awake_any _ htab).mono ?_); rintro e w' ⟨rfl, hb0⟩)
          | (go_at_call 17; (with_reducible refine (of_in _ _ HA.out).mono ?_); rintro e w' ⟨rfl, rfl⟩)
          | (go_at_call 17; (with_reducible refine (of_in _ _ HB.out).mono ?_); rintro e w' ⟨rfl, rfl⟩)
          | (go_at_call 17; (with_reducible refine (of_in _ _ HC.out).mono ?_); rintro e w' ⟨rfl, rfl⟩)
          | (go_at_call 25; (with_reducible refine (less_wd _ _ _ HA.out HB.out).mono ?_); rintro e w' ⟨rfl, rfl⟩)
          | (go_at_call 25; (with_reducible refine (less_wd _ _ _ HB.out HA.out).mono ?_); rintro e w' ⟨rfl, rfl⟩)
          | (go_at_call 25; (with_reducible refine (less_wd _ _ _ HB.out HC.out).mono ?_); rintro e w' ⟨rfl, rfl⟩)
          | (go_at_call 25; (with_reducible refine (less_wd _ _ _ HA.out HC.out).mono ?_); rintro e w' ⟨rfl, rfl⟩)
          | (go_at_call 35; (with_reducible refine (sub_out _ _ _ HA.out HB.out HD.out).mono ?_); rintro e w' ⟨rfl, hb1⟩))
        all_goals go_ret
        all_goals exact ⟨by first | rfl | (simp; omega), below_two hb0 hb1 rfl⟩
    · have he : a / 2 = b / 2 := by omega
      have n1 : decide (a / 2 < b / 2) = false := by simp; omega
      have n2 : decide (b / 2 < a / 2) = false := by simp; omega
      have n3 : decide (a / 2 - b / 2 < 0) = false := by simp; omega
      have n4 : (a / 2 - b / 2 == 0) = true := by simp; omega
      have n5 : (wd (a / 2) == wd (b / 2)) = true := by rw [he]; simp
      have n6 : (wd (a / 2) != wd (b / 2)) = false := by rw [he]; simp
      clear he
      by_cases hd : InR (a / 2 - b / 2)
      · have HD := Lib.hid hd
        clear hd
        go_enter Tryd.func7, Tryd.ntmps7
        go_wp2_with (first
          | (go_at_call 16; (with_reducible refine (awake_any _ htab).mono ?_); rintro e w' ⟨rfl, hb0⟩)
          | (go_at_call 17; (with_reducible refine (of_in _ _ HA.out).mono ?_); rintro e w' ⟨rfl, rfl⟩)
          | (go_at_call 17; (with_reducible refine (of_in _ _ HB.out).mono ?_); rintro e w' ⟨rfl, rfl⟩)
          | (go_at_call 17; (with_reducible refine (of_in _ _ HC.out).mono ?_); rintro e w' ⟨rfl, rfl⟩)
          | (go_at_call 25; (with_reducible refine (less_wd _ _ _ HA.out HB.out).mono ?_); rintro e w' ⟨rfl, rfl⟩)
          | (go_at_call 25; (with_reducible refine (less_wd _ _ _ HB.out HA.out).mono ?_); rintro e w' ⟨rfl, rfl⟩)
          | (go_at_call 25; (with_reducible refine (less_wd _ _ _ HB.out HC.out).mono ?_); rintro e w' ⟨rfl, rfl⟩)
          | (go_at_call 25; (with_reducible refine (less_wd _ _ _ HA.out HC.out).mono ?_); rintro e w' ⟨rfl, rfl⟩)
          | (go_at_call 35; (with_reducible refine (sub_in _ _ _ HA.out HB.out HD.out).mono ?_); rintro e w' ⟨rfl, hb1⟩)
          | (go_at_call 19; (with_reducible refine (value_wd _ _ HD.out).mono ?_); rintro e w' ⟨rfl, rfl⟩))
        all_goals go_ret
        all_goals exact ⟨by first | rfl | (simp; omega), below_two hb0 hb1 rfl⟩
      · have HD := Lib.hid hd
        clear hd
        go_enter Tryd.func7, Tryd.ntmps7
        go_wp2_with (first
          | (go_at_call 16; (with_reducible refine (awake_any _ htab).mono ?_); rintro e w' ⟨rfl, hb0⟩)
          | (go_at_call 17; (with_reducible refine (of_in _ _ HA.out).mono ?_); rintro e w' ⟨rfl, rfl⟩)
          | (go_at_call 17; (with_reducible refine (of_in _ _ HB.out).mono ?_); rintro e w' ⟨rfl, rfl⟩)
          | (go_at_call 17; (with_reducible refine (of_in _ _ HC.out).mono ?_); rintro e w' ⟨rfl, rfl⟩)
          | (go_at_call 25; (with_reducible refine (less_wd _ _ _ HA.out HB.out).mono ?_); rintro e w' ⟨rfl, rfl⟩)
          | (go_at_call 25; (with_reducible refine (less_wd _ _ _ HB.out HA.out).mono ?_); rintro e w' ⟨rfl, rfl⟩)
          | (go_at_call 25; (with_reducible refine (less_wd _ _ _ HB.out HC.out).mono ?_); rintro e w' ⟨rfl, rfl⟩)
          | (go_at_call 25; (with_reducible refine (less_wd _ _ _ HA.out HC.out).mono ?_); rintro e w' ⟨rfl, rfl⟩)
          | (go_at_call 35; (with_reducible refine (sub_out _ _ _ HA.out HB.out HD.out).mono ?_); rintro e w' ⟨rfl, hb1⟩))
        all_goals go_ret
        all_goals exact ⟨by first | rfl | (simp; omega), below_two hb0 hb1 rfl⟩
end Go.Proofs.YtdcehjdngjafoaaDoor.Fl
