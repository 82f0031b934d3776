/-
  The walk of SmallWords: it returns true, and writes nothing that was there.
-/
import Derived.Test.YtdcehjdngjafoaaDoorWd
namespace Go.Proofs.YtdcehjdngjafoaaDoor.Fl
open Go.RowKit

set_option maxHeartbeats 1000000 in
theorem walk_SmallWords (n x : Int) (w : World) (_wn : (Lit.int .i64 n).wf = true) (wx : (Lit.int .u64 x).wf = true) (htab : Lib.TabIs Tryd.prog w "internal/strconv.uint64pow10" .u64 Lib.pow10Tab) :
    Calls Tryd.prog 3 #[.int .i64 n, .int .u64 x] w fun e w' => e = .returned (.bool true) ∧ Below w.heap.size w w' := by
  have hx : IsW x := bounds_u64 wx
  clear wx
  by_cases hn : InR n
  · have HN := Lib.hid hn
    clear hn
    rcases odd_or x with ho | ho
    · have HO := Lib.hid ho
      clear ho
      go_enter Tryd.func3, Tryd.ntmps3
      go_wp2_with (first
        | (go_at_call 16; (with_reducible refine (awake_any _ htab).mono ?_); rintro e w1 ⟨rfl, hb⟩)
        | (go_at_call 17; (with_reducible refine (of_in _ _ HN.out).mono ?_); rintro e w' ⟨rfl, rfl⟩)
        | (go_at_call 18; (with_reducible refine (rnumber_yes _ _ HN.out).mono ?_); rintro e w' ⟨rfl, rfl⟩)
        | (go_at_call 20; (with_reducible refine (rword_any _ _).mono ?_); rintro e w' ⟨rfl, rfl⟩)
        | (go_at_call 19; (with_reducible refine (value_wd _ _ HN.out).mono ?_); rintro e w' ⟨rfl, rfl⟩)
        | (go_at_call 21; (with_reducible refine (is_wd _ _).mono ?_); rintro e w' ⟨rfl, rfl⟩)
        | (go_at_call 19; (with_reducible refine (value_no _ _ hx HO.out).mono ?_); rintro e w' ⟨rfl, rfl⟩)
        | (go_at_call 21; (with_reducible refine (is_no _ _ hx HO.out).mono ?_); rintro e w' ⟨rfl, rfl⟩)
        | (go_at_call 22; (with_reducible refine (ris_no _ _ hx HO.out).mono ?_); rintro e w' ⟨rfl, rfl⟩))
      go_ret
      exact ⟨by simp, hb⟩
    · have HO := Lib.hid ho
      clear ho
      go_enter Tryd.func3, Tryd.ntmps3
      go_wp2_with (first
        | (go_at_call 16; (with_reducible refine (awake_any _ htab).mono ?_); rintro e w1 ⟨rfl, hb⟩)
        | (go_at_call 17; (with_reducible refine (of_in _ _ HN.out).mono ?_); rintro e w' ⟨rfl, rfl⟩)
        | (go_at_call 18; (with_reducible refine (rnumber_yes _ _ HN.out).mono ?_); rintro e w' ⟨rfl, rfl⟩)
        | (go_at_call 20; (with_reducible refine (rword_any _ _).mono ?_); rintro e w' ⟨rfl, rfl⟩)
        | (go_at_call 19; (with_reducible refine (value_wd _ _ HN.out).mono ?_); rintro e w' ⟨rfl, rfl⟩)
        | (go_at_call 21; (with_reducible refine (is_wd _ _).mono ?_); rintro e w' ⟨rfl, rfl⟩)
        | (go_at_call 19; (with_reducible refine (value_yes _ _ hx HO.out).mono ?_); rintro e w' ⟨rfl, rfl⟩)
        | (go_at_call 21; (with_reducible refine (is_yes _ _ hx HO.out).mono ?_); rintro e w' ⟨rfl, rfl⟩)
        | (go_at_call 22; (with_reducible refine (ris_yes _ _ hx HO.out).mono ?_); rintro e w' ⟨rfl, rfl⟩)
        | (go_at_call 23; (with_reducible refine (rvalue_any _ _ hx).mono ?_); rintro e w' ⟨rfl, rfl⟩))
      go_ret
      exact ⟨by simp, hb⟩
  · have HN := Lib.hid hn
    clear hn
    go_enter Tryd.func3, Tryd.ntmps3
    go_wp2_with (first
      | (go_at_call 16; (with_reducible refine (awake_any _ htab).mono ?_); rintro e w1 ⟨rfl, hb⟩)
      | (go_at_call 17; (with_reducible refine (of_out _ _ HN.out).mono ?_); rintro e w' ⟨rfl, rfl⟩)
      | (go_at_call 18; (with_reducible refine (rnumber_no _ _ HN.out).mono ?_); rintro e w' ⟨rfl, rfl⟩))
    go_ret
    exact ⟨by simp, hb⟩
end Go.Proofs.YtdcehjdngjafoaaDoor.Fl
