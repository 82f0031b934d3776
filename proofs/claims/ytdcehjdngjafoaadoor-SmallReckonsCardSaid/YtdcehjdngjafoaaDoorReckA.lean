/-
  The walk of SmallReckons, operation by operation (add sub mul and).
-/
import Derived.Test.YtdcehjdngjafoaaDoorRefD
import Derived.Test.YtdcehjdngjafoaaDoorSmallC
import Derived.OpenShut
namespace Go.Proofs.YtdcehjdngjafoaaDoor.Fl
open Go.RowKit

set_option maxHeartbeats 1000000 in
theorem reck_add (op a b : Int) (w : World) (hk : (wrap64 (op.tmod 11 + 11)).tmod 11 = 0) (_o0 : -9223372036854775808 ≤ op) (_o1 : op ≤ 9223372036854775807) (ha : IsW a) (hb : IsW b) (htab : Lib.TabIs Tryd.prog w "internal/strconv.uint64pow10" .u64 Lib.pow10Tab) :
    Calls Tryd.prog 4 #[.int .i64 op, .int .u64 a, .int .u64 b] w fun e w' => e = .returned (.bool true) ∧ Below w.heap.size w w' := by
  rcases odd_or a with ka | ka
  · have Ka := Lib.hid ka
    have KK := Lib.hid (show a % 2 = 0 ∨ b % 2 = 0 from .inl ka)
    clear ka
    go_enter Tryd.func4, Tryd.ntmps4
    go_wp2_with (first
      | (go_at_call 16; (with_reducible refine (awake_any _ htab).mono ?_); rintro e w' ⟨rfl, hb0⟩)
      | (go_at_call 39; (with_reducible refine (add_kind _ _ _ ha hb KK.out).mono ?_); rintro e w' ⟨rfl, hb1⟩)
      | (go_at_call 25; (with_reducible refine (less_kind _ _ _ ha hb KK.out).mono ?_); rintro e w' ⟨rfl, rfl⟩)
      | (go_at_call 22; (with_reducible refine (ris_no a _ ha Ka.out).mono ?_); rintro e w' ⟨rfl, rfl⟩)
      | go_in)
    go_ret
    exact ⟨by simp, below_two hb0 hb1 rfl⟩
  · have Ka := Lib.hid ka
    rcases odd_or b with kb | kb
    · have Kb := Lib.hid kb
      have KK := Lib.hid (show a % 2 = 0 ∨ b % 2 = 0 from .inr kb)
      clear ka kb
      go_enter Tryd.func4, Tryd.ntmps4
      go_wp2_with (first
        | (go_at_call 16; (with_reducible refine (awake_any _ htab).mono ?_); rintro e w' ⟨rfl, hb0⟩)
        | (go_at_call 39; (with_reducible refine (add_kind _ _ _ ha hb KK.out).mono ?_); rintro e w' ⟨rfl, hb1⟩)
        | (go_at_call 25; (with_reducible refine (less_kind _ _ _ ha hb KK.out).mono ?_); rintro e w' ⟨rfl, rfl⟩)
        | (go_at_call 22; (with_reducible refine (ris_yes a _ ha Ka.out).mono ?_); rintro e w' ⟨rfl, rfl⟩)
        | (go_at_call 22; (with_reducible refine (ris_no b _ hb Kb.out).mono ?_); rintro e w' ⟨rfl, rfl⟩)
        | go_in)
      go_ret
      exact ⟨by simp, below_two hb0 hb1 rfl⟩
    · have Kb := Lib.hid kb
      clear ka kb
      have HV := Lib.hid (val_inR ha)
      have HW := Lib.hid (val_inR hb)
      by_cases hi : InR (val a + val b)
      · have eW := resW_in hi
        have eE := resE_in hi
        have eN : resN (val a + val b) = val a + val b := by unfold resN; rw [if_pos hi]
        clear hi
        go_enter Tryd.func4, Tryd.ntmps4
        go_wp2_with (first
          | (go_at_call 16; (with_reducible refine (awake_any _ htab).mono ?_); rintro e w' ⟨rfl, hb0⟩)
          | (go_at_call 39; (with_reducible refine (add_any _ _ _ ha hb Ka.out Kb.out).mono ?_); rintro e w' ⟨rfl, hb1⟩)
          | (go_at_call 25; (with_reducible refine (less_any _ _ _ ha hb Ka.out Kb.out).mono ?_); rintro e w' ⟨rfl, rfl⟩)
          | (go_at_call 22; (with_reducible refine (ris_yes a _ ha Ka.out).mono ?_); rintro e w' ⟨rfl, rfl⟩)
          | (go_at_call 22; (with_reducible refine (ris_yes b _ hb Kb.out).mono ?_); rintro e w' ⟨rfl, rfl⟩)
          | (go_at_call 23; (with_reducible refine (rvalue_any a _ ha).mono ?_); rintro e w' ⟨rfl, rfl⟩)
          | (go_at_call 23; (with_reducible refine (rvalue_any b _ hb).mono ?_); rintro e w' ⟨rfl, rfl⟩)
          | (go_at_call 26; (with_reducible refine (rdo_add _ _ _ HV.out HW.out).mono ?_); rintro e w' ⟨rfl, rfl⟩)
          | (go_at_call 20; (with_reducible refine (rword_any _ _).mono ?_); rintro e w' ⟨rfl, rfl⟩)
          | go_in)
        go_ret
        exact ⟨by simp, below_two hb0 hb1 rfl⟩
      · have eW := resW_out hi
        have eE := resE_out hi
        have eN : resN (val a + val b) = 0 := by unfold resN; rw [if_neg hi]
        clear hi
        go_enter Tryd.func4, Tryd.ntmps4
        go_wp2_with (first
          | (go_at_call 16; (with_reducible refine (awake_any _ htab).mono ?_); rintro e w' ⟨rfl, hb0⟩)
          | (go_at_call 39; (with_reducible refine (add_any _ _ _ ha hb Ka.out Kb.out).mono ?_); rintro e w' ⟨rfl, hb1⟩)
          | (go_at_call 25; (with_reducible refine (less_any _ _ _ ha hb Ka.out Kb.out).mono ?_); rintro e w' ⟨rfl, rfl⟩)
          | (go_at_call 22; (with_reducible refine (ris_yes a _ ha Ka.out).mono ?_); rintro e w' ⟨rfl, rfl⟩)
          | (go_at_call 22; (with_reducible refine (ris_yes b _ hb Kb.out).mono ?_); rintro e w' ⟨rfl, rfl⟩)
          | (go_at_call 23; (with_reducible refine (rvalue_any a _ ha).mono ?_); rintro e w' ⟨rfl, rfl⟩)
          | (go_at_call 23; (with_reducible refine (rvalue_any b _ hb).mono ?_); rintro e w' ⟨rfl, rfl⟩)
          | (go_at_call 26; (with_reducible refine (rdo_add _ _ _ HV.out HW.out).mono ?_); rintro e w' ⟨rfl, rfl⟩)
          | (go_at_call 20; (with_reducible refine (rword_any _ _).mono ?_); rintro e w' ⟨rfl, rfl⟩)
          | go_in)
        go_ret
        exact ⟨by simp, below_two hb0 hb1 rfl⟩

set_option maxHeartbeats 1000000 in
theorem reck_sub (op a b : Int) (w : World) (hk : (wrap64 (op.tmod 11 + 11)).tmod 11 = 1) (_o0 : -9223372036854775808 ≤ op) (_o1 : op ≤ 9223372036854775807) (ha : IsW a) (hb : IsW b) (htab : Lib.TabIs Tryd.prog w "internal/strconv.uint64pow10" .u64 Lib.pow10Tab) :
    Calls Tryd.prog 4 #[.int .i64 op, .int .u64 a, .int .u64 b] w fun e w' => e = .returned (.bool true) ∧ Below w.heap.size w w' := by
  rcases odd_or a with ka | ka
  · have Ka := Lib.hid ka
    have KK := Lib.hid (show a % 2 = 0 ∨ b % 2 = 0 from .inl ka)
    clear ka
    go_enter Tryd.func4, Tryd.ntmps4
    go_wp2_with (first
      | (go_at_call 16; (with_reducible refine (awake_any _ htab).mono ?_); rintro e w' ⟨rfl, hb0⟩)
      | (go_at_call 35; (with_reducible refine (sub_kind _ _ _ ha hb KK.out).mono ?_); rintro e w' ⟨rfl, hb1⟩)
      | (go_at_call 25; (with_reducible refine (less_kind _ _ _ ha hb KK.out).mono ?_); rintro e w' ⟨rfl, rfl⟩)
      | (go_at_call 22; (with_reducible refine (ris_no a _ ha Ka.out).mono ?_); rintro e w' ⟨rfl, rfl⟩)
      | go_in)
    go_ret
    exact ⟨by simp, below_two hb0 hb1 rfl⟩
  · have Ka := Lib.hid ka
    rcases odd_or b with kb | kb
    · have Kb := Lib.hid kb
      have KK := Lib.hid (show a % 2 = 0 ∨ b % 2 = 0 from .inr kb)
      clear ka kb
      go_enter Tryd.func4, Tryd.ntmps4
      go_wp2_with (first
        | (go_at_call 16; (with_reducible refine (awake_any _ htab).mono ?_); rintro e w' ⟨rfl, hb0⟩)
        | (go_at_call 35; (with_reducible refine (sub_kind _ _ _ ha hb KK.out).mono ?_); rintro e w' ⟨rfl, hb1⟩)
        | (go_at_call 25; (with_reducible refine (less_kind _ _ _ ha hb KK.out).mono ?_); rintro e w' ⟨rfl, rfl⟩)
        | (go_at_call 22; (with_reducible refine (ris_yes a _ ha Ka.out).mono ?_); rintro e w' ⟨rfl, rfl⟩)
        | (go_at_call 22; (with_reducible refine (ris_no b _ hb Kb.out).mono ?_); rintro e w' ⟨rfl, rfl⟩)
        | go_in)
      go_ret
      exact ⟨by simp, below_two hb0 hb1 rfl⟩
    · have Kb := Lib.hid kb
      clear ka kb
      have HV := Lib.hid (val_inR ha)
      have HW := Lib.hid (val_inR hb)
      by_cases hi : InR (val a - val b)
      · have eW := resW_in hi
        have eE := resE_in hi
        have eN : resN (val a - val b) = val a - val b := by unfold resN; rw [if_pos hi]
        clear hi
        go_enter Tryd.func4, Tryd.ntmps4
        go_wp2_with (first
          | (go_at_call 16; (with_reducible refine (awake_any _ htab).mono ?_); rintro e w' ⟨rfl, hb0⟩)
          | (go_at_call 35; (with_reducible refine (sub_any _ _ _ ha hb Ka.out Kb.out).mono ?_); rintro e w' ⟨rfl, hb1⟩)
          | (go_at_call 25; (with_reducible refine (less_any _ _ _ ha hb Ka.out Kb.out).mono ?_); rintro e w' ⟨rfl, rfl⟩)
          | (go_at_call 22; (with_reducible refine (ris_yes a _ ha Ka.out).mono ?_); rintro e w' ⟨rfl, rfl⟩)
          | (go_at_call 22; (with_reducible refine (ris_yes b _ hb Kb.out).mono ?_); rintro e w' ⟨rfl, rfl⟩)
          | (go_at_call 23; (with_reducible refine (rvalue_any a _ ha).mono ?_); rintro e w' ⟨rfl, rfl⟩)
          | (go_at_call 23; (with_reducible refine (rvalue_any b _ hb).mono ?_); rintro e w' ⟨rfl, rfl⟩)
          | (go_at_call 26; (with_reducible refine (rdo_sub _ _ _ HV.out HW.out).mono ?_); rintro e w' ⟨rfl, rfl⟩)
          | (go_at_call 20; (with_reducible refine (rword_any _ _).mono ?_); rintro e w' ⟨rfl, rfl⟩)
          | go_in)
        go_ret
        exact ⟨by simp, below_two hb0 hb1 rfl⟩
      · have eW := resW_out hi
        have eE := resE_out hi
        have eN : resN (val a - val b) = 0 := by unfold resN; rw [if_neg hi]
        clear hi
        go_enter Tryd.func4, Tryd.ntmps4
        go_wp2_with (first
          | (go_at_call 16; (with_reducible refine (awake_any _ htab).mono ?_); rintro e w' ⟨rfl, hb0⟩)
          | (go_at_call 35; (with_reducible refine (sub_any _ _ _ ha hb Ka.out Kb.out).mono ?_); rintro e w' ⟨rfl, hb1⟩)
          | (go_at_call 25; (with_reducible refine (less_any _ _ _ ha hb Ka.out Kb.out).mono ?_); rintro e w' ⟨rfl, rfl⟩)
          | (go_at_call 22; (with_reducible refine (ris_yes a _ ha Ka.out).mono ?_); rintro e w' ⟨rfl, rfl⟩)
          | (go_at_call 22; (with_reducible refine (ris_yes b _ hb Kb.out).mono ?_); rintro e w' ⟨rfl, rfl⟩)
          | (go_at_call 23; (with_reducible refine (rvalue_any a _ ha).mono ?_); rintro e w' ⟨rfl, rfl⟩)
          | (go_at_call 23; (with_reducible refine (rvalue_any b _ hb).mono ?_); rintro e w' ⟨rfl, rfl⟩)
          | (go_at_call 26; (with_reducible refine (rdo_sub _ _ _ HV.out HW.out).mono ?_); rintro e w' ⟨rfl, rfl⟩)
          | (go_at_call 20; (with_reducible refine (rword_any _ _).mono ?_); rintro e w' ⟨rfl, rfl⟩)
          | go_in)
        go_ret
        exact ⟨by simp, below_two hb0 hb1 rfl⟩

set_option maxHeartbeats 1000000 in
theorem reck_mul (op a b : Int) (w : World) (hk : (wrap64 (op.tmod 11 + 11)).tmod 11 = 2) (_o0 : -9223372036854775808 ≤ op) (_o1 : op ≤ 9223372036854775807) (ha : IsW a) (hb : IsW b) (htab : Lib.TabIs Tryd.prog w "internal/strconv.uint64pow10" .u64 Lib.pow10Tab) :
    Calls Tryd.prog 4 #[.int .i64 op, .int .u64 a, .int .u64 b] w fun e w' => e = .returned (.bool true) ∧ Below w.heap.size w w' := by
  rcases odd_or a with ka | ka
  · have Ka := Lib.hid ka
    have KK := Lib.hid (show a % 2 = 0 ∨ b % 2 = 0 from .inl ka)
    clear ka
    go_enter Tryd.func4, Tryd.ntmps4
    go_wp2_with (first
      | (go_at_call 16; (with_reducible refine (awake_any _ htab).mono ?_); rintro e w' ⟨rfl, hb0⟩)
      | (go_at_call 74; (with_reducible refine (mul_kind _ _ _ ha hb KK.out).mono ?_); rintro e w' ⟨rfl, hb1⟩)
      | (go_at_call 25; (with_reducible refine (less_kind _ _ _ ha hb KK.out).mono ?_); rintro e w' ⟨rfl, rfl⟩)
      | (go_at_call 22; (with_reducible refine (ris_no a _ ha Ka.out).mono ?_); rintro e w' ⟨rfl, rfl⟩)
      | go_in)
    go_ret
    exact ⟨by simp, below_two hb0 hb1 rfl⟩
  · have Ka := Lib.hid ka
    rcases odd_or b with kb | kb
    · have Kb := Lib.hid kb
      have KK := Lib.hid (show a % 2 = 0 ∨ b % 2 = 0 from .inr kb)
      clear ka kb
      go_enter Tryd.func4, Tryd.ntmps4
      go_wp2_with (first
        | (go_at_call 16; (with_reducible refine (awake_any _ htab).mono ?_); rintro e w' ⟨rfl, hb0⟩)
        | (go_at_call 74; (with_reducible refine (mul_kind _ _ _ ha hb KK.out).mono ?_); rintro e w' ⟨rfl, hb1⟩)
        | (go_at_call 25; (with_reducible refine (less_kind _ _ _ ha hb KK.out).mono ?_); rintro e w' ⟨rfl, rfl⟩)
        | (go_at_call 22; (with_reducible refine (ris_yes a _ ha Ka.out).mono ?_); rintro e w' ⟨rfl, rfl⟩)
        | (go_at_call 22; (with_reducible refine (ris_no b _ hb Kb.out).mono ?_); rintro e w' ⟨rfl, rfl⟩)
        | go_in)
      go_ret
      exact ⟨by simp, below_two hb0 hb1 rfl⟩
    · have Kb := Lib.hid kb
      clear ka kb
      have HV := Lib.hid (val_inR ha)
      have HW := Lib.hid (val_inR hb)
      by_cases hi : InR (val a * val b)
      · have eW := resW_in hi
        have eE := resE_in hi
        have eN : resN (val a * val b) = val a * val b := by unfold resN; rw [if_pos hi]
        clear hi
        go_enter Tryd.func4, Tryd.ntmps4
        go_wp2_with (first
          | (go_at_call 16; (with_reducible refine (awake_any _ htab).mono ?_); rintro e w' ⟨rfl, hb0⟩)
          | (go_at_call 74; (with_reducible refine (mul_any _ _ _ ha hb Ka.out Kb.out).mono ?_); rintro e w' ⟨rfl, hb1⟩)
          | (go_at_call 25; (with_reducible refine (less_any _ _ _ ha hb Ka.out Kb.out).mono ?_); rintro e w' ⟨rfl, rfl⟩)
          | (go_at_call 22; (with_reducible refine (ris_yes a _ ha Ka.out).mono ?_); rintro e w' ⟨rfl, rfl⟩)
          | (go_at_call 22; (with_reducible refine (ris_yes b _ hb Kb.out).mono ?_); rintro e w' ⟨rfl, rfl⟩)
          | (go_at_call 23; (with_reducible refine (rvalue_any a _ ha).mono ?_); rintro e w' ⟨rfl, rfl⟩)
          | (go_at_call 23; (with_reducible refine (rvalue_any b _ hb).mono ?_); rintro e w' ⟨rfl, rfl⟩)
          | (go_at_call 26; (with_reducible refine (rdo_mul _ _ _ HV.out HW.out).mono ?_); rintro e w' ⟨rfl, rfl⟩)
          | (go_at_call 20; (with_reducible refine (rword_any _ _).mono ?_); rintro e w' ⟨rfl, rfl⟩)
          | go_in)
        go_ret
        exact ⟨by simp, below_two hb0 hb1 rfl⟩
      · have eW := resW_out hi
        have eE := resE_out hi
        have eN : resN (val a * val b) = 0 := by unfold resN; rw [if_neg hi]
        clear hi
        go_enter Tryd.func4, Tryd.ntmps4
        go_wp2_with (first
          | (go_at_call 16; (with_reducible refine (awake_any _ htab).mono ?_); rintro e w' ⟨rfl, hb0⟩)
          | (go_at_call 74; (with_reducible refine (mul_any _ _ _ ha hb Ka.out Kb.out).mono ?_); rintro e w' ⟨rfl, hb1⟩)
          | (go_at_call 25; (with_reducible refine (less_any _ _ _ ha hb Ka.out Kb.out).mono ?_); rintro e w' ⟨rfl, rfl⟩)
          | (go_at_call 22; (with_reducible refine (ris_yes a _ ha Ka.out).mono ?_); rintro e w' ⟨rfl, rfl⟩)
          | (go_at_call 22; (with_reducible refine (ris_yes b _ hb Kb.out).mono ?_); rintro e w' ⟨rfl, rfl⟩)
          | (go_at_call 23; (with_reducible refine (rvalue_any a _ ha).mono ?_); rintro e w' ⟨rfl, rfl⟩)
          | (go_at_call 23; (with_reducible refine (rvalue_any b _ hb).mono ?_); rintro e w' ⟨rfl, rfl⟩)
          | (go_at_call 26; (with_reducible refine (rdo_mul _ _ _ HV.out HW.out).mono ?_); rintro e w' ⟨rfl, rfl⟩)
          | (go_at_call 20; (with_reducible refine (rword_any _ _).mono ?_); rintro e w' ⟨rfl, rfl⟩)
          | go_in)
        go_ret
        exact ⟨by simp, below_two hb0 hb1 rfl⟩

set_option maxHeartbeats 1000000 in
theorem reck_and (op a b : Int) (w : World) (hk : (wrap64 (op.tmod 11 + 11)).tmod 11 = 7) (_o0 : -9223372036854775808 ≤ op) (_o1 : op ≤ 9223372036854775807) (ha : IsW a) (hb : IsW b) (htab : Lib.TabIs Tryd.prog w "internal/strconv.uint64pow10" .u64 Lib.pow10Tab) :
    Calls Tryd.prog 4 #[.int .i64 op, .int .u64 a, .int .u64 b] w fun e w' => e = .returned (.bool true) ∧ Below w.heap.size w w' := by
  rcases odd_or a with ka | ka
  · have Ka := Lib.hid ka
    have KK := Lib.hid (show a % 2 = 0 ∨ b % 2 = 0 from .inl ka)
    clear ka
    go_enter Tryd.func4, Tryd.ntmps4
    go_wp2_with (first
      | (go_at_call 16; (with_reducible refine (awake_any _ htab).mono ?_); rintro e w' ⟨rfl, hb0⟩)
      | (go_at_call 36; (with_reducible refine (and_kind _ _ _ ha hb KK.out).mono ?_); rintro e w' ⟨rfl, hb1⟩)
      | (go_at_call 25; (with_reducible refine (less_kind _ _ _ ha hb KK.out).mono ?_); rintro e w' ⟨rfl, rfl⟩)
      | (go_at_call 22; (with_reducible refine (ris_no a _ ha Ka.out).mono ?_); rintro e w' ⟨rfl, rfl⟩)
      | go_in)
    go_ret
    exact ⟨by simp, below_two hb0 hb1 rfl⟩
  · have Ka := Lib.hid ka
    rcases odd_or b with kb | kb
    · have Kb := Lib.hid kb
      have KK := Lib.hid (show a % 2 = 0 ∨ b % 2 = 0 from .inr kb)
      clear ka kb
      go_enter Tryd.func4, Tryd.ntmps4
      go_wp2_with (first
        | (go_at_call 16; (with_reducible refine (awake_any _ htab).mono ?_); rintro e w' ⟨rfl, hb0⟩)
        | (go_at_call 36; (with_reducible refine (and_kind _ _ _ ha hb KK.out).mono ?_); rintro e w' ⟨rfl, hb1⟩)
        | (go_at_call 25; (with_reducible refine (less_kind _ _ _ ha hb KK.out).mono ?_); rintro e w' ⟨rfl, rfl⟩)
        | (go_at_call 22; (with_reducible refine (ris_yes a _ ha Ka.out).mono ?_); rintro e w' ⟨rfl, rfl⟩)
        | (go_at_call 22; (with_reducible refine (ris_no b _ hb Kb.out).mono ?_); rintro e w' ⟨rfl, rfl⟩)
        | go_in)
      go_ret
      exact ⟨by simp, below_two hb0 hb1 rfl⟩
    · have Kb := Lib.hid kb
      clear ka kb
      have HV := Lib.hid (val_inR ha)
      have HW := Lib.hid (val_inR hb)
      by_cases hi : InR (bits .and .i64 (val a) (val b))
      · have eW := resW_in hi
        have eE := resE_in hi
        have eN : resN (bits .and .i64 (val a) (val b)) = bits .and .i64 (val a) (val b) := by unfold resN; rw [if_pos hi]
        clear hi
        go_enter Tryd.func4, Tryd.ntmps4
        go_wp2_with (first
          | (go_at_call 16; (with_reducible refine (awake_any _ htab).mono ?_); rintro e w' ⟨rfl, hb0⟩)
          | (go_at_call 36; (with_reducible refine (and_any _ _ _ ha hb Ka.out Kb.out).mono ?_); rintro e w' ⟨rfl, hb1⟩)
          | (go_at_call 25; (with_reducible refine (less_any _ _ _ ha hb Ka.out Kb.out).mono ?_); rintro e w' ⟨rfl, rfl⟩)
          | (go_at_call 22; (with_reducible refine (ris_yes a _ ha Ka.out).mono ?_); rintro e w' ⟨rfl, rfl⟩)
          | (go_at_call 22; (with_reducible refine (ris_yes b _ hb Kb.out).mono ?_); rintro e w' ⟨rfl, rfl⟩)
          | (go_at_call 23; (with_reducible refine (rvalue_any a _ ha).mono ?_); rintro e w' ⟨rfl, rfl⟩)
          | (go_at_call 23; (with_reducible refine (rvalue_any b _ hb).mono ?_); rintro e w' ⟨rfl, rfl⟩)
          | (go_at_call 26; (with_reducible refine (rdo_and _ _ _ HV.out HW.out).mono ?_); rintro e w' ⟨rfl, rfl⟩)
          | (go_at_call 20; (with_reducible refine (rword_any _ _).mono ?_); rintro e w' ⟨rfl, rfl⟩)
          | go_in)
        go_ret
        exact ⟨by simp, below_two hb0 hb1 rfl⟩
      · have eW := resW_out hi
        have eE := resE_out hi
        have eN : resN (bits .and .i64 (val a) (val b)) = 0 := by unfold resN; rw [if_neg hi]
        clear hi
        go_enter Tryd.func4, Tryd.ntmps4
        go_wp2_with (first
          | (go_at_call 16; (with_reducible refine (awake_any _ htab).mono ?_); rintro e w' ⟨rfl, hb0⟩)
          | (go_at_call 36; (with_reducible refine (and_any _ _ _ ha hb Ka.out Kb.out).mono ?_); rintro e w' ⟨rfl, hb1⟩)
          | (go_at_call 25; (with_reducible refine (less_any _ _ _ ha hb Ka.out Kb.out).mono ?_); rintro e w' ⟨rfl, rfl⟩)
          | (go_at_call 22; (with_reducible refine (ris_yes a _ ha Ka.out).mono ?_); rintro e w' ⟨rfl, rfl⟩)
          | (go_at_call 22; (with_reducible refine (ris_yes b _ hb Kb.out).mono ?_); rintro e w' ⟨rfl, rfl⟩)
          | (go_at_call 23; (with_reducible refine (rvalue_any a _ ha).mono ?_); rintro e w' ⟨rfl, rfl⟩)
          | (go_at_call 23; (with_reducible refine (rvalue_any b _ hb).mono ?_); rintro e w' ⟨rfl, rfl⟩)
          | (go_at_call 26; (with_reducible refine (rdo_and _ _ _ HV.out HW.out).mono ?_); rintro e w' ⟨rfl, rfl⟩)
          | (go_at_call 20; (with_reducible refine (rword_any _ _).mono ?_); rintro e w' ⟨rfl, rfl⟩)
          | go_in)
        go_ret
        exact ⟨by simp, below_two hb0 hb1 rfl⟩
end Go.Proofs.YtdcehjdngjafoaaDoor.Fl
