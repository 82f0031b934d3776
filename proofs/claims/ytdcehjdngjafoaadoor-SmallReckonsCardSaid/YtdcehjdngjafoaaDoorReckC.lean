/-
  The walk of SmallReckons, operation by operation (quo rem xor shift).
-/
import Derived.Test.YtdcehjdngjafoaaDoorRefD
import Derived.Test.YtdcehjdngjafoaaDoorSmallC
import Derived.OpenShut
namespace Go.Proofs.YtdcehjdngjafoaaDoor.Fl
open Go.RowKit

set_option maxHeartbeats 1000000 in
theorem reck_quo (op a b : Int) (w : World) (hk : (wrap64 (op.tmod 11 + 11)).tmod 11 = 5) (_o0 : -9223372036854775808 ≤ op) (_o1 : op ≤ 9223372036854775807) (ha : IsW a) (hb : IsW b) (htab : Lib.TabIs Tryd.prog w "internal/strconv.uint64pow10" .u64 Lib.pow10Tab) :
    Calls Tryd.prog 4 #[.int .i64 op, .int .u64 a, .int .u64 b] w fun e w' => e = .returned (.bool true) ∧ Below w.heap.size w w' := by
  rcases odd_or a with ka | ka
  · have Ka := Lib.hid ka
    have KK := Lib.hid (show a % 2 = 0 ∨ b % 2 = 0 from .inl ka)
    clear ka
    go_enter Tryd.func4, Tryd.ntmps4
    go_wp2_with (first
      | (go_at_call 16; (with_reducible refine (awake_any _ htab).mono ?_); rintro e w' ⟨rfl, hb0⟩)
      | (go_at_call 29; (with_reducible refine (quo_kind _ _ _ ha hb KK.out).mono ?_); rintro e w' ⟨rfl, hb1⟩)
      | (go_at_call 25; (with_reducible refine (less_kind _ _ _ ha hb KK.out).mono ?_); rintro e w' ⟨rfl, rfl⟩)
      | (go_at_call 22; (with_reducible refine (ris_no a _ ha Ka.out).mono ?_); rintro e w' ⟨rfl, rfl⟩)
      | go_in)
    go_ret
    exact ⟨by simp, below_two hb0 hb1 rfl⟩
  · have Ka := Lib.hid ka
    rcases odd_or b with kb | kb
    · have Kb := Lib.hid kb
      have KK := Lib.hid (show a % 2 = 0 ∨ b % 2 = 0 from .inr kb)
      clear ka kb
      go_enter Tryd.func4, Tryd.ntmps4
      go_wp2_with (first
        | (go_at_call 16; (with_reducible refine (awake_any _ htab).mono ?_); rintro e w' ⟨rfl, hb0⟩)
        | (go_at_call 29; (with_reducible refine (quo_kind _ _ _ ha hb KK.out).mono ?_); rintro e w' ⟨rfl, hb1⟩)
        | (go_at_call 25; (with_reducible refine (less_kind _ _ _ ha hb KK.out).mono ?_); rintro e w' ⟨rfl, rfl⟩)
        | (go_at_call 22; (with_reducible refine (ris_yes a _ ha Ka.out).mono ?_); rintro e w' ⟨rfl, rfl⟩)
        | (go_at_call 22; (with_reducible refine (ris_no b _ hb Kb.out).mono ?_); rintro e w' ⟨rfl, rfl⟩)
        | go_in)
      go_ret
      exact ⟨by simp, below_two hb0 hb1 rfl⟩
    · have Kb := Lib.hid kb
      clear ka kb
      have HV := Lib.hid (val_inR ha)
      have HW := Lib.hid (val_inR hb)
      by_cases h0 : val b = 0
      · have H0 := Lib.hid h0
        clear h0
        go_enter Tryd.func4, Tryd.ntmps4
        go_wp2_with (first
          | (go_at_call 16; (with_reducible refine (awake_any _ htab).mono ?_); rintro e w' ⟨rfl, hb0⟩)
          | (go_at_call 29; (with_reducible refine (quo_zero _ _ _ ha hb Ka.out Kb.out H0.out).mono ?_); rintro e w' ⟨rfl, hb1⟩)
          | (go_at_call 25; (with_reducible refine (less_any _ _ _ ha hb Ka.out Kb.out).mono ?_); rintro e w' ⟨rfl, rfl⟩)
          | (go_at_call 22; (with_reducible refine (ris_yes a _ ha Ka.out).mono ?_); rintro e w' ⟨rfl, rfl⟩)
          | (go_at_call 22; (with_reducible refine (ris_yes b _ hb Kb.out).mono ?_); rintro e w' ⟨rfl, rfl⟩)
          | (go_at_call 23; (with_reducible refine (rvalue_any a _ ha).mono ?_); rintro e w' ⟨rfl, rfl⟩)
          | (go_at_call 23; (with_reducible refine (rvalue_any b _ hb).mono ?_); rintro e w' ⟨rfl, rfl⟩)
          | (go_at_call 26; (with_reducible refine (rdo_quo_zero _ _ _ H0.out).mono ?_); rintro e w' ⟨rfl, rfl⟩)
          | (go_at_call 20; (with_reducible refine (rword_any _ _).mono ?_); rintro e w' ⟨rfl, rfl⟩)
          | go_in)
        go_ret
        exact ⟨by simp, below_two hb0 hb1 rfl⟩
      · have H0 := Lib.hid h0
        clear h0
        by_cases hi : InR ((val a).tdiv (val b))
        · have eW := resW_in hi
          have eE := resE_in hi
          have eN : resN ((val a).tdiv (val b)) = (val a).tdiv (val b) := by unfold resN; rw [if_pos hi]
          clear hi
          go_enter Tryd.func4, Tryd.ntmps4
          go_wp2_with (first
            | (go_at_call 16; (with_reducible refine (awake_any _ htab).mono ?_); rintro e w' ⟨rfl, hb0⟩)
            | (go_at_call 29; (with_reducible refine (quo_any _ _ _ ha hb Ka.out Kb.out H0.out).mono ?_); rintro e w' ⟨rfl, hb1⟩)
            | (go_at_call 25; (with_reducible refine (less_any _ _ _ ha hb Ka.out Kb.out).mono ?_); rintro e w' ⟨rfl, rfl⟩)
            | (go_at_call 22; (with_reducible refine (ris_yes a _ ha Ka.out).mono ?_); rintro e w' ⟨rfl, rfl⟩)
            | (go_at_call 22; (with_reducible refine (ris_yes b _ hb Kb.out).mono ?_); rintro e w' ⟨rfl, rfl⟩)
            | (go_at_call 23; (with_reducible refine (rvalue_any a _ ha).mono ?_); rintro e w' ⟨rfl, rfl⟩)
            | (go_at_call 23; (with_reducible refine (rvalue_any b _ hb).mono ?_); rintro e w' ⟨rfl, rfl⟩)
            | (go_at_call 26; (with_reducible refine (rdo_quo _ _ _ HV.out HW.out H0.out).mono ?_); rintro e w' ⟨rfl, rfl⟩)
            | (go_at_call 20; (with_reducible refine (rword_any _ _).mono ?_); rintro e w' ⟨rfl, rfl⟩)
            | go_in)
          go_ret
          exact ⟨by simp, below_two hb0 hb1 rfl⟩
        · have eW := resW_out hi
          have eE := resE_out hi
          have eN : resN ((val a).tdiv (val b)) = 0 := by unfold resN; rw [if_neg hi]
          clear hi
          go_enter Tryd.func4, Tryd.ntmps4
          go_wp2_with (first
            | (go_at_call 16; (with_reducible refine (awake_any _ htab).mono ?_); rintro e w' ⟨rfl, hb0⟩)
            | (go_at_call 29; (with_reducible refine (quo_any _ _ _ ha hb Ka.out Kb.out H0.out).mono ?_); rintro e w' ⟨rfl, hb1⟩)
            | (go_at_call 25; (with_reducible refine (less_any _ _ _ ha hb Ka.out Kb.out).mono ?_); rintro e w' ⟨rfl, rfl⟩)
            | (go_at_call 22; (with_reducible refine (ris_yes a _ ha Ka.out).mono ?_); rintro e w' ⟨rfl, rfl⟩)
            | (go_at_call 22; (with_reducible refine (ris_yes b _ hb Kb.out).mono ?_); rintro e w' ⟨rfl, rfl⟩)
            | (go_at_call 23; (with_reducible refine (rvalue_any a _ ha).mono ?_); rintro e w' ⟨rfl, rfl⟩)
            | (go_at_call 23; (with_reducible refine (rvalue_any b _ hb).mono ?_); rintro e w' ⟨rfl, rfl⟩)
            | (go_at_call 26; (with_reducible refine (rdo_quo _ _ _ HV.out HW.out H0.out).mono ?_); rintro e w' ⟨rfl, rfl⟩)
            | (go_at_call 20; (with_reducible refine (rword_any _ _).mono ?_); rintro e w' ⟨rfl, rfl⟩)
            | go_in)
          go_ret
          exact ⟨by simp, below_two hb0 hb1 rfl⟩

set_option maxHeartbeats 1000000 in
theorem reck_rem (op a b : Int) (w : World) (hk : (wrap64 (op.tmod 11 + 11)).tmod 11 = 6) (_o0 : -9223372036854775808 ≤ op) (_o1 : op ≤ 9223372036854775807) (ha : IsW a) (hb : IsW b) (htab : Lib.TabIs Tryd.prog w "internal/strconv.uint64pow10" .u64 Lib.pow10Tab) :
    Calls Tryd.prog 4 #[.int .i64 op, .int .u64 a, .int .u64 b] w fun e w' => e = .returned (.bool true) ∧ Below w.heap.size w w' := by
  rcases odd_or a with ka | ka
  · have Ka := Lib.hid ka
    have KK := Lib.hid (show a % 2 = 0 ∨ b % 2 = 0 from .inl ka)
    clear ka
    go_enter Tryd.func4, Tryd.ntmps4
    go_wp2_with (first
      | (go_at_call 16; (with_reducible refine (awake_any _ htab).mono ?_); rintro e w' ⟨rfl, hb0⟩)
      | (go_at_call 30; (with_reducible refine (rem_kind _ _ _ ha hb KK.out).mono ?_); rintro e w' ⟨rfl, hb1⟩)
      | (go_at_call 25; (with_reducible refine (less_kind _ _ _ ha hb KK.out).mono ?_); rintro e w' ⟨rfl, rfl⟩)
      | (go_at_call 22; (with_reducible refine (ris_no a _ ha Ka.out).mono ?_); rintro e w' ⟨rfl, rfl⟩)
      | go_in)
    go_ret
    exact ⟨by simp, below_two hb0 hb1 rfl⟩
  · have Ka := Lib.hid ka
    rcases odd_or b with kb | kb
    · have Kb := Lib.hid kb
      have KK := Lib.hid (show a % 2 = 0 ∨ b % 2 = 0 from .inr kb)
      clear ka kb
      go_enter Tryd.func4, Tryd.ntmps4
      go_wp2_with (first
        | (go_at_call 16; (with_reducible refine (awake_any _ htab).mono ?_); rintro e w' ⟨rfl, hb0⟩)
        | (go_at_call 30; (with_reducible refine (rem_kind _ _ _ ha hb KK.out).mono ?_); rintro e w' ⟨rfl, hb1⟩)
        | (go_at_call 25; (with_reducible refine (less_kind _ _ _ ha hb KK.out).mono ?_); rintro e w' ⟨rfl, rfl⟩)
        | (go_at_call 22; (with_reducible refine (ris_yes a _ ha Ka.out).mono ?_); rintro e w' ⟨rfl, rfl⟩)
        | (go_at_call 22; (with_reducible refine (ris_no b _ hb Kb.out).mono ?_); rintro e w' ⟨rfl, rfl⟩)
        | go_in)
      go_ret
      exact ⟨by simp, below_two hb0 hb1 rfl⟩
    · have Kb := Lib.hid kb
      clear ka kb
      have HV := Lib.hid (val_inR ha)
      have HW := Lib.hid (val_inR hb)
      by_cases h0 : val b = 0
      · have H0 := Lib.hid h0
        clear h0
        go_enter Tryd.func4, Tryd.ntmps4
        go_wp2_with (first
          | (go_at_call 16; (with_reducible refine (awake_any _ htab).mono ?_); rintro e w' ⟨rfl, hb0⟩)
          | (go_at_call 30; (with_reducible refine (rem_zero _ _ _ ha hb Ka.out Kb.out H0.out).mono ?_); rintro e w' ⟨rfl, hb1⟩)
          | (go_at_call 25; (with_reducible refine (less_any _ _ _ ha hb Ka.out Kb.out).mono ?_); rintro e w' ⟨rfl, rfl⟩)
          | (go_at_call 22; (with_reducible refine (ris_yes a _ ha Ka.out).mono ?_); rintro e w' ⟨rfl, rfl⟩)
          | (go_at_call 22; (with_reducible refine (ris_yes b _ hb Kb.out).mono ?_); rintro e w' ⟨rfl, rfl⟩)
          | (go_at_call 23; (with_reducible refine (rvalue_any a _ ha).mono ?_); rintro e w' ⟨rfl, rfl⟩)
          | (go_at_call 23; (with_reducible refine (rvalue_any b _ hb).mono ?_); rintro e w' ⟨rfl, rfl⟩)
          | (go_at_call 26; (with_reducible refine (rdo_rem_zero _ _ _ H0.out).mono ?_); rintro e w' ⟨rfl, rfl⟩)
          | (go_at_call 20; (with_reducible refine (rword_any _ _).mono ?_); rintro e w' ⟨rfl, rfl⟩)
          | go_in)
        go_ret
        exact ⟨by simp, below_two hb0 hb1 rfl⟩
      · have H0 := Lib.hid h0
        clear h0
        by_cases hi : InR ((val a).tmod (val b))
        · have eW := resW_in hi
          have eE := resE_in hi
          have eN : resN ((val a).tmod (val b)) = (val a).tmod (val b) := by unfold resN; rw [if_pos hi]
          clear hi
          go_enter Tryd.func4, Tryd.ntmps4
          go_wp2_with (first
            | (go_at_call 16; (with_reducible refine (awake_any _ htab).mono ?_); rintro e w' ⟨rfl, hb0⟩)
            | (go_at_call 30; (with_reducible refine (rem_any _ _ _ ha hb Ka.out Kb.out H0.out).mono ?_); rintro e w' ⟨rfl, hb1⟩)
            | (go_at_call 25; (with_reducible refine (less_any _ _ _ ha hb Ka.out Kb.out).mono ?_); rintro e w' ⟨rfl, rfl⟩)
            | (go_at_call 22; (with_reducible refine (ris_yes a _ ha Ka.out).mono ?_); rintro e w' ⟨rfl, rfl⟩)
            | (go_at_call 22; (with_reducible refine (ris_yes b _ hb Kb.out).mono ?_); rintro e w' ⟨rfl, rfl⟩)
            | (go_at_call 23; (with_reducible refine (rvalue_any a _ ha).mono ?_); rintro e w' ⟨rfl, rfl⟩)
            | (go_at_call 23; (with_reducible refine (rvalue_any b _ hb).mono ?_); rintro e w' ⟨rfl, rfl⟩)
            | (go_at_call 26; (with_reducible refine (rdo_rem _ _ _ HV.out HW.out H0.out).mono ?_); rintro e w' ⟨rfl, rfl⟩)
            | (go_at_call 20; (with_reducible refine (rword_any _ _).mono ?_); rintro e w' ⟨rfl, rfl⟩)
            | go_in)
          go_ret
          exact ⟨by simp, below_two hb0 hb1 rfl⟩
        · have eW := resW_out hi
          have eE := resE_out hi
          have eN : resN ((val a).tmod (val b)) = 0 := by unfold resN; rw [if_neg hi]
          clear hi
          go_enter Tryd.func4, Tryd.ntmps4
          go_wp2_with (first
            | (go_at_call 16; (with_reducible refine (awake_any _ htab).mono ?_); rintro e w' ⟨rfl, hb0⟩)
            | (go_at_call 30; (with_reducible refine (rem_any _ _ _ ha hb Ka.out Kb.out H0.out).mono ?_); rintro e w' ⟨rfl, hb1⟩)
            | (go_at_call 25; (with_reducible refine (less_any _ _ _ ha hb Ka.out Kb.out).mono ?_); rintro e w' ⟨rfl, rfl⟩)
            | (go_at_call 22; (with_reducible refine (ris_yes a _ ha Ka.out).mono ?_); rintro e w' ⟨rfl, rfl⟩)
            | (go_at_call 22; (with_reducible refine (ris_yes b _ hb Kb.out).mono ?_); rintro e w' ⟨rfl, rfl⟩)
            | (go_at_call 23; (with_reducible refine (rvalue_any a _ ha).mono ?_); rintro e w' ⟨rfl, rfl⟩)
            | (go_at_call 23; (with_reducible refine (rvalue_any b _ hb).mono ?_); rintro e w' ⟨rfl, rfl⟩)
            | (go_at_call 26; (with_reducible refine (rdo_rem _ _ _ HV.out HW.out H0.out).mono ?_); rintro e w' ⟨rfl, rfl⟩)
            | (go_at_call 20; (with_reducible refine (rword_any _ _).mono ?_); rintro e w' ⟨rfl, rfl⟩)
            | go_in)
          go_ret
          exact ⟨by simp, below_two hb0 hb1 rfl⟩

set_option maxHeartbeats 1000000 in
theorem reck_xor (op a b : Int) (w : World) (hk : (wrap64 (op.tmod 11 + 11)).tmod 11 = 9) (_o0 : -9223372036854775808 ≤ op) (_o1 : op ≤ 9223372036854775807) (ha : IsW a) (hb : IsW b) (htab : Lib.TabIs Tryd.prog w "internal/strconv.uint64pow10" .u64 Lib.pow10Tab) :
    Calls Tryd.prog 4 #[.int .i64 op, .int .u64 a, .int .u64 b] w fun e w' => e = .returned (.bool true) ∧ Below w.heap.size w w' := by
  rcases odd_or a with ka | ka
  · have Ka := Lib.hid ka
    have KK := Lib.hid (show a % 2 = 0 ∨ b % 2 = 0 from .inl ka)
    clear ka
    go_enter Tryd.func4, Tryd.ntmps4
    go_wp2_with (first
      | (go_at_call 16; (with_reducible refine (awake_any _ htab).mono ?_); rintro e w' ⟨rfl, hb0⟩)
      | (go_at_call 38; (with_reducible refine (xor_kind _ _ _ ha hb KK.out).mono ?_); rintro e w' ⟨rfl, hb1⟩)
      | (go_at_call 25; (with_reducible refine (less_kind _ _ _ ha hb KK.out).mono ?_); rintro e w' ⟨rfl, rfl⟩)
      | (go_at_call 22; (with_reducible refine (ris_no a _ ha Ka.out).mono ?_); rintro e w' ⟨rfl, rfl⟩)
      | go_in)
    go_ret
    exact ⟨by simp, below_two hb0 hb1 rfl⟩
  · have Ka := Lib.hid ka
    rcases odd_or b with kb | kb
    · have Kb := Lib.hid kb
      have KK := Lib.hid (show a % 2 = 0 ∨ b % 2 = 0 from .inr kb)
      clear ka kb
      go_enter Tryd.func4, Tryd.ntmps4
      go_wp2_with (first
        | (go_at_call 16; (with_reducible refine (awake_any _ htab).mono ?_); rintro e w' ⟨rfl, hb0⟩)
        | (go_at_call 38; (with_reducible refine (xor_kind _ _ _ ha hb KK.out).mono ?_); rintro e w' ⟨rfl, hb1⟩)
        | (go_at_call 25; (with_reducible refine (less_kind _ _ _ ha hb KK.out).mono ?_); rintro e w' ⟨rfl, rfl⟩)
        | (go_at_call 22; (with_reducible refine (ris_yes a _ ha Ka.out).mono ?_); rintro e w' ⟨rfl, rfl⟩)
        | (go_at_call 22; (with_reducible refine (ris_no b _ hb Kb.out).mono ?_); rintro e w' ⟨rfl, rfl⟩)
        | go_in)
      go_ret
      exact ⟨by simp, below_two hb0 hb1 rfl⟩
    · have Kb := Lib.hid kb
      clear ka kb
      have HV := Lib.hid (val_inR ha)
      have HW := Lib.hid (val_inR hb)
      by_cases hi : InR (bits .xor .i64 (val a) (val b))
      · have eW := resW_in hi
        have eE := resE_in hi
        have eN : resN (bits .xor .i64 (val a) (val b)) = bits .xor .i64 (val a) (val b) := by unfold resN; rw [if_pos hi]
        clear hi
        go_enter Tryd.func4, Tryd.ntmps4
        go_wp2_with (first
          | (go_at_call 16; (with_reducible refine (awake_any _ htab).mono ?_); rintro e w' ⟨rfl, hb0⟩)
          | (go_at_call 38; (with_reducible refine (xor_any _ _ _ ha hb Ka.out Kb.out).mono ?_); rintro e w' ⟨rfl, hb1⟩)
          | (go_at_call 25; (with_reducible refine (less_any _ _ _ ha hb Ka.out Kb.out).mono ?_); rintro e w' ⟨rfl, rfl⟩)
          | (go_at_call 22; (with_reducible refine (ris_yes a _ ha Ka.out).mono ?_); rintro e w' ⟨rfl, rfl⟩)
          | (go_at_call 22; (with_reducible refine (ris_yes b _ hb Kb.out).mono ?_); rintro e w' ⟨rfl, rfl⟩)
          | (go_at_call 23; (with_reducible refine (rvalue_any a _ ha).mono ?_); rintro e w' ⟨rfl, rfl⟩)
          | (go_at_call 23; (with_reducible refine (rvalue_any b _ hb).mono ?_); rintro e w' ⟨rfl, rfl⟩)
          | (go_at_call 26; (with_reducible refine (rdo_xor _ _ _ HV.out HW.out).mono ?_); rintro e w' ⟨rfl, rfl⟩)
          | (go_at_call 20; (with_reducible refine (rword_any _ _).mono ?_); rintro e w' ⟨rfl, rfl⟩)
          | go_in)
        go_ret
        exact ⟨by simp, below_two hb0 hb1 rfl⟩
      · have eW := resW_out hi
        have eE := resE_out hi
        have eN : resN (bits .xor .i64 (val a) (val b)) = 0 := by unfold resN; rw [if_neg hi]
        clear hi
        go_enter Tryd.func4, Tryd.ntmps4
        go_wp2_with (first
          | (go_at_call 16; (with_reducible refine (awake_any _ htab).mono ?_); rintro e w' ⟨rfl, hb0⟩)
          | (go_at_call 38; (with_reducible refine (xor_any _ _ _ ha hb Ka.out Kb.out).mono ?_); rintro e w' ⟨rfl, hb1⟩)
          | (go_at_call 25; (with_reducible refine (less_any _ _ _ ha hb Ka.out Kb.out).mono ?_); rintro e w' ⟨rfl, rfl⟩)
          | (go_at_call 22; (with_reducible refine (ris_yes a _ ha Ka.out).mono ?_); rintro e w' ⟨rfl, rfl⟩)
          | (go_at_call 22; (with_reducible refine (ris_yes b _ hb Kb.out).mono ?_); rintro e w' ⟨rfl, rfl⟩)
          | (go_at_call 23; (with_reducible refine (rvalue_any a _ ha).mono ?_); rintro e w' ⟨rfl, rfl⟩)
          | (go_at_call 23; (with_reducible refine (rvalue_any b _ hb).mono ?_); rintro e w' ⟨rfl, rfl⟩)
          | (go_at_call 26; (with_reducible refine (rdo_xor _ _ _ HV.out HW.out).mono ?_); rintro e w' ⟨rfl, rfl⟩)
          | (go_at_call 20; (with_reducible refine (rword_any _ _).mono ?_); rintro e w' ⟨rfl, rfl⟩)
          | go_in)
        go_ret
        exact ⟨by simp, below_two hb0 hb1 rfl⟩

set_option maxHeartbeats 1000000 in
theorem reck_shift (op a b : Int) (w : World) (hk : (wrap64 (op.tmod 11 + 11)).tmod 11 = 10) (_o0 : -9223372036854775808 ≤ op) (_o1 : op ≤ 9223372036854775807) (ha : IsW a) (hb : IsW b) (htab : Lib.TabIs Tryd.prog w "internal/strconv.uint64pow10" .u64 Lib.pow10Tab) :
    Calls Tryd.prog 4 #[.int .i64 op, .int .u64 a, .int .u64 b] w fun e w' => e = .returned (.bool true) ∧ Below w.heap.size w w' := by
  rcases odd_or a with ka | ka
  · have Ka := Lib.hid ka
    have KK := Lib.hid (show a % 2 = 0 ∨ b % 2 = 0 from .inl ka)
    clear ka
    go_enter Tryd.func4, Tryd.ntmps4
    go_wp2_with (first
      | (go_at_call 16; (with_reducible refine (awake_any _ htab).mono ?_); rintro e w' ⟨rfl, hb0⟩)
      | (go_at_call 40; (with_reducible refine (shift_kind _ _ _ ha hb KK.out).mono ?_); rintro e w' ⟨rfl, hb1⟩)
      | (go_at_call 25; (with_reducible refine (less_kind _ _ _ ha hb KK.out).mono ?_); rintro e w' ⟨rfl, rfl⟩)
      | (go_at_call 22; (with_reducible refine (ris_no a _ ha Ka.out).mono ?_); rintro e w' ⟨rfl, rfl⟩)
      | go_in)
    go_ret
    exact ⟨by simp, below_two hb0 hb1 rfl⟩
  · have Ka := Lib.hid ka
    rcases odd_or b with kb | kb
    · have Kb := Lib.hid kb
      have KK := Lib.hid (show a % 2 = 0 ∨ b % 2 = 0 from .inr kb)
      clear ka kb
      go_enter Tryd.func4, Tryd.ntmps4
      go_wp2_with (first
        | (go_at_call 16; (with_reducible refine (awake_any _ htab).mono ?_); rintro e w' ⟨rfl, hb0⟩)
        | (go_at_call 40; (with_reducible refine (shift_kind _ _ _ ha hb KK.out).mono ?_); rintro e w' ⟨rfl, hb1⟩)
        | (go_at_call 25; (with_reducible refine (less_kind _ _ _ ha hb KK.out).mono ?_); rintro e w' ⟨rfl, rfl⟩)
        | (go_at_call 22; (with_reducible refine (ris_yes a _ ha Ka.out).mono ?_); rintro e w' ⟨rfl, rfl⟩)
        | (go_at_call 22; (with_reducible refine (ris_no b _ hb Kb.out).mono ?_); rintro e w' ⟨rfl, rfl⟩)
        | go_in)
      go_ret
      exact ⟨by simp, below_two hb0 hb1 rfl⟩
    · have Kb := Lib.hid kb
      clear ka kb
      have HV := Lib.hid (val_inR ha)
      have HW := Lib.hid (val_inR hb)
      by_cases hi : InR (shR (val a) (val b))
      · have eW := resW_in hi
        have eE := resE_in hi
        have eN : resN (shR (val a) (val b)) = shR (val a) (val b) := by unfold resN; rw [if_pos hi]
        clear hi
        go_enter Tryd.func4, Tryd.ntmps4
        go_wp2_with (first
          | (go_at_call 16; (with_reducible refine (awake_any _ htab).mono ?_); rintro e w' ⟨rfl, hb0⟩)
          | (go_at_call 40; (with_reducible refine (shift_any _ _ _ ha hb Ka.out Kb.out).mono ?_); rintro e w' ⟨rfl, hb1⟩)
          | (go_at_call 25; (with_reducible refine (less_any _ _ _ ha hb Ka.out Kb.out).mono ?_); rintro e w' ⟨rfl, rfl⟩)
          | (go_at_call 22; (with_reducible refine (ris_yes a _ ha Ka.out).mono ?_); rintro e w' ⟨rfl, rfl⟩)
          | (go_at_call 22; (with_reducible refine (ris_yes b _ hb Kb.out).mono ?_); rintro e w' ⟨rfl, rfl⟩)
          | (go_at_call 23; (with_reducible refine (rvalue_any a _ ha).mono ?_); rintro e w' ⟨rfl, rfl⟩)
          | (go_at_call 23; (with_reducible refine (rvalue_any b _ hb).mono ?_); rintro e w' ⟨rfl, rfl⟩)
          | (go_at_call 26; (with_reducible refine (rdo_shift _ _ _ HV.out HW.out).mono ?_); rintro e w' ⟨rfl, rfl⟩)
          | (go_at_call 20; (with_reducible refine (rword_any _ _).mono ?_); rintro e w' ⟨rfl, rfl⟩)
          | go_in)
        go_ret
        exact ⟨by simp, below_two hb0 hb1 rfl⟩
      · have eW := resW_out hi
        have eE := resE_out hi
        have eN : resN (shR (val a) (val b)) = 0 := by unfold resN; rw [if_neg hi]
        clear hi
        go_enter Tryd.func4, Tryd.ntmps4
        go_wp2_with (first
          | (go_at_call 16; (with_reducible refine (awake_any _ htab).mono ?_); rintro e w' ⟨rfl, hb0⟩)
          | (go_at_call 40; (with_reducible refine (shift_any _ _ _ ha hb Ka.out Kb.out).mono ?_); rintro e w' ⟨rfl, hb1⟩)
          | (go_at_call 25; (with_reducible refine (less_any _ _ _ ha hb Ka.out Kb.out).mono ?_); rintro e w' ⟨rfl, rfl⟩)
          | (go_at_call 22; (with_reducible refine (ris_yes a _ ha Ka.out).mono ?_); rintro e w' ⟨rfl, rfl⟩)
          | (go_at_call 22; (with_reducible refine (ris_yes b _ hb Kb.out).mono ?_); rintro e w' ⟨rfl, rfl⟩)
          | (go_at_call 23; (with_reducible refine (rvalue_any a _ ha).mono ?_); rintro e w' ⟨rfl, rfl⟩)
          | (go_at_call 23; (with_reducible refine (rvalue_any b _ hb).mono ?_); rintro e w' ⟨rfl, rfl⟩)
          | (go_at_call 26; (with_reducible refine (rdo_shift _ _ _ HV.out HW.out).mono ?_); rintro e w' ⟨rfl, rfl⟩)
          | (go_at_call 20; (with_reducible refine (rword_any _ _).mono ?_); rintro e w' ⟨rfl, rfl⟩)
          | go_in)
        go_ret
        exact ⟨by simp, below_two hb0 hb1 rfl⟩
end Go.Proofs.YtdcehjdngjafoaaDoor.Fl
