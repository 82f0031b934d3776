/-
  The walk of SmallShifts: it returns true, and writes nothing that was there.
-/
import Derived.Test.YtdcehjdngjafoaaDoorWd
namespace Go.Proofs.YtdcehjdngjafoaaDoor.Fl
open Go.RowKit

theorem pow_inR {n : Nat} (h : n < 62) : InR (2 ^ n) := by
  have h1 := pow_le n 61 (by omega)
  have e : (2 : Int) ^ 61 = 2305843009213693952 := by decide
  have h2 := pow_pos' n
  unfold InR; omega
theorem flo_pos {x P : Int} (h : 0 < P) : flo x P = x / P := by
  have e := flo_mul (x := x) (y := P)
  have r := rest_abs (x := x) (y := P) (by omega)
  have s := rest_sign (x := x) (y := P) (by omega)
  have h0 : 0 ≤ rest x P := by
    rcases s with s | s
    · omega
    · have : decide (P < 0) = false := by simp; omega
      rw [this] at s
      simpa using s
  have h1 : rest x P < P := by omega
  generalize rest x P = q at *
  generalize flo x P = f at *
  rw [← e, Int.add_comm, Int.add_mul_ediv_right _ _ (by omega), Int.ediv_eq_zero_of_lt h0 h1]
  omega
theorem shR_down (x : Int) (n : Nat) : shR x (-(n : Int)) = x / 2 ^ n := by
  unfold shR
  by_cases h : n = 0
  · subst h; simp
  · rw [if_pos (by omega), show (-(-(n : Int))).toNat = n by omega]
theorem shR_up (x : Int) (n : Nat) : shR x (n : Int) = x * 2 ^ n := by
  unfold shR
  rw [if_neg (by omega), Int.toNat_natCast]
theorem shR_back (x : Int) (n : Nat) : shR (shR x (n : Int)) (-(n : Int)) = x := by
  rw [shR_down, shR_up, Int.mul_ediv_cancel _ (by have := pow_pos' n; omega)]
theorem down_inR {x : Int} (h : InR x) (n : Nat) : InR (x / 2 ^ n) := by
  have hp := pow_pos' n
  have h1 := pow_le 0 n (by omega)
  have e : (2 : Int) ^ 0 = 1 := rfl
  rw [e] at h1
  have ha : (-4611686018427387904 : Int) * 2 ^ n ≤ -4611686018427387904 := by omega
  have hb : (4611686018427387904 : Int) ≤ 4611686018427387904 * 2 ^ n := by omega
  unfold InR at *
  constructor
  · exact Int.le_ediv_of_mul_le hp (by omega)
  · have := Int.ediv_lt_of_lt_mul (a := x) (b := 4611686018427387904) (c := 2 ^ n) hp (by omega)
    omega
theorem inR0 : InR 0 := by unfold InR; omega
theorem inRm1 : InR (-1) := by unfold InR; omega
theorem half_inR2 {a : Int} (h : -9223372036854775808 ≤ a ∧ a ≤ 9223372036854775807) : InR (a / 2) := by unfold InR; omega
set_option maxRecDepth 100000 in
set_option maxHeartbeats 2000000 in
theorem walk_SmallShifts (a n : Int) (w : World) (wa : (Lit.int .i64 a).wf = true) (wn : (Lit.int .i64 n).wf = true) (htab : Lib.TabIs Tryd.prog w "internal/strconv.uint64pow10" .u64 Lib.pow10Tab) :
    Calls Tryd.prog 9 #[.int .i64 a, .int .i64 n] w fun e w' => e = .returned (.bool true) ∧ Below w.heap.size w w' := by
  have ha := half_inR2 (bounds_i64 wa)
  obtain ⟨A, hA⟩ : ∃ A, a / 2 = A := ⟨_, rfl⟩
  rw [hA] at ha
  have HA := Lib.hid ha
  have n0 := bounds_i64 wn
  obtain ⟨m, hm, hN⟩ : ∃ m : Nat, m ≤ 70 ∧ max 0 (min n 70) = (m : Int) := ⟨(max 0 (min n 70)).toNat, by omega, by omega⟩
  have HM := Lib.hid (show InR (m : Int) by unfold InR; omega)
  have HN := Lib.hid (show InR (-(m : Int)) by unfold InR; omega)
  have E := shR_down A m
  have HD := Lib.hid (down_inR ha m)
  have HD' := Lib.hid (show InR (shR A (-(m : Int))) by rw [E]; exact down_inR ha m)
  have T := Lib.hid (congrArg wd (shR_back A m))
  have HT := Lib.hid (show InR (shR (shR A (m : Int)) (-(m : Int))) by rw [shR_back]; exact ha)
  have hs : Op.shift .shr .i64 A .i64 (m : Int) = pure (.int .i64 (A / 2 ^ m)) := by rw [shr_run _ _ (by omega), Int.toNat_natCast, shr_far ha]
  clear wa wn ha n0
  by_cases hu : InR (shR A (m : Int))
  · have HU := Lib.hid hu
    clear hu
    by_cases h62 : m < 62
    · have HP := Lib.hid (pow_inR h62)
      have HP0 := Lib.hid (show (2 : Int) ^ m ≠ 0 by have := pow_pos' m; omega)
      have HF := Lib.hid (show InR (flo A (2 ^ m)) by rw [flo_pos (pow_pos' m)]; exact HD.out)
      have TF := Lib.hid (congrArg wd (flo_pos (x := A) (pow_pos' m)))
      have hw : wrap64 (2 ^ m) = 2 ^ m := wrap64_id (by have := HP.out.1; omega) (by have := HP.out.2; omega)
      go_enter Tryd.func9, Tryd.ntmps9
      go_wp2_with (first
        | (go_at_call 16; (with_reducible refine (awake_any _ htab).mono ?_); rintro e w' ⟨rfl, hb0⟩)
        | (go_at_call 17; (with_reducible refine (of_in _ _ HA.out).mono ?_); rintro e w' ⟨rfl, rfl⟩)
        | (go_at_call 17; (with_reducible refine (of_in _ _ HM.out).mono ?_); rintro e w' ⟨rfl, rfl⟩)
        | (go_at_call 17; (with_reducible refine (of_in _ _ HN.out).mono ?_); rintro e w' ⟨rfl, rfl⟩)
        | (go_at_call 40; (with_reducible refine (shift_in _ _ _ HA.out HM.out HU.out).mono ?_); rintro e w' ⟨rfl, hb1⟩)
        | (go_at_call 40; (with_reducible refine (shift_in _ _ _ HU.out HN.out HT.out).mono ?_); rintro e w' ⟨rfl, hb2⟩; rw [T.out])
        | (go_at_call 40; (with_reducible refine (shift_in _ _ _ HA.out HN.out HD'.out).mono ?_); rintro e w' ⟨rfl, hb3⟩)
        | (go_at_call 17; (with_reducible refine (of_in _ _ HP.out).mono ?_); rintro e w' ⟨rfl, rfl⟩)
        | (go_at_call 27; (with_reducible refine (floor_in _ _ _ HA.out HP.out HP0.out HF.out).mono ?_); rintro e w' ⟨rfl, hb4⟩; rw [TF.out]))
      all_goals go_ret
      all_goals exact ⟨by first | rfl | simp, below_two (below_two (below_two (below_two hb0 hb1 rfl) hb2 rfl) hb3 rfl) hb4 rfl⟩
    · have hm2 : 62 ≤ m := by omega
      by_cases ha : A < 0
      · have hv : A / 2 ^ m = -1 := by rw [div_far HA.out m hm2, if_pos ha]
        go_enter Tryd.func9, Tryd.ntmps9
        go_wp2_with (first
          | (go_at_call 16; (with_reducible refine (awake_any _ htab).mono ?_); rintro e w' ⟨rfl, hb0⟩)
          | (go_at_call 17; (with_reducible refine (of_in _ _ HA.out).mono ?_); rintro e w' ⟨rfl, rfl⟩)
          | (go_at_call 17; (with_reducible refine (of_in _ _ HM.out).mono ?_); rintro e w' ⟨rfl, rfl⟩)
          | (go_at_call 17; (with_reducible refine (of_in _ _ HN.out).mono ?_); rintro e w' ⟨rfl, rfl⟩)
          | (go_at_call 40; (with_reducible refine (shift_in _ _ _ HA.out HM.out HU.out).mono ?_); rintro e w' ⟨rfl, hb1⟩)
          | (go_at_call 40; (with_reducible refine (shift_in _ _ _ HU.out HN.out HT.out).mono ?_); rintro e w' ⟨rfl, hb2⟩; rw [T.out])
          | (go_at_call 40; (with_reducible refine (shift_in _ _ _ HA.out HN.out HD'.out).mono ?_); rintro e w' ⟨rfl, hb3⟩)
          | (go_at_call 19; (with_reducible refine (value_wd _ _ HD.out).mono ?_); rintro e w' ⟨rfl, rfl⟩)
          | (go_at_call 19; (with_reducible refine (value_wd (-1) _ inRm1).mono ?_); rintro e w' ⟨rfl, rfl⟩)
          | (go_at_call 19; (with_reducible refine (value_wd 0 _ inR0).mono ?_); rintro e w' ⟨rfl, rfl⟩))
        all_goals go_ret
        all_goals exact ⟨by first | rfl | simp, below_two (below_two (below_two hb0 hb1 rfl) hb2 rfl) hb3 rfl⟩
      · have hv : A / 2 ^ m = 0 := by rw [div_far HA.out m hm2, if_neg ha]
        go_enter Tryd.func9, Tryd.ntmps9
        go_wp2_with (first
          | (go_at_call 16; (with_reducible refine (awake_any _ htab).mono ?_); rintro e w' ⟨rfl, hb0⟩)
          | (go_at_call 17; (with_reducible refine (of_in _ _ HA.out).mono ?_); rintro e w' ⟨rfl, rfl⟩)
          | (go_at_call 17; (with_reducible refine (of_in _ _ HM.out).mono ?_); rintro e w' ⟨rfl, rfl⟩)
          | (go_at_call 17; (with_reducible refine (of_in _ _ HN.out).mono ?_); rintro e w' ⟨rfl, rfl⟩)
          | (go_at_call 40; (with_reducible refine (shift_in _ _ _ HA.out HM.out HU.out).mono ?_); rintro e w' ⟨rfl, hb1⟩)
          | (go_at_call 40; (with_reducible refine (shift_in _ _ _ HU.out HN.out HT.out).mono ?_); rintro e w' ⟨rfl, hb2⟩; rw [T.out])
          | (go_at_call 40; (with_reducible refine (shift_in _ _ _ HA.out HN.out HD'.out).mono ?_); rintro e w' ⟨rfl, hb3⟩)
          | (go_at_call 19; (with_reducible refine (value_wd _ _ HD.out).mono ?_); rintro e w' ⟨rfl, rfl⟩)
          | (go_at_call 19; (with_reducible refine (value_wd (-1) _ inRm1).mono ?_); rintro e w' ⟨rfl, rfl⟩)
          | (go_at_call 19; (with_reducible refine (value_wd 0 _ inR0).mono ?_); rintro e w' ⟨rfl, rfl⟩))
        all_goals go_ret
        all_goals exact ⟨by first | rfl | simp, below_two (below_two (below_two hb0 hb1 rfl) hb2 rfl) hb3 rfl⟩
  · have HU := Lib.hid hu
    have hz : (A == 0) = false := by
      have : A ≠ 0 := by rintro rfl; rw [shR_zero] at hu; exact hu inR0
      simpa using this
    clear hu
    by_cases h62 : m < 62
    · have HP := Lib.hid (pow_inR h62)
      have HP0 := Lib.hid (show (2 : Int) ^ m ≠ 0 by have := pow_pos' m; omega)
      have HF := Lib.hid (show InR (flo A (2 ^ m)) by rw [flo_pos (pow_pos' m)]; exact HD.out)
      have TF := Lib.hid (congrArg wd (flo_pos (x := A) (pow_pos' m)))
      have hw : wrap64 (2 ^ m) = 2 ^ m := wrap64_id (by have := HP.out.1; omega) (by have := HP.out.2; omega)
      go_enter Tryd.func9, Tryd.ntmps9
      go_wp2_with (first
        | (go_at_call 16; (with_reducible refine (awake_any _ htab).mono ?_); rintro e w' ⟨rfl, hb0⟩)
        | (go_at_call 17; (with_reducible refine (of_in _ _ HA.out).mono ?_); rintro e w' ⟨rfl, rfl⟩)
        | (go_at_call 17; (with_reducible refine (of_in _ _ HM.out).mono ?_); rintro e w' ⟨rfl, rfl⟩)
        | (go_at_call 17; (with_reducible refine (of_in _ _ HN.out).mono ?_); rintro e w' ⟨rfl, rfl⟩)
        | (go_at_call 40; (with_reducible refine (shift_out _ _ _ HA.out HM.out HU.out).mono ?_); rintro e w' ⟨rfl, hb1⟩)
        | (go_at_call 40; (with_reducible refine (shift_in _ _ _ HA.out HN.out HD'.out).mono ?_); rintro e w' ⟨rfl, hb3⟩)
        | (go_at_call 17; (with_reducible refine (of_in _ _ HP.out).mono ?_); rintro e w' ⟨rfl, rfl⟩)
        | (go_at_call 27; (with_reducible refine (floor_in _ _ _ HA.out HP.out HP0.out HF.out).mono ?_); rintro e w' ⟨rfl, hb4⟩; rw [TF.out]))
      all_goals go_ret
      all_goals exact ⟨by first | rfl | simp, below_two (below_two (below_two hb0 hb1 rfl) hb3 rfl) hb4 rfl⟩
    · have hm2 : 62 ≤ m := by omega
      by_cases ha : A < 0
      · have hv : A / 2 ^ m = -1 := by rw [div_far HA.out m hm2, if_pos ha]
        go_enter Tryd.func9, Tryd.ntmps9
        go_wp2_with (first
          | (go_at_call 16; (with_reducible refine (awake_any _ htab).mono ?_); rintro e w' ⟨rfl, hb0⟩)
          | (go_at_call 17; (with_reducible refine (of_in _ _ HA.out).mono ?_); rintro e w' ⟨rfl, rfl⟩)
          | (go_at_call 17; (with_reducible refine (of_in _ _ HM.out).mono ?_); rintro e w' ⟨rfl, rfl⟩)
          | (go_at_call 17; (with_reducible refine (of_in _ _ HN.out).mono ?_); rintro e w' ⟨rfl, rfl⟩)
          | (go_at_call 40; (with_reducible refine (shift_out _ _ _ HA.out HM.out HU.out).mono ?_); rintro e w' ⟨rfl, hb1⟩)
          | (go_at_call 40; (with_reducible refine (shift_in _ _ _ HA.out HN.out HD'.out).mono ?_); rintro e w' ⟨rfl, hb3⟩)
          | (go_at_call 19; (with_reducible refine (value_wd _ _ HD.out).mono ?_); rintro e w' ⟨rfl, rfl⟩)
          | (go_at_call 19; (with_reducible refine (value_wd (-1) _ inRm1).mono ?_); rintro e w' ⟨rfl, rfl⟩)
          | (go_at_call 19; (with_reducible refine (value_wd 0 _ inR0).mono ?_); rintro e w' ⟨rfl, rfl⟩))
        all_goals go_ret
        all_goals exact ⟨by first | rfl | simp, below_two (below_two hb0 hb1 rfl) hb3 rfl⟩
      · have hv : A / 2 ^ m = 0 := by rw [div_far HA.out m hm2, if_neg ha]
        go_enter Tryd.func9, Tryd.ntmps9
        go_wp2_with (first
          | (go_at_call 16; (with_reducible refine (awake_any _ htab).mono ?_); rintro e w' ⟨rfl, hb0⟩)
          | (go_at_call 17; (with_reducible refine (of_in _ _ HA.out).mono ?_); rintro e w' ⟨rfl, rfl⟩)
          | (go_at_call 17; (with_reducible refine (of_in _ _ HM.out).mono ?_); rintro e w' ⟨rfl, rfl⟩)
          | (go_at_call 17; (with_reducible refine (of_in _ _ HN.out).mono ?_); rintro e w' ⟨rfl, rfl⟩)
          | (go_at_call 40; (with_reducible refine (shift_out _ _ _ HA.out HM.out HU.out).mono ?_); rintro e w' ⟨rfl, hb1⟩)
          | (go_at_call 40; (with_reducible refine (shift_in _ _ _ HA.out HN.out HD'.out).mono ?_); rintro e w' ⟨rfl, hb3⟩)
          | (go_at_call 19; (with_reducible refine (value_wd _ _ HD.out).mono ?_); rintro e w' ⟨rfl, rfl⟩)
          | (go_at_call 19; (with_reducible refine (value_wd (-1) _ inRm1).mono ?_); rintro e w' ⟨rfl, rfl⟩)
          | (go_at_call 19; (with_reducible refine (value_wd 0 _ inR0).mono ?_); rintro e w' ⟨rfl, rfl⟩))
        all_goals go_ret
        all_goals exact ⟨by first | rfl | simp, below_two (below_two hb0 hb1 rfl) hb3 rfl⟩
end Go.Proofs.YtdcehjdngjafoaaDoor.Fl
