/-
  The walk of SmallParts: it returns true, and writes nothing that was there.
-/
import Derived.Test.YtdcehjdngjafoaaDoorWd
namespace Go.Proofs.YtdcehjdngjafoaaDoor.Fl
open Go.RowKit

theorem half_inR' {a : Int} (h : -9223372036854775808 ≤ a ∧ a ≤ 9223372036854775807) : InR (a / 2) := by unfold InR; omega
theorem tmod_small {x y : Int} (h : x.natAbs < y.natAbs) : x.tmod y = x := by
  have e := tdiv_tmod x y
  have q : (x.tdiv y).natAbs = 0 := by rw [Int.natAbs_tdiv]; exact Nat.div_eq_of_lt h
  have q0 : x.tdiv y = 0 := by omega
  rw [q0, Int.mul_zero] at e
  omega
theorem flo_out {x y : Int} (hx : InR x) (h0 : y ≠ 0) (h : ¬ InR (flo x y)) : x = -4611686018427387904 ∧ y = -1 ∧ flo x y = 4611686018427387904 := by
  have hb := flo_bd hx h0
  have hf : flo x y = 4611686018427387904 := by unfold InR at h; omega
  have e := flo_mul (x := x) (y := y)
  have r := rest_abs (x := x) h0
  rw [hf] at e
  unfold InR at hx
  have : y = -1 := by omega
  subst this
  omega
theorem tdiv_out {x y : Int} (hx : InR x) (h0 : y ≠ 0) (h : ¬ InR (x.tdiv y)) : x = -4611686018427387904 ∧ y = -1 := by
  have hb := tdiv_bd (y := y) hx
  have hf : x.tdiv y = 4611686018427387904 := by unfold InR at h; omega
  have e := tdiv_tmod x y
  have r := tmod_bd (x := x) h0
  rw [hf] at e
  unfold InR at hx
  have : y = -1 := by omega
  subst this
  omega
theorem inR0 : InR 0 := by unfold InR; omega
theorem flo_m1 : flo (-4611686018427387904) (-1) = 4611686018427387904 := by
  unfold flo; decide
theorem parts_mod {x y : Int} (h0 : y ≠ 0) : (rest x y).tmod y = rest x y := tmod_small (rest_abs h0)
theorem parts_rem {x y : Int} (h0 : y ≠ 0) : (x.tmod y).tmod y = x.tmod y := tmod_small (tmod_bd h0)
theorem sum_back {x y : Int} (hx : InR x) : wrap64 (wrap64 (flo x y * y) + rest x y) = x := by
  have e := flo_mul (x := x) (y := y)
  generalize flo x y * y = p at *
  unfold InR at hx; unfold wrap64; omega
theorem sum_back' {x y : Int} (hx : InR x) : wrap64 (wrap64 (x.tdiv y * y) + x.tmod y) = x := by
  have e := tdiv_tmod x y
  rw [Int.mul_comm] at e
  generalize x.tdiv y * y = p at *
  unfold InR at hx; unfold wrap64; omega
set_option maxRecDepth 100000 in
set_option maxHeartbeats 2000000 in
theorem walk_SmallParts (a b : Int) (w : World) (wa : (Lit.int .i64 a).wf = true) (wb : (Lit.int .i64 b).wf = true) (htab : Lib.TabIs Tryd.prog w "internal/strconv.uint64pow10" .u64 Lib.pow10Tab) :
    Calls Tryd.prog 5 #[.int .i64 a, .int .i64 b] w fun e w' => e = .returned (.bool true) ∧ Below w.heap.size w w' := by
  have ha := half_inR' (bounds_i64 wa)
  have hb := half_inR' (bounds_i64 wb)
  obtain ⟨A, hA⟩ : ∃ A, a / 2 = A := ⟨_, rfl⟩
  obtain ⟨B, hB⟩ : ∃ B, b / 2 = B := ⟨_, rfl⟩
  rw [hA] at ha
  rw [hB] at hb
  have HA := Lib.hid ha
  have HB := Lib.hid hb
  clear wa wb ha hb
  by_cases h0 : B = 0
  · subst h0
    go_enter Tryd.func5, Tryd.ntmps5
    go_wp2_with (first
      | (go_at_call 16; (with_reducible refine (awake_any _ htab).mono ?_); rintro e w' ⟨rfl, hb0⟩)
      | (go_at_call 17; (with_reducible refine (of_in _ _ HA.out).mono ?_); rintro e w' ⟨rfl, rfl⟩)
      | (go_at_call 17; (with_reducible refine (of_in _ _ HB.out).mono ?_); rintro e w' ⟨rfl, rfl⟩)
      | (go_at_call 27; (with_reducible refine (floor_wd0 _ _).mono ?_); rintro e w' ⟨rfl, hb1⟩)
      | (go_at_call 28; (with_reducible refine (mod_wd0 _ _).mono ?_); rintro e w' ⟨rfl, hb2⟩)
      | (go_at_call 29; (with_reducible refine (quo_wd0 _ _).mono ?_); rintro e w' ⟨rfl, hb3⟩)
      | (go_at_call 30; (with_reducible refine (rem_wd0 _ _).mono ?_); rintro e w' ⟨rfl, hb4⟩))
    go_ret
    exact ⟨by simp, below_two (below_two (below_two (below_two hb0 hb1 rfl) hb2 rfl) hb3 rfl) hb4 rfl⟩
  · have hz : (B == 0) = false := by simpa using h0
    have H0 := Lib.hid h0
    have HM := Lib.hid (rest_inR HA.out HB.out h0)
    have HR := Lib.hid (tmod_inR (y := B) HA.out)
    by_cases hf : InR (flo A B)
    · have hq : InR (A.tdiv B) := by
        by_cases hq : InR (A.tdiv B)
        · exact hq
        · obtain ⟨e1, e2⟩ := tdiv_out HA.out h0 hq
          rw [e1, e2, flo_m1] at hf
          unfold InR at hf; omega
      have HF := Lib.hid hf
      have HQ := Lib.hid hq
      clear hf hq
      have E1 := parts_mod (x := A) h0
      have E2 := parts_rem (x := A) h0
      have E3 := sum_back (y := B) HA.out
      have E4 := sum_back' (y := B) HA.out
      have S1 := rest_sign (x := A) h0
      have S2 := tmod_sign (x := A) (y := B)
      clear h0
      by_cases hr : rest A B = 0
      · have E3' : wrap64 (wrap64 (flo A B * B)) = A := by rw [hr, Int.add_zero] at E3; exact E3
        clear E1 E3 S1
        by_cases ht : A.tmod B = 0
        · have E4' : wrap64 (wrap64 (A.tdiv B * B)) = A := by rw [ht, Int.add_zero] at E4; exact E4
          clear E2 E4 S2
          go_enter Tryd.func5, Tryd.ntmps5
          go_wp2_with (first
            | (go_at_call 16; (with_reducible refine (awake_any _ htab).mono ?_); rintro e w' ⟨rfl, hb0⟩)
            | (go_at_call 17; (with_reducible refine (of_in _ _ HA.out).mono ?_); rintro e w' ⟨rfl, rfl⟩)
            | (go_at_call 17; (with_reducible refine (of_in _ _ HB.out).mono ?_); rintro e w' ⟨rfl, rfl⟩)
            | (go_at_call 28; (with_reducible refine (mod_in _ _ _ HA.out HB.out H0.out HM.out).mono ?_); rintro e w' ⟨rfl, hb2⟩)
            | (go_at_call 30; (with_reducible refine (rem_in _ _ _ HA.out HB.out H0.out HR.out).mono ?_); rintro e w' ⟨rfl, hb4⟩)
            | (go_at_call 19; (with_reducible refine (value_wd _ _ HM.out).mono ?_); rintro e w' ⟨rfl, rfl⟩)
            | (go_at_call 19; (with_reducible refine (value_wd 0 _ inR0).mono ?_); rintro e w' ⟨rfl, rfl⟩)
            | (go_at_call 19; (with_reducible refine (value_wd _ _ HR.out).mono ?_); rintro e w' ⟨rfl, rfl⟩)
            | (go_at_call 27; (with_reducible refine (floor_in _ _ _ HA.out HB.out H0.out HF.out).mono ?_); rintro e w' ⟨rfl, hb1⟩)
            | (go_at_call 29; (with_reducible refine (quo_in _ _ _ HA.out HB.out H0.out HQ.out).mono ?_); rintro e w' ⟨rfl, hb3⟩)
            | (go_at_call 19; (with_reducible refine (value_wd _ _ HF.out).mono ?_); rintro e w' ⟨rfl, rfl⟩)
            | (go_at_call 19; (with_reducible refine (value_wd _ _ HQ.out).mono ?_); rintro e w' ⟨rfl, rfl⟩))
          all_goals go_ret
          all_goals exact ⟨by first | rfl | simp, below_two (below_two (below_two (below_two hb0 hb1 rfl) hb2 rfl) hb3 rfl) hb4 rfl⟩
        · have T : A.tmod B < 0 ↔ A < 0 := by omega
          clear S2
          go_enter Tryd.func5, Tryd.ntmps5
          go_wp2_with (first
            | (go_at_call 16; (with_reducible refine (awake_any _ htab).mono ?_); rintro e w' ⟨rfl, hb0⟩)
            | (go_at_call 17; (with_reducible refine (of_in _ _ HA.out).mono ?_); rintro e w' ⟨rfl, rfl⟩)
            | (go_at_call 17; (with_reducible refine (of_in _ _ HB.out).mono ?_); rintro e w' ⟨rfl, rfl⟩)
            | (go_at_call 28; (with_reducible refine (mod_in _ _ _ HA.out HB.out H0.out HM.out).mono ?_); rintro e w' ⟨rfl, hb2⟩)
            | (go_at_call 30; (with_reducible refine (rem_in _ _ _ HA.out HB.out H0.out HR.out).mono ?_); rintro e w' ⟨rfl, hb4⟩)
            | (go_at_call 19; (with_reducible refine (value_wd _ _ HM.out).mono ?_); rintro e w' ⟨rfl, rfl⟩)
            | (go_at_call 19; (with_reducible refine (value_wd 0 _ inR0).mono ?_); rintro e w' ⟨rfl, rfl⟩)
            | (go_at_call 19; (with_reducible refine (value_wd _ _ HR.out).mono ?_); rintro e w' ⟨rfl, rfl⟩)
            | (go_at_call 27; (with_reducible refine (floor_in _ _ _ HA.out HB.out H0.out HF.out).mono ?_); rintro e w' ⟨rfl, hb1⟩)
            | (go_at_call 29; (with_reducible refine (quo_in _ _ _ HA.out HB.out H0.out HQ.out).mono ?_); rintro e w' ⟨rfl, hb3⟩)
            | (go_at_call 19; (with_reducible refine (value_wd _ _ HF.out).mono ?_); rintro e w' ⟨rfl, rfl⟩)
            | (go_at_call 19; (with_reducible refine (value_wd _ _ HQ.out).mono ?_); rintro e w' ⟨rfl, rfl⟩))
          all_goals go_ret
          all_goals exact ⟨by first | rfl | simp, below_two (below_two (below_two (below_two hb0 hb1 rfl) hb2 rfl) hb3 rfl) hb4 rfl⟩
      · have S : rest A B < 0 ↔ B < 0 := by
          rcases S1 with h | h
          · exact absurd h hr
          · simpa using h
        clear S1
        by_cases ht : A.tmod B = 0
        · have E4' : wrap64 (wrap64 (A.tdiv B * B)) = A := by rw [ht, Int.add_zero] at E4; exact E4
          clear E2 E4 S2
          go_enter Tryd.func5, Tryd.ntmps5
          go_wp2_with (first
            | (go_at_call 16; (with_reducible refine (awake_any _ htab).mono ?_); rintro e w' ⟨rfl, hb0⟩)
            | (go_at_call 17; (with_reducible refine (of_in _ _ HA.out).mono ?_); rintro e w' ⟨rfl, rfl⟩)
            | (go_at_call 17; (with_reducible refine (of_in _ _ HB.out).mono ?_); rintro e w' ⟨rfl, rfl⟩)
            | (go_at_call 28; (with_reducible refine (mod_in _ _ _ HA.out HB.out H0.out HM.out).mono ?_); rintro e w' ⟨rfl, hb2⟩)
            | (go_at_call 30; (with_reducible refine (rem_in _ _ _ HA.out HB.out H0.out HR.out).mono ?_); rintro e w' ⟨rfl, hb4⟩)
            | (go_at_call 19; (with_reducible refine (value_wd _ _ HM.out).mono ?_); rintro e w' ⟨rfl, rfl⟩)
            | (go_at_call 19; (with_reducible refine (value_wd 0 _ inR0).mono ?_); rintro e w' ⟨rfl, rfl⟩)
            | (go_at_call 19; (with_reducible refine (value_wd _ _ HR.out).mono ?_); rintro e w' ⟨rfl, rfl⟩)
            | (go_at_call 27; (with_reducible refine (floor_in _ _ _ HA.out HB.out H0.out HF.out).mono ?_); rintro e w' ⟨rfl, hb1⟩)
            | (go_at_call 29; (with_reducible refine (quo_in _ _ _ HA.out HB.out H0.out HQ.out).mono ?_); rintro e w' ⟨rfl, hb3⟩)
            | (go_at_call 19; (with_reducible refine (value_wd _ _ HF.out).mono ?_); rintro e w' ⟨rfl, rfl⟩)
            | (go_at_call 19; (with_reducible refine (value_wd _ _ HQ.out).mono ?_); rintro e w' ⟨rfl, rfl⟩))
          all_goals go_ret
          all_goals exact ⟨by first | rfl | simp, below_two (below_two (below_two (below_two hb0 hb1 rfl) hb2 rfl) hb3 rfl) hb4 rfl⟩
        · have T : A.tmod B < 0 ↔ A < 0 := by omega
          clear S2
          go_enter Tryd.func5, Tryd.ntmps5
          go_wp2_with (first
            | (go_at_call 16; (with_reducible refine (awake_any _ htab).mono ?_); rintro e w' ⟨rfl, hb0⟩)
            | (go_at_call 17; (with_reducible refine (of_in _ _ HA.out).mono ?_); rintro e w' ⟨rfl, rfl⟩)
            | (go_at_call 17; (with_reducible refine (of_in _ _ HB.out).mono ?_); rintro e w' ⟨rfl, rfl⟩)
            | (go_at_call 28; (with_reducible refine (mod_in _ _ _ HA.out HB.out H0.out HM.out).mono ?_); rintro e w' ⟨rfl, hb2⟩)
            | (go_at_call 30; (with_reducible refine (rem_in _ _ _ HA.out HB.out H0.out HR.out).mono ?_); rintro e w' ⟨rfl, hb4⟩)
            | (go_at_call 19; (with_reducible refine (value_wd _ _ HM.out).mono ?_); rintro e w' ⟨rfl, rfl⟩)
            | (go_at_call 19; (with_reducible refine (value_wd 0 _ inR0).mono ?_); rintro e w' ⟨rfl, rfl⟩)
            | (go_at_call 19; (with_reducible refine (value_wd _ _ HR.out).mono ?_); rintro e w' ⟨rfl, rfl⟩)
            | (go_at_call 27; (with_reducible refine (floor_in _ _ _ HA.out HB.out H0.out HF.out).mono ?_); rintro e w' ⟨rfl, hb1⟩)
            | (go_at_call 29; (with_reducible refine (quo_in _ _ _ HA.out HB.out H0.out HQ.out).mono ?_); rintro e w' ⟨rfl, hb3⟩)
            | (go_at_call 19; (with_reducible refine (value_wd _ _ HF.out).mono ?_); rintro e w' ⟨rfl, rfl⟩)
            | (go_at_call 19; (with_reducible refine (value_wd _ _ HQ.out).mono ?_); rintro e w' ⟨rfl, rfl⟩))
          all_goals go_ret
          all_goals exact ⟨by first | rfl | simp, below_two (below_two (below_two (below_two hb0 hb1 rfl) hb2 rfl) hb3 rfl) hb4 rfl⟩
    · obtain ⟨rfl, rfl, ef⟩ := flo_out HA.out h0 hf
      have HF := Lib.hid hf
      have HQ := Lib.hid (show ¬ InR ((-4611686018427387904 : Int).tdiv (-1)) by
        have : (-4611686018427387904 : Int).tdiv (-1) = 4611686018427387904 := by decide
        rw [this]; unfold InR; omega)
      have hr : rest (-4611686018427387904) (-1) = 0 := by
        have := flo_mul (x := -4611686018427387904) (y := -1)
        rw [ef] at this; omega
      have ht : (-4611686018427387904 : Int).tmod (-1) = 0 := by decide
      clear hf ef h0
      go_enter Tryd.func5, Tryd.ntmps5
      go_wp2_with (first
        | (go_at_call 16; (with_reducible refine (awake_any _ htab).mono ?_); rintro e w' ⟨rfl, hb0⟩)
        | (go_at_call 17; (with_reducible refine (of_in _ _ HA.out).mono ?_); rintro e w' ⟨rfl, rfl⟩)
        | (go_at_call 17; (with_reducible refine (of_in _ _ HB.out).mono ?_); rintro e w' ⟨rfl, rfl⟩)
        | (go_at_call 28; (with_reducible refine (mod_in _ _ _ HA.out HB.out H0.out HM.out).mono ?_); rintro e w' ⟨rfl, hb2⟩)
        | (go_at_call 30; (with_reducible refine (rem_in _ _ _ HA.out HB.out H0.out HR.out).mono ?_); rintro e w' ⟨rfl, hb4⟩)
        | (go_at_call 19; (with_reducible refine (value_wd _ _ HM.out).mono ?_); rintro e w' ⟨rfl, rfl⟩)
        | (go_at_call 19; (with_reducible refine (value_wd 0 _ inR0).mono ?_); rintro e w' ⟨rfl, rfl⟩)
        | (go_at_call 19; (with_reducible refine (value_wd _ _ HR.out).mono ?_); rintro e w' ⟨rfl, rfl⟩)
        | (go_at_call 27; (with_reducible refine (floor_out _ _ _ HA.out HB.out H0.out HF.out).mono ?_); rintro e w' ⟨rfl, hb1⟩)
        | (go_at_call 29; (with_reducible refine (quo_out _ _ _ HA.out HB.out H0.out HQ.out).mono ?_); rintro e w' ⟨rfl, hb3⟩))
      all_goals go_ret
      all_goals exact ⟨by first | rfl | simp, below_two (below_two (below_two (below_two hb0 hb1 rfl) hb2 rfl) hb3 rfl) hb4 rfl⟩
end Go.Proofs.YtdcehjdngjafoaaDoor.Fl
