/-
  Contracts of package small, second part: division, products, shifts.
-/
import Derived.Test.YtdcehjdngjafoaaDoorSmall
namespace Go.Proofs.YtdcehjdngjafoaaDoor.Fl
open Go.RowKit

/-- the quotient, as the walk may write it -/
theorem quo_w1 {x y q : Int} (hx : InR x) (h : q = x.tdiv y) : wrap64 q = x.tdiv y := by rw [h]; exact tdiv_wrap hx
theorem quo_pos {x y : Int} (h0 : 0 ≤ x) : x / y = x.tdiv y := (Int.tdiv_eq_ediv_of_nonneg h0).symm
theorem rem_pos {x y : Int} (h0 : 0 ≤ x) : x % y = x.tmod y := (Int.tmod_eq_emod_of_nonneg h0).symm
def Close (q z : Int) : Prop := q = z
theorem quo_close {x y q : Int} (hx : InR x) (h : q = x.tdiv y ∨ q = wrap64 (x.tdiv y) ∨ q = wrap64 (wrap64 (x.tdiv y)) ∨ (0 ≤ x ∧ (q = x / y ∨ q = wrap64 (x / y) ∨ q = wrap64 (wrap64 (x / y))))) : q = x.tdiv y := by
  have hw := tdiv_wrap (y := y) hx
  rcases h with h | h | h | ⟨h0, h⟩
  · exact h
  · rw [h, hw]
  · rw [h, hw, hw]
  · rw [quo_pos h0] at h
    rcases h with h | h | h
    · exact h
    · rw [h, hw]
    · rw [h, hw, hw]
theorem quo1_close {x y q : Int} (hx : InR x) (h : q = x.tdiv y - 1 ∨ q = wrap64 (x.tdiv y) - 1 ∨ q = wrap64 (x.tdiv y - 1) ∨ q = wrap64 (wrap64 (x.tdiv y) - 1) ∨ (0 ≤ x ∧ (q = x / y - 1 ∨ q = wrap64 (x / y) - 1 ∨ q = wrap64 (x / y - 1) ∨ q = wrap64 (wrap64 (x / y) - 1)))) : q = x.tdiv y - 1 := by
  have hw := tdiv_wrap (y := y) hx
  have hb := tdiv_bd (y := y) hx
  have h1 : wrap64 (x.tdiv y - 1) = x.tdiv y - 1 := wrap64_id (by omega) (by omega)
  rcases h with h | h | h | h | ⟨h0, h⟩
  · exact h
  · rw [h, hw]
  · rw [h, h1]
  · rw [h, hw, h1]
  · rw [quo_pos h0] at h
    rcases h with h | h | h | h
    · exact h
    · rw [h, hw]
    · rw [h, h1]
    · rw [h, hw, h1]


set_option maxHeartbeats 400000 in
theorem fl_any (x y : Int) (w : World) (hx : InR x) (h0 : y ≠ 0) :
    Calls Tryd.prog 79 #[.int .i64 x, .int .i64 y] w fun e w' => e = .returned (.int .i64 (flo x y)) ∧ w = w' := by
  have hz : (y == 0) = false := by simpa using h0
  have X0 := hx.1
  have X1 := hx.2
  have HX := Lib.hid hx
  clear hx
  by_cases hm : x.tmod y = 0
  · have E := Lib.hid (show flo x y = x.tdiv y by unfold flo; rw [if_neg (by simp [hm])])
    have hb : (x.tmod y != 0) = false := by simp [hm]
    by_cases hx0 : x < 0
    · clear hm
      go_enter Tryd.func79, Tryd.ntmps79
      go_wp2
      all_goals go_ret
      all_goals exact ⟨ret_i64 (by rw [E.out]; exact quo_close HX.out (by first | exact .inl rfl | exact .inr (.inl rfl) | exact .inr (.inr (.inl rfl)))), rfl⟩
    · have hb' : (x % y != 0) = false := by rw [rem_pos (by omega)]; exact hb
      clear hm hb
      have hp : 0 ≤ x := by omega
      have HP := Lib.hid hp
      go_enter Tryd.func79, Tryd.ntmps79
      go_wp2
      all_goals go_ret
      all_goals exact ⟨ret_i64 (by rw [E.out]; exact quo_close HX.out (by first | exact .inl rfl | exact .inr (.inl rfl) | exact .inr (.inr (.inl rfl)) | exact .inr (.inr (.inr ⟨HP.out, .inl rfl⟩)) | exact .inr (.inr (.inr ⟨HP.out, .inr (.inl rfl)⟩)) | exact .inr (.inr (.inr ⟨HP.out, .inr (.inr rfl)⟩)))), rfl⟩
  · have hb : (x.tmod y != 0) = true := by simpa using hm
    by_cases hx0 : x < 0
    · by_cases hy0 : y < 0
      · have E := Lib.hid (show flo x y = x.tdiv y by unfold flo; rw [if_neg (by simp [hx0, hy0])])
        clear hm
        go_enter Tryd.func79, Tryd.ntmps79
        go_wp2
        all_goals go_ret
        all_goals exact ⟨ret_i64 (by rw [E.out]; exact quo_close HX.out (by first | exact .inl rfl | exact .inr (.inl rfl) | exact .inr (.inr (.inl rfl)))), rfl⟩
      · have E := Lib.hid (show flo x y = x.tdiv y - 1 by unfold flo; rw [if_pos (by simp [hx0, hy0, hm])])
        clear hm
        go_enter Tryd.func79, Tryd.ntmps79
        go_wp2
        all_goals go_ret
        all_goals exact ⟨ret_i64 (by rw [E.out]; exact quo1_close HX.out (by first | exact .inl rfl | exact .inr (.inl rfl) | exact .inr (.inr (.inl rfl)) | exact .inr (.inr (.inr (.inl rfl))))), rfl⟩
    · have hb' : (x % y != 0) = true := by rw [rem_pos (by omega)]; exact hb
      have hp : 0 ≤ x := by omega
      have HP := Lib.hid hp
      by_cases hy0 : y < 0
      · have E := Lib.hid (show flo x y = x.tdiv y - 1 by unfold flo; rw [if_pos (by simp [hx0, hy0, hm])])
        clear hm hb
        go_enter Tryd.func79, Tryd.ntmps79
        go_wp2
        all_goals go_ret
        all_goals exact ⟨ret_i64 (by rw [E.out]; exact quo1_close HX.out (by first | exact .inl rfl | exact .inr (.inl rfl) | exact .inr (.inr (.inl rfl)) | exact .inr (.inr (.inr (.inl rfl))) | exact .inr (.inr (.inr (.inr ⟨HP.out, .inl rfl⟩))) | exact .inr (.inr (.inr (.inr ⟨HP.out, .inr (.inl rfl)⟩))) | exact .inr (.inr (.inr (.inr ⟨HP.out, .inr (.inr (.inl rfl))⟩))) | exact .inr (.inr (.inr (.inr ⟨HP.out, .inr (.inr (.inr rfl))⟩))))), rfl⟩
      · have E := Lib.hid (show flo x y = x.tdiv y by unfold flo; rw [if_neg (by simp [hx0, hy0])])
        have hy1 : 1 ≤ y := by omega
        clear hm hb
        go_enter Tryd.func79, Tryd.ntmps79
        go_wp2
        all_goals go_ret
        all_goals exact ⟨ret_i64 (by rw [E.out]; exact quo_close HX.out (by first | exact .inl rfl | exact .inr (.inl rfl) | exact .inr (.inr (.inl rfl)) | exact .inr (.inr (.inr ⟨HP.out, .inl rfl⟩)) | exact .inr (.inr (.inr ⟨HP.out, .inr (.inl rfl)⟩)) | exact .inr (.inr (.inr ⟨HP.out, .inr (.inr rfl)⟩)))), rfl⟩

theorem ret_res {q z : Int} (h : q = z) : Ending.returned (.tuple #[.int .u64 (resW q), .int .i64 (resE q)]) = .returned (.tuple #[.int .u64 (resW z), .int .i64 (resE z)]) := by rw [h]
theorem rest_close {x y : Int} (hx : InR x) (hy : InR y) (h0 : y ≠ 0) : wrap64 (x - wrap64 (flo x y * y)) = rest x y := by
  have h := rest_inR hx hy h0
  unfold rest at *
  generalize flo x y * y = p at *
  unfold InR at h
  unfold wrap64
  omega
theorem rem_close {x y q : Int} (h : q = x.tmod y ∨ (0 ≤ x ∧ q = x % y)) : q = x.tmod y := by
  rcases h with h | ⟨h0, h⟩
  · exact h
  · rw [h, rem_pos h0]


set_option maxHeartbeats 400000 in
theorem floor_zero (a b : Int) (w : World) (ha : IsW a) (hb : IsW b) (ka : a % 2 = 1) (kb : b % 2 = 1) (h0 : val b = 0) :
    Calls Tryd.prog 27 #[.int .u64 a, .int .u64 b] w fun e w' => e = .returned (.tuple #[.int .u64 0, .int .i64 1]) ∧ Below w.heap.size w w' := by
  have Ka := Lib.hid ka
  have Kb := Lib.hid kb
  clear ka kb
  have xa := (val_inR ha).1
  have ya := (val_inR ha).2
  have hz : (val b == 0) = true := by simp [h0]
  clear h0
  go_enter Tryd.func27, Tryd.ntmps27
  go_wp2_with (first | (go_at_call 21; refine (is_yes _ _ (by assumption) (by first | exact Ka.out | exact Kb.out)).mono ?_; rintro e w' ⟨rfl, rfl⟩) | (go_at_call 73; refine (number_any _ _ (by assumption)).mono ?_; rintro e w' ⟨rfl, rfl⟩) | go_in)
  go_ret2
  exact ⟨rfl, by first | exact Below.refl _ _ | exact below_alloc1 _ _ | exact below_alloc2 _ _ _⟩

set_option maxHeartbeats 400000 in
theorem floor_any (a b : Int) (w : World) (ha : IsW a) (hb : IsW b) (ka : a % 2 = 1) (kb : b % 2 = 1) (h0 : val b ≠ 0) :
    Calls Tryd.prog 27 #[.int .u64 a, .int .u64 b] w fun e w' => e = .returned (.tuple #[.int .u64 (resW (flo (val a) (val b))), .int .i64 (resE (flo (val a) (val b)))]) ∧ Below w.heap.size w w' := by
  have Ka := Lib.hid ka
  have Kb := Lib.hid kb
  clear ka kb
  have HV := Lib.hid (val_inR ha)
  have HW := Lib.hid (val_inR hb)
  have xa := (val_inR ha).1
  have ya := (val_inR ha).2
  have xb := (val_inR hb).1
  have yb := (val_inR hb).2
  have H0 := Lib.hid h0
  have hz : (val b == 0) = false := by simpa using h0
  clear h0
  go_enter Tryd.func27, Tryd.ntmps27
  go_wp2_with (first | (go_at_call 21; refine (is_yes _ _ (by assumption) (by first | exact Ka.out | exact Kb.out)).mono ?_; rintro e w' ⟨rfl, rfl⟩) | (go_at_call 73; refine (number_any _ _ (by assumption)).mono ?_; rintro e w' ⟨rfl, rfl⟩) | (go_at_call 17; refine (of_any _ _).mono ?_; rintro e w' ⟨rfl, rfl⟩) | (go_at_call 79; refine (fl_any _ _ _ HV.out (H0.out)).mono ?_; rintro e w' ⟨rfl, rfl⟩) | go_in)
  go_ret2
  exact ⟨rfl, by first | exact Below.refl _ _ | exact below_alloc1 _ _ | exact below_alloc2 _ _ _⟩

set_option maxHeartbeats 400000 in
theorem mod_zero (a b : Int) (w : World) (ha : IsW a) (hb : IsW b) (ka : a % 2 = 1) (kb : b % 2 = 1) (h0 : val b = 0) :
    Calls Tryd.prog 28 #[.int .u64 a, .int .u64 b] w fun e w' => e = .returned (.tuple #[.int .u64 0, .int .i64 1]) ∧ Below w.heap.size w w' := by
  have Ka := Lib.hid ka
  have Kb := Lib.hid kb
  clear ka kb
  have xa := (val_inR ha).1
  have ya := (val_inR ha).2
  have hz : (val b == 0) = true := by simp [h0]
  clear h0
  go_enter Tryd.func28, Tryd.ntmps28
  go_wp2_with (first | (go_at_call 21; refine (is_yes _ _ (by assumption) (by first | exact Ka.out | exact Kb.out)).mono ?_; rintro e w' ⟨rfl, rfl⟩) | (go_at_call 73; refine (number_any _ _ (by assumption)).mono ?_; rintro e w' ⟨rfl, rfl⟩) | go_in)
  go_ret2
  exact ⟨rfl, by first | exact Below.refl _ _ | exact below_alloc1 _ _ | exact below_alloc2 _ _ _⟩

set_option maxHeartbeats 400000 in
theorem mod_any (a b : Int) (w : World) (ha : IsW a) (hb : IsW b) (ka : a % 2 = 1) (kb : b % 2 = 1) (h0 : val b ≠ 0) :
    Calls Tryd.prog 28 #[.int .u64 a, .int .u64 b] w fun e w' => e = .returned (.tuple #[.int .u64 (resW (rest (val a) (val b))), .int .i64 (resE (rest (val a) (val b)))]) ∧ Below w.heap.size w w' := by
  have Ka := Lib.hid ka
  have Kb := Lib.hid kb
  clear ka kb
  have HV := Lib.hid (val_inR ha)
  have HW := Lib.hid (val_inR hb)
  have xa := (val_inR ha).1
  have ya := (val_inR ha).2
  have xb := (val_inR hb).1
  have yb := (val_inR hb).2
  have H0 := Lib.hid h0
  have hz : (val b == 0) = false := by simpa using h0
  clear h0
  go_enter Tryd.func28, Tryd.ntmps28
  go_wp2_with (first | (go_at_call 21; refine (is_yes _ _ (by assumption) (by first | exact Ka.out | exact Kb.out)).mono ?_; rintro e w' ⟨rfl, rfl⟩) | (go_at_call 73; refine (number_any _ _ (by assumption)).mono ?_; rintro e w' ⟨rfl, rfl⟩) | (go_at_call 17; refine (of_any _ _).mono ?_; rintro e w' ⟨rfl, rfl⟩) | (go_at_call 79; refine (fl_any _ _ _ HV.out (H0.out)).mono ?_; rintro e w' ⟨rfl, rfl⟩) | go_in)
  go_ret2
  exact ⟨ret_res (rest_close HV.out HW.out H0.out), by first | exact Below.refl _ _ | exact below_alloc1 _ _ | exact below_alloc2 _ _ _⟩

set_option maxHeartbeats 400000 in
theorem quo_zero (a b : Int) (w : World) (ha : IsW a) (hb : IsW b) (ka : a % 2 = 1) (kb : b % 2 = 1) (h0 : val b = 0) :
    Calls Tryd.prog 29 #[.int .u64 a, .int .u64 b] w fun e w' => e = .returned (.tuple #[.int .u64 0, .int .i64 1]) ∧ Below w.heap.size w w' := by
  have Ka := Lib.hid ka
  have Kb := Lib.hid kb
  clear ka kb
  have xa := (val_inR ha).1
  have ya := (val_inR ha).2
  have hz : (val b == 0) = true := by simp [h0]
  clear h0
  go_enter Tryd.func29, Tryd.ntmps29
  go_wp2_with (first | (go_at_call 21; refine (is_yes _ _ (by assumption) (by first | exact Ka.out | exact Kb.out)).mono ?_; rintro e w' ⟨rfl, rfl⟩) | (go_at_call 73; refine (number_any _ _ (by assumption)).mono ?_; rintro e w' ⟨rfl, rfl⟩) | go_in)
  go_ret2
  exact ⟨rfl, by first | exact Below.refl _ _ | exact below_alloc1 _ _ | exact below_alloc2 _ _ _⟩

set_option maxHeartbeats 400000 in
theorem quo_any (a b : Int) (w : World) (ha : IsW a) (hb : IsW b) (ka : a % 2 = 1) (kb : b % 2 = 1) (h0 : val b ≠ 0) :
    Calls Tryd.prog 29 #[.int .u64 a, .int .u64 b] w fun e w' => e = .returned (.tuple #[.int .u64 (resW ((val a).tdiv (val b))), .int .i64 (resE ((val a).tdiv (val b)))]) ∧ Below w.heap.size w w' := by
  have Ka := Lib.hid ka
  have Kb := Lib.hid kb
  clear ka kb
  have HV := Lib.hid (val_inR ha)
  have HW := Lib.hid (val_inR hb)
  have xa := (val_inR ha).1
  have ya := (val_inR ha).2
  have xb := (val_inR hb).1
  have yb := (val_inR hb).2
  have H0 := Lib.hid h0
  have hz : (val b == 0) = false := by simpa using h0
  clear h0
  by_cases hx0 : val a < 0
  · go_enter Tryd.func29, Tryd.ntmps29
    go_wp2_with (first | (go_at_call 21; refine (is_yes _ _ (by assumption) (by first | exact Ka.out | exact Kb.out)).mono ?_; rintro e w' ⟨rfl, rfl⟩) | (go_at_call 73; refine (number_any _ _ (by assumption)).mono ?_; rintro e w' ⟨rfl, rfl⟩) | (go_at_call 17; refine (of_any _ _).mono ?_; rintro e w' ⟨rfl, rfl⟩) | go_in)
    go_ret2
    exact ⟨by exact ret_res (quo_close HV.out (by first | exact .inl rfl | exact .inr (.inl rfl) | exact .inr (.inr (.inl rfl)))), by first | exact Below.refl _ _ | exact below_alloc1 _ _ | exact below_alloc2 _ _ _⟩
  · have hp : 0 ≤ val a := by omega
    have HP := Lib.hid hp
    clear hx0
    by_cases hy0 : 1 ≤ val b
    · go_enter Tryd.func29, Tryd.ntmps29
      go_wp2_with (first | (go_at_call 21; refine (is_yes _ _ (by assumption) (by first | exact Ka.out | exact Kb.out)).mono ?_; rintro e w' ⟨rfl, rfl⟩) | (go_at_call 73; refine (number_any _ _ (by assumption)).mono ?_; rintro e w' ⟨rfl, rfl⟩) | (go_at_call 17; refine (of_any _ _).mono ?_; rintro e w' ⟨rfl, rfl⟩) | go_in)
      go_ret2
      exact ⟨by exact ret_res (quo_close HV.out (by first | exact .inl rfl | exact .inr (.inl rfl) | exact .inr (.inr (.inl rfl)) | exact .inr (.inr (.inr ⟨HP.out, .inl rfl⟩)) | exact .inr (.inr (.inr ⟨HP.out, .inr (.inl rfl)⟩)) | exact .inr (.inr (.inr ⟨HP.out, .inr (.inr rfl)⟩)))), by first | exact Below.refl _ _ | exact below_alloc1 _ _ | exact below_alloc2 _ _ _⟩
    · go_enter Tryd.func29, Tryd.ntmps29
      go_wp2_with (first | (go_at_call 21; refine (is_yes _ _ (by assumption) (by first | exact Ka.out | exact Kb.out)).mono ?_; rintro e w' ⟨rfl, rfl⟩) | (go_at_call 73; refine (number_any _ _ (by assumption)).mono ?_; rintro e w' ⟨rfl, rfl⟩) | (go_at_call 17; refine (of_any _ _).mono ?_; rintro e w' ⟨rfl, rfl⟩) | go_in)
      go_ret2
      exact ⟨by exact ret_res (quo_close HV.out (by first | exact .inl rfl | exact .inr (.inl rfl) | exact .inr (.inr (.inl rfl)) | exact .inr (.inr (.inr ⟨HP.out, .inl rfl⟩)) | exact .inr (.inr (.inr ⟨HP.out, .inr (.inl rfl)⟩)) | exact .inr (.inr (.inr ⟨HP.out, .inr (.inr rfl)⟩)))), by first | exact Below.refl _ _ | exact below_alloc1 _ _ | exact below_alloc2 _ _ _⟩

set_option maxHeartbeats 400000 in
theorem rem_zero (a b : Int) (w : World) (ha : IsW a) (hb : IsW b) (ka : a % 2 = 1) (kb : b % 2 = 1) (h0 : val b = 0) :
    Calls Tryd.prog 30 #[.int .u64 a, .int .u64 b] w fun e w' => e = .returned (.tuple #[.int .u64 0, .int .i64 1]) ∧ Below w.heap.size w w' := by
  have Ka := Lib.hid ka
  have Kb := Lib.hid kb
  clear ka kb
  have xa := (val_inR ha).1
  have ya := (val_inR ha).2
  have hz : (val b == 0) = true := by simp [h0]
  clear h0
  go_enter Tryd.func30, Tryd.ntmps30
  go_wp2_with (first | (go_at_call 21; refine (is_yes _ _ (by assumption) (by first | exact Ka.out | exact Kb.out)).mono ?_; rintro e w' ⟨rfl, rfl⟩) | (go_at_call 73; refine (number_any _ _ (by assumption)).mono ?_; rintro e w' ⟨rfl, rfl⟩) | go_in)
  go_ret2
  exact ⟨rfl, by first | exact Below.refl _ _ | exact below_alloc1 _ _ | exact below_alloc2 _ _ _⟩

set_option maxHeartbeats 400000 in
theorem rem_any (a b : Int) (w : World) (ha : IsW a) (hb : IsW b) (ka : a % 2 = 1) (kb : b % 2 = 1) (h0 : val b ≠ 0) :
    Calls Tryd.prog 30 #[.int .u64 a, .int .u64 b] w fun e w' => e = .returned (.tuple #[.int .u64 (resW ((val a).tmod (val b))), .int .i64 (resE ((val a).tmod (val b)))]) ∧ Below w.heap.size w w' := by
  have Ka := Lib.hid ka
  have Kb := Lib.hid kb
  clear ka kb
  have HV := Lib.hid (val_inR ha)
  have HW := Lib.hid (val_inR hb)
  have xa := (val_inR ha).1
  have ya := (val_inR ha).2
  have xb := (val_inR hb).1
  have yb := (val_inR hb).2
  have H0 := Lib.hid h0
  have hz : (val b == 0) = false := by simpa using h0
  clear h0
  by_cases hx0 : val a < 0
  · go_enter Tryd.func30, Tryd.ntmps30
    go_wp2_with (first | (go_at_call 21; refine (is_yes _ _ (by assumption) (by first | exact Ka.out | exact Kb.out)).mono ?_; rintro e w' ⟨rfl, rfl⟩) | (go_at_call 73; refine (number_any _ _ (by assumption)).mono ?_; rintro e w' ⟨rfl, rfl⟩) | (go_at_call 17; refine (of_any _ _).mono ?_; rintro e w' ⟨rfl, rfl⟩) | go_in)
    go_ret2
    exact ⟨by exact ret_res (rem_close (.inl rfl)), by first | exact Below.refl _ _ | exact below_alloc1 _ _ | exact below_alloc2 _ _ _⟩
  · have hp : 0 ≤ val a := by omega
    have HP := Lib.hid hp
    clear hx0
    by_cases hy0 : 1 ≤ val b
    · go_enter Tryd.func30, Tryd.ntmps30
      go_wp2_with (first | (go_at_call 21; refine (is_yes _ _ (by assumption) (by first | exact Ka.out | exact Kb.out)).mono ?_; rintro e w' ⟨rfl, rfl⟩) | (go_at_call 73; refine (number_any _ _ (by assumption)).mono ?_; rintro e w' ⟨rfl, rfl⟩) | (go_at_call 17; refine (of_any _ _).mono ?_; rintro e w' ⟨rfl, rfl⟩) | go_in)
      go_ret2
      exact ⟨by exact ret_res (rem_close (by first | exact .inl rfl | exact .inr ⟨HP.out, rfl⟩)), by first | exact Below.refl _ _ | exact below_alloc1 _ _ | exact below_alloc2 _ _ _⟩
    · go_enter Tryd.func30, Tryd.ntmps30
      go_wp2_with (first | (go_at_call 21; refine (is_yes _ _ (by assumption) (by first | exact Ka.out | exact Kb.out)).mono ?_; rintro e w' ⟨rfl, rfl⟩) | (go_at_call 73; refine (number_any _ _ (by assumption)).mono ?_; rintro e w' ⟨rfl, rfl⟩) | (go_at_call 17; refine (of_any _ _).mono ?_; rintro e w' ⟨rfl, rfl⟩) | go_in)
      go_ret2
      exact ⟨by exact ret_res (rem_close (by first | exact .inl rfl | exact .inr ⟨HP.out, rfl⟩)), by first | exact Below.refl _ _ | exact below_alloc1 _ _ | exact below_alloc2 _ _ _⟩
end Go.Proofs.YtdcehjdngjafoaaDoor.Fl
