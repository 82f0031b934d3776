/-
  Contracts of the document's own answers for layer 1: Do, operation by operation.
-/
import Derived.Test.YtmlfooofgedmaaaDoorRefC
namespace Go.Proofs.YtmlfooofgedmaaaDoor.Fl
open Go.RowKit

def resN (z : Int) : Int := if InR z then z else 0
theorem ret_yes {n z : Int} (h : InR z) (e : n = z) : Ending.returned (.tuple #[.int .i64 n, .int .i64 0]) = .returned (.tuple #[.int .i64 (resN z), .int .i64 (resE z)]) := by rw [e, resE_in h]; unfold resN; rw [if_pos h]
theorem ret_no {z : Int} (h : ¬ InR z) : Ending.returned (.tuple #[.int .i64 0, .int .i64 9]) = .returned (.tuple #[.int .i64 (resN z), .int .i64 (resE z)]) := by rw [resE_out h]; unfold resN; rw [if_neg h]
theorem rest_w {x y : Int} (hx : InR x) (hy : InR y) (h0 : y ≠ 0) : wrap64 (x - wrap64 (flo x y * y)) = rest x y := rest_close hx hy h0
theorem tmod_w {x y : Int} (hx : InR x) : wrap64 (x - x.tdiv y * y) = x.tmod y := by
  have e := tdiv_tmod x y
  have h := tmod_inR (y := y) hx
  rw [Int.mul_comm] at e
  rw [show x - x.tdiv y * y = x.tmod y by omega]
  unfold InR at h; exact wrap64_id (by omega) (by omega)
attribute [irreducible] resN

set_option maxHeartbeats 400000 in
theorem rdo_add (x y : Int) (w : World) (hx : InR x) (hy : InR y) :
    Calls Tryd.prog 32 #[.int .i64 0, .int .i64 x, .int .i64 y] w fun e w' => e = .returned (.tuple #[.int .i64 (resN (x + y)), .int .i64 (resE (x + y))]) ∧ w = w' := by
  have HX := Lib.hid hx
  have HY := Lib.hid hy
  have x0 := hx.1
  have x1 := hx.2
  have y0 := hy.1
  have y1 := hy.2
  clear hx hy
  by_cases hi : InR (x + y)
  · have HI := Lib.hid hi
    clear hi
    go_enter Tryd.func32, Tryd.ntmps32
    go_wp2_with (first | (go_at_call 55; (with_reducible refine (rnumber_yes _ _ HI.out).mono ?_); rintro e w' ⟨rfl, rfl⟩))
    go_ret2
    exact ⟨ret_yes HI.out rfl, rfl⟩
  · have HI := Lib.hid hi
    clear hi
    go_enter Tryd.func32, Tryd.ntmps32
    go_wp2_with (first | (go_at_call 55; (with_reducible refine (rnumber_no _ _ HI.out).mono ?_); rintro e w' ⟨rfl, rfl⟩))
    go_ret2
    exact ⟨ret_no HI.out, rfl⟩

set_option maxHeartbeats 400000 in
theorem rdo_sub (x y : Int) (w : World) (hx : InR x) (hy : InR y) :
    Calls Tryd.prog 32 #[.int .i64 1, .int .i64 x, .int .i64 y] w fun e w' => e = .returned (.tuple #[.int .i64 (resN (x - y)), .int .i64 (resE (x - y))]) ∧ w = w' := by
  have HX := Lib.hid hx
  have HY := Lib.hid hy
  have x0 := hx.1
  have x1 := hx.2
  have y0 := hy.1
  have y1 := hy.2
  clear hx hy
  by_cases hi : InR (x - y)
  · have HI := Lib.hid hi
    clear hi
    go_enter Tryd.func32, Tryd.ntmps32
    go_wp2_with (first | (go_at_call 55; (with_reducible refine (rnumber_yes _ _ HI.out).mono ?_); rintro e w' ⟨rfl, rfl⟩))
    go_ret2
    exact ⟨ret_yes HI.out rfl, rfl⟩
  · have HI := Lib.hid hi
    clear hi
    go_enter Tryd.func32, Tryd.ntmps32
    go_wp2_with (first | (go_at_call 55; (with_reducible refine (rnumber_no _ _ HI.out).mono ?_); rintro e w' ⟨rfl, rfl⟩))
    go_ret2
    exact ⟨ret_no HI.out, rfl⟩

set_option maxHeartbeats 400000 in
theorem rdo_mul (x y : Int) (w : World) (hx : InR x) (hy : InR y) :
    Calls Tryd.prog 32 #[.int .i64 2, .int .i64 x, .int .i64 y] w fun e w' => e = .returned (.tuple #[.int .i64 (resN (x * y)), .int .i64 (resE (x * y))]) ∧ w = w' := by
  have HX := Lib.hid hx
  have HY := Lib.hid hy
  have x0 := hx.1
  have x1 := hx.2
  have y0 := hy.1
  have y1 := hy.2
  clear hx hy
  by_cases hi : InR (x * y)
  · have HI := Lib.hid hi
    clear hi
    go_enter Tryd.func32, Tryd.ntmps32
    go_wp2_with fail
    refine (times_any _ _ _ HX.out HY.out).mono ?_
    rintro e w' ⟨n, rfl, hn, rfl⟩
    rw [hn HI.out, decide_eq_true HI.out]
    clear hn
    go_wp2_with (first | (go_at_call 55; (with_reducible refine (rnumber_yes _ _ HI.out).mono ?_); rintro e w' ⟨rfl, rfl⟩))
    go_ret2
    exact ⟨ret_yes HI.out rfl, rfl⟩
  · have HI := Lib.hid hi
    clear hi
    go_enter Tryd.func32, Tryd.ntmps32
    go_wp2_with fail
    refine (times_any _ _ _ HX.out HY.out).mono ?_
    rintro e w' ⟨n, rfl, hn, rfl⟩
    rw [decide_eq_false HI.out]
    clear hn
    go_wp2_with fail
    go_ret2
    exact ⟨ret_no HI.out, rfl⟩

set_option maxHeartbeats 400000 in
theorem rdo_floor (x y : Int) (w : World) (hx : InR x) (hy : InR y) (h0 : y ≠ 0) :
    Calls Tryd.prog 32 #[.int .i64 3, .int .i64 x, .int .i64 y] w fun e w' => e = .returned (.tuple #[.int .i64 (resN (flo x y)), .int .i64 (resE (flo x y))]) ∧ w = w' := by
  have HX := Lib.hid hx
  have HY := Lib.hid hy
  have x0 := hx.1
  have x1 := hx.2
  have y0 := hy.1
  have y1 := hy.2
  clear hx hy
  have H0 := Lib.hid h0
  have hz : (y == 0) = false := by simpa using h0
  clear h0
  by_cases hi : InR (flo x y)
  · have HI := Lib.hid hi
    clear hi
    go_enter Tryd.func32, Tryd.ntmps32
    go_wp2_with (first | (go_at_call 55; (with_reducible refine (rnumber_yes _ _ HI.out).mono ?_); rintro e w' ⟨rfl, rfl⟩) | (go_at_call 53; (with_reducible refine (rfloor_any _ _ _ HX.out H0.out).mono ?_); rintro e w' ⟨rfl, rfl⟩))
    go_ret2
    exact ⟨ret_yes HI.out rfl, rfl⟩
  · have HI := Lib.hid hi
    clear hi
    go_enter Tryd.func32, Tryd.ntmps32
    go_wp2_with (first | (go_at_call 55; (with_reducible refine (rnumber_no _ _ HI.out).mono ?_); rintro e w' ⟨rfl, rfl⟩) | (go_at_call 53; (with_reducible refine (rfloor_any _ _ _ HX.out H0.out).mono ?_); rintro e w' ⟨rfl, rfl⟩))
    go_ret2
    exact ⟨ret_no HI.out, rfl⟩

set_option maxHeartbeats 400000 in
theorem rdo_mod (x y : Int) (w : World) (hx : InR x) (hy : InR y) (h0 : y ≠ 0) :
    Calls Tryd.prog 32 #[.int .i64 4, .int .i64 x, .int .i64 y] w fun e w' => e = .returned (.tuple #[.int .i64 (resN (rest x y)), .int .i64 (resE (rest x y))]) ∧ w = w' := by
  have HX := Lib.hid hx
  have HY := Lib.hid hy
  have x0 := hx.1
  have x1 := hx.2
  have y0 := hy.1
  have y1 := hy.2
  clear hx hy
  have H0 := Lib.hid h0
  have hz : (y == 0) = false := by simpa using h0
  clear h0
  have E := rest_w HX.out HY.out H0.out
  by_cases hi : InR (rest x y)
  · have HI := Lib.hid hi
    clear hi
    go_enter Tryd.func32, Tryd.ntmps32
    go_wp2_with (first | (go_at_call 55; (with_reducible refine (rnumber_yes _ _ HI.out).mono ?_); rintro e w' ⟨rfl, rfl⟩) | (go_at_call 53; (with_reducible refine (rfloor_any _ _ _ HX.out H0.out).mono ?_); rintro e w' ⟨rfl, rfl⟩))
    go_ret2
    exact ⟨ret_yes HI.out rfl, rfl⟩
  · have HI := Lib.hid hi
    clear hi
    go_enter Tryd.func32, Tryd.ntmps32
    go_wp2_with (first | (go_at_call 55; (with_reducible refine (rnumber_no _ _ HI.out).mono ?_); rintro e w' ⟨rfl, rfl⟩) | (go_at_call 53; (with_reducible refine (rfloor_any _ _ _ HX.out H0.out).mono ?_); rintro e w' ⟨rfl, rfl⟩))
    go_ret2
    exact ⟨ret_no HI.out, rfl⟩

set_option maxHeartbeats 400000 in
theorem rdo_quo (x y : Int) (w : World) (hx : InR x) (hy : InR y) (h0 : y ≠ 0) :
    Calls Tryd.prog 32 #[.int .i64 5, .int .i64 x, .int .i64 y] w fun e w' => e = .returned (.tuple #[.int .i64 (resN (x.tdiv y)), .int .i64 (resE (x.tdiv y))]) ∧ w = w' := by
  have HX := Lib.hid hx
  have HY := Lib.hid hy
  have x0 := hx.1
  have x1 := hx.2
  have y0 := hy.1
  have y1 := hy.2
  clear hx hy
  have H0 := Lib.hid h0
  have hz : (y == 0) = false := by simpa using h0
  clear h0
  have E1 := tdiv_wrap (y := y) HX.out
  have hd0 := (tdiv_bd (y := y) HX.out).1
  have hd1 := (tdiv_bd (y := y) HX.out).2
  by_cases hp : 0 ≤ x ∧ 1 ≤ y
  · obtain ⟨hp0, hp1⟩ := hp
    have HQ := Lib.hid (quo_pos (y := y) hp0)
    have hi : InR (x / y) := by rw [HQ.out]; have := tmod_sign (x := x) (y := y); have e := tdiv_tmod x y; have hn : 0 ≤ x.tdiv y := Int.tdiv_nonneg hp0 (by omega); have hl : (x.tdiv y).natAbs ≤ x.natAbs := (by rw [Int.natAbs_tdiv]; exact Nat.div_le_self _ _); unfold InR; omega
    have HI := Lib.hid hi
    have hj := hi.1
    have hk := hi.2
    clear hi
    have HI' := Lib.hid (show InR (x.tdiv y) by rw [← HQ.out]; exact HI.out)
    go_enter Tryd.func32, Tryd.ntmps32
    go_wp2_with (first | (go_at_call 55; (with_reducible refine (rnumber_yes _ _ HI.out).mono ?_); rintro e w' ⟨rfl, rfl⟩) | (go_at_call 55; (with_reducible refine (rnumber_yes _ _ HI'.out).mono ?_); rintro e w' ⟨rfl, rfl⟩))
    go_ret2
    exact ⟨ret_yes HI'.out (by first | rfl | exact HQ.out), rfl⟩
  · by_cases hi : InR (x.tdiv y)
    · have HI := Lib.hid hi
      clear hi
      by_cases hx0 : x < 0
      · clear hp
        go_enter Tryd.func32, Tryd.ntmps32
        go_wp2_with (first | (go_at_call 55; (with_reducible refine (rnumber_yes _ _ HI.out).mono ?_); rintro e w' ⟨rfl, rfl⟩))
        go_ret2
        exact ⟨ret_yes HI.out rfl, rfl⟩
      · have hy0 : y < 1 := by omega
        clear hp
        go_enter Tryd.func32, Tryd.ntmps32
        go_wp2_with (first | (go_at_call 55; (with_reducible refine (rnumber_yes _ _ HI.out).mono ?_); rintro e w' ⟨rfl, rfl⟩))
        go_ret2
        exact ⟨ret_yes HI.out rfl, rfl⟩
    · have HI := Lib.hid hi
      clear hi
      by_cases hx0 : x < 0
      · clear hp
        go_enter Tryd.func32, Tryd.ntmps32
        go_wp2_with (first | (go_at_call 55; (with_reducible refine (rnumber_no _ _ HI.out).mono ?_); rintro e w' ⟨rfl, rfl⟩))
        go_ret2
        exact ⟨ret_no HI.out, rfl⟩
      · have hy0 : y < 1 := by omega
        clear hp
        go_enter Tryd.func32, Tryd.ntmps32
        go_wp2_with (first | (go_at_call 55; (with_reducible refine (rnumber_no _ _ HI.out).mono ?_); rintro e w' ⟨rfl, rfl⟩))
        go_ret2
        exact ⟨ret_no HI.out, rfl⟩

set_option maxHeartbeats 400000 in
theorem rdo_rem (x y : Int) (w : World) (hx : InR x) (hy : InR y) (h0 : y ≠ 0) :
    Calls Tryd.prog 32 #[.int .i64 6, .int .i64 x, .int .i64 y] w fun e w' => e = .returned (.tuple #[.int .i64 (resN (x.tmod y)), .int .i64 (resE (x.tmod y))]) ∧ w = w' := by
  have HX := Lib.hid hx
  have HY := Lib.hid hy
  have x0 := hx.1
  have x1 := hx.2
  have y0 := hy.1
  have y1 := hy.2
  clear hx hy
  have H0 := Lib.hid h0
  have hz : (y == 0) = false := by simpa using h0
  clear h0
  have E1 := tdiv_wrap (y := y) HX.out
  have hd0 := (tdiv_bd (y := y) HX.out).1
  have hd1 := (tdiv_bd (y := y) HX.out).2
  have E2 := tdiv_mul_fits (y := y) HX.out
  have E3 := tmod_w (y := y) HX.out
  have HI := Lib.hid (tmod_inR (y := y) HX.out)
  by_cases hp : 0 ≤ x ∧ 1 ≤ y
  · obtain ⟨hp0, hp1⟩ := hp
    have HQ := quo_pos (y := y) hp0
    have HQ2 := Lib.hid (rem_pos (y := y) hp0)
    have HI2 := Lib.hid (show InR (x % y) by rw [HQ2.out]; exact HI.out)
    go_enter Tryd.func32, Tryd.ntmps32
    go_wp2_with (first | (go_at_call 55; (with_reducible refine (rnumber_yes _ _ HI.out).mono ?_); rintro e w' ⟨rfl, rfl⟩) | (go_at_call 55; (with_reducible refine (rnumber_yes _ _ HI2.out).mono ?_); rintro e w' ⟨rfl, rfl⟩))
    go_ret2
    exact ⟨ret_yes HI.out (by first | rfl | exact HQ2.out), rfl⟩
  · by_cases hx0 : x < 0
    · clear hp
      go_enter Tryd.func32, Tryd.ntmps32
      go_wp2_with (first | (go_at_call 55; (with_reducible refine (rnumber_yes _ _ HI.out).mono ?_); rintro e w' ⟨rfl, rfl⟩))
      go_ret2
      exact ⟨ret_yes HI.out rfl, rfl⟩
    · have hy0 : y < 1 := by omega
      have HQ2 := Lib.hid (rem_pos (x := x) (y := y) (by omega))
      have HI2 := Lib.hid (show InR (x % y) by rw [HQ2.out]; exact HI.out)
      clear hp
      go_enter Tryd.func32, Tryd.ntmps32
      go_wp2_with (first | (go_at_call 55; (with_reducible refine (rnumber_yes _ _ HI.out).mono ?_); rintro e w' ⟨rfl, rfl⟩) | (go_at_call 55; (with_reducible refine (rnumber_yes _ _ HI2.out).mono ?_); rintro e w' ⟨rfl, rfl⟩))
      go_ret2
      exact ⟨ret_yes HI.out (by first | rfl | exact HQ2.out), rfl⟩

set_option maxHeartbeats 400000 in
theorem rdo_and (x y : Int) (w : World) (hx : InR x) (hy : InR y) :
    Calls Tryd.prog 32 #[.int .i64 7, .int .i64 x, .int .i64 y] w fun e w' => e = .returned (.tuple #[.int .i64 (resN (bits .and .i64 x y)), .int .i64 (resE (bits .and .i64 x y))]) ∧ w = w' := by
  have HX := Lib.hid hx
  have HY := Lib.hid hy
  have x0 := hx.1
  have x1 := hx.2
  have y0 := hy.1
  have y1 := hy.2
  clear hx hy
  have HI := Lib.hid (and_inR HX.out HY.out)
  go_enter Tryd.func32, Tryd.ntmps32
  go_wp2_with (first | (go_at_call 55; (with_reducible refine (rnumber_yes _ _ HI.out).mono ?_); rintro e w' ⟨rfl, rfl⟩))
  go_ret2
  exact ⟨ret_yes HI.out rfl, rfl⟩

set_option maxHeartbeats 400000 in
theorem rdo_or (x y : Int) (w : World) (hx : InR x) (hy : InR y) :
    Calls Tryd.prog 32 #[.int .i64 8, .int .i64 x, .int .i64 y] w fun e w' => e = .returned (.tuple #[.int .i64 (resN (bits .or .i64 x y)), .int .i64 (resE (bits .or .i64 x y))]) ∧ w = w' := by
  have HX := Lib.hid hx
  have HY := Lib.hid hy
  have x0 := hx.1
  have x1 := hx.2
  have y0 := hy.1
  have y1 := hy.2
  clear hx hy
  have HI := Lib.hid (or_inR HX.out HY.out)
  go_enter Tryd.func32, Tryd.ntmps32
  go_wp2_with (first | (go_at_call 55; (with_reducible refine (rnumber_yes _ _ HI.out).mono ?_); rintro e w' ⟨rfl, rfl⟩))
  go_ret2
  exact ⟨ret_yes HI.out rfl, rfl⟩

set_option maxHeartbeats 400000 in
theorem rdo_xor (x y : Int) (w : World) (hx : InR x) (hy : InR y) :
    Calls Tryd.prog 32 #[.int .i64 9, .int .i64 x, .int .i64 y] w fun e w' => e = .returned (.tuple #[.int .i64 (resN (bits .xor .i64 x y)), .int .i64 (resE (bits .xor .i64 x y))]) ∧ w = w' := by
  have HX := Lib.hid hx
  have HY := Lib.hid hy
  have x0 := hx.1
  have x1 := hx.2
  have y0 := hy.1
  have y1 := hy.2
  clear hx hy
  have HI := Lib.hid (xor_inR HX.out HY.out)
  go_enter Tryd.func32, Tryd.ntmps32
  go_wp2_with (first | (go_at_call 55; (with_reducible refine (rnumber_yes _ _ HI.out).mono ?_); rintro e w' ⟨rfl, rfl⟩))
  go_ret2
  exact ⟨ret_yes HI.out rfl, rfl⟩

set_option maxHeartbeats 400000 in
theorem rdo_shift (x y : Int) (w : World) (hx : InR x) (hy : InR y) :
    Calls Tryd.prog 32 #[.int .i64 10, .int .i64 x, .int .i64 y] w fun e w' => e = .returned (.tuple #[.int .i64 (resN (shR x y)), .int .i64 (resE (shR x y))]) ∧ w = w' := by
  have HX := Lib.hid hx
  have HY := Lib.hid hy
  have x0 := hx.1
  have x1 := hx.2
  have y0 := hy.1
  have y1 := hy.2
  clear hx hy
  by_cases hi : InR (shR x y)
  · have HI := Lib.hid hi
    clear hi
    go_enter Tryd.func32, Tryd.ntmps32
    go_wp2_with fail
    refine (rshift_any _ _ _ HX.out HY.out).mono ?_
    rintro e w' ⟨rfl, rfl⟩
    rw [if_pos HI.out, decide_eq_true HI.out]
    go_wp2_with (first | (go_at_call 55; (with_reducible refine (rnumber_yes _ _ HI.out).mono ?_); rintro e w' ⟨rfl, rfl⟩))
    go_ret2
    exact ⟨ret_yes HI.out rfl, rfl⟩
  · have HI := Lib.hid hi
    clear hi
    go_enter Tryd.func32, Tryd.ntmps32
    go_wp2_with fail
    refine (rshift_any _ _ _ HX.out HY.out).mono ?_
    rintro e w' ⟨rfl, rfl⟩
    rw [decide_eq_false HI.out]
    go_wp2_with fail
    go_ret2
    exact ⟨ret_no HI.out, rfl⟩

set_option maxHeartbeats 400000 in
theorem rdo_floor_zero (x y : Int) (w : World) (h0 : y = 0) :
    Calls Tryd.prog 32 #[.int .i64 3, .int .i64 x, .int .i64 y] w fun e w' => e = .returned (.tuple #[.int .i64 0, .int .i64 1]) ∧ w = w' := by
  subst h0
  go_enter Tryd.func32, Tryd.ntmps32
  go_wp2_with fail
  go_ret2
  exact ⟨rfl, rfl⟩

set_option maxHeartbeats 400000 in
theorem rdo_mod_zero (x y : Int) (w : World) (h0 : y = 0) :
    Calls Tryd.prog 32 #[.int .i64 4, .int .i64 x, .int .i64 y] w fun e w' => e = .returned (.tuple #[.int .i64 0, .int .i64 1]) ∧ w = w' := by
  subst h0
  go_enter Tryd.func32, Tryd.ntmps32
  go_wp2_with fail
  go_ret2
  exact ⟨rfl, rfl⟩

set_option maxHeartbeats 400000 in
theorem rdo_quo_zero (x y : Int) (w : World) (h0 : y = 0) :
    Calls Tryd.prog 32 #[.int .i64 5, .int .i64 x, .int .i64 y] w fun e w' => e = .returned (.tuple #[.int .i64 0, .int .i64 1]) ∧ w = w' := by
  subst h0
  go_enter Tryd.func32, Tryd.ntmps32
  go_wp2_with fail
  go_ret2
  exact ⟨rfl, rfl⟩

set_option maxHeartbeats 400000 in
theorem rdo_rem_zero (x y : Int) (w : World) (h0 : y = 0) :
    Calls Tryd.prog 32 #[.int .i64 6, .int .i64 x, .int .i64 y] w fun e w' => e = .returned (.tuple #[.int .i64 0, .int .i64 1]) ∧ w = w' := by
  subst h0
  go_enter Tryd.func32, Tryd.ntmps32
  go_wp2_with fail
  go_ret2
  exact ⟨rfl, rfl⟩
end Go.Proofs.YtmlfooofgedmaaaDoor.Fl
