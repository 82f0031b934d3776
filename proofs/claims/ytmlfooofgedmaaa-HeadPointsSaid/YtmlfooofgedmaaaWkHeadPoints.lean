/-
  The walk of HeadPoints.
-/
import Derived.Test.YtmlfooofgedmaaaHeadE
import Derived.OpenShut
namespace Go.Proofs.Ytmlfooofgedmaaa.Fl
open Go.RowKit

set_option maxHeartbeats 4000000 in
theorem points_in (n a X F : Int) (w : World) (h1 : 1 ≤ n) (h2 : n < 16777216) (a0 : 0 ≤ a)
    (hA : ∀ w', Calls Try.prog 18 #[.int .u64 a] w' fun e w'' => e = .returned (.tuple #[.int .i64 X, .int .i64 F]) ∧ w' = w'')
    (d1 d2 d3 : Bool) (e1 : (a % 2 == 1) = d1) (e2 : (a == 0) = d2) (e3 : decide (33554432 ≤ a) = d3)
    (hR : Hid (if d1 = true ∨ d2 = true ∨ d3 = true then X = 0 ∧ F = 13 else X = a / 2 ∧ F = 0 ∧ 2 * (a / 2) = a)) :
    Calls Try.prog 5 #[.int .i64 n, .int .u64 a] w fun e w' => e = .returned (.bool true) ∧ Below w.heap.size w w' := by
  have q1 : (n * 2 == 2 * n) = true := by simp; omega
  have q2 : n * 2 / 2 = n := by omega
  have HQ := Lib.hid q2
  clear q2
  cases d1 <;> cases d2 <;> cases d3
  all_goals try (exfalso; simp at e1 e2 e3; omega)
  all_goals
    have hr := hR.out
    simp at hr
  · obtain ⟨rfl, rfl, hr⟩ := hr
    have e4 : (2 * (a / 2) == a) = true := by simp [hr]
    have a1 : a < 33554432 := by simp at e3; omega
    clear hr hR
    go_enter Try.func5, Try.ntmps5
    go_wp2_with fail
    refine (awake_hd _).mono ?_
    rintro e w1 ⟨rfl, hb1⟩
    go_wp2_with fail
    refine (pointer_in n _ (by omega) (by omega)).mono ?_
    rintro e w2 ⟨rfl, rfl⟩
    go_wp2_with fail
    refine (at_in (n * 2) _ (by omega) (by omega) (by omega)).mono ?_
    rintro e w3 ⟨rfl, rfl⟩
    rw [HQ.out]
    go_wp2_with fail
    refine (hA _).mono ?_
    rintro e w4 ⟨rfl, rfl⟩
    go_wp2_with fail
    go_ret
    exact ⟨rfl, hb1⟩
  all_goals
    obtain ⟨rfl, rfl⟩ := hr
    clear hR
    go_enter Try.func5, Try.ntmps5
    go_wp2_with fail
    refine (awake_hd _).mono ?_
    rintro e w1 ⟨rfl, hb1⟩
    go_wp2_with fail
    refine (pointer_in n _ (by omega) (by omega)).mono ?_
    rintro e w2 ⟨rfl, rfl⟩
    go_wp2_with fail
    refine (at_in (n * 2) _ (by omega) (by omega) (by omega)).mono ?_
    rintro e w3 ⟨rfl, rfl⟩
    rw [HQ.out]
    go_wp2_with fail
    refine (hA _).mono ?_
    rintro e w4 ⟨rfl, rfl⟩
    go_wp2_with fail
    all_goals go_ret
    all_goals exact ⟨rfl, hb1⟩
set_option maxHeartbeats 4000000 in
theorem points_out (n a X F : Int) (w : World) (h : n < 1 ∨ 16777216 ≤ n) (a0 : 0 ≤ a)
    (hA : ∀ w', Calls Try.prog 18 #[.int .u64 a] w' fun e w'' => e = .returned (.tuple #[.int .i64 X, .int .i64 F]) ∧ w' = w'')
    (d1 d2 d3 : Bool) (e1 : (a % 2 == 1) = d1) (e2 : (a == 0) = d2) (e3 : decide (33554432 ≤ a) = d3)
    (hR : Hid (if d1 = true ∨ d2 = true ∨ d3 = true then X = 0 ∧ F = 13 else X = a / 2 ∧ F = 0 ∧ 2 * (a / 2) = a)) :
    Calls Try.prog 5 #[.int .i64 n, .int .u64 a] w fun e w' => e = .returned (.bool true) ∧ Below w.heap.size w w' := by
  have HP := fun w' => Lib.hid (pointer_out n w' h)
  obtain ⟨c, hc⟩ : ∃ c : Bool, decide (n < 1) = c := ⟨_, rfl⟩
  cases d1 <;> cases d2 <;> cases d3
  all_goals try (exfalso; simp at e1 e2 e3; omega)
  all_goals
    have hr := hR.out
    simp at hr
  · obtain ⟨rfl, rfl, hr⟩ := hr
    have e4 : (2 * (a / 2) == a) = true := by simp [hr]
    have a1 : a < 33554432 := by simp at e3; omega
    clear hr hR
    rcases h with h | h
    · clear hc
      go_enter Try.func5, Try.ntmps5
      go_wp2_with fail
      refine (awake_hd _).mono ?_
      rintro e w1 ⟨rfl, hb1⟩
      go_wp2_with fail
      refine (HP _).out.mono ?_
      rintro e w2 ⟨rfl, rfl⟩
      go_wp2_with fail
      refine (hA _).mono ?_
      rintro e w4 ⟨rfl, rfl⟩
      go_wp2_with fail
      all_goals go_ret
      all_goals exact ⟨rfl, hb1⟩
    · clear hc
      have h' : 1 ≤ n := by omega
      go_enter Try.func5, Try.ntmps5
      go_wp2_with fail
      refine (awake_hd _).mono ?_
      rintro e w1 ⟨rfl, hb1⟩
      go_wp2_with fail
      refine (HP _).out.mono ?_
      rintro e w2 ⟨rfl, rfl⟩
      go_wp2_with fail
      refine (hA _).mono ?_
      rintro e w4 ⟨rfl, rfl⟩
      go_wp2_with fail
      all_goals go_ret
      all_goals exact ⟨rfl, hb1⟩
  all_goals
    obtain ⟨rfl, rfl⟩ := hr
    clear hR
    rcases h with h | h
    · clear hc
      go_enter Try.func5, Try.ntmps5
      go_wp2_with fail
      refine (awake_hd _).mono ?_
      rintro e w1 ⟨rfl, hb1⟩
      go_wp2_with fail
      refine (HP _).out.mono ?_
      rintro e w2 ⟨rfl, rfl⟩
      go_wp2_with fail
      refine (hA _).mono ?_
      rintro e w4 ⟨rfl, rfl⟩
      go_wp2_with fail
      all_goals go_ret
      all_goals exact ⟨rfl, hb1⟩
    · clear hc
      have h' : 1 ≤ n := by omega
      go_enter Try.func5, Try.ntmps5
      go_wp2_with fail
      refine (awake_hd _).mono ?_
      rintro e w1 ⟨rfl, hb1⟩
      go_wp2_with fail
      refine (HP _).out.mono ?_
      rintro e w2 ⟨rfl, rfl⟩
      go_wp2_with fail
      refine (hA _).mono ?_
      rintro e w4 ⟨rfl, rfl⟩
      go_wp2_with fail
      all_goals go_ret
      all_goals exact ⟨rfl, hb1⟩
theorem walk_HeadPoints (n a : Int) (w : World) (wn : (Lit.int .i64 n).wf = true) (wa : (Lit.int .u64 a).wf = true) :
    Calls Try.prog 5 #[.int .i64 n, .int .u64 a] w fun e w' => e = .returned (.bool true) ∧ Below w.heap.size w w' := by
  obtain ⟨a0, a1⟩ := bounds_u64 wa
  obtain ⟨X, F, hA, hR⟩ : ∃ X F : Int, (∀ w', Calls Try.prog 18 #[.int .u64 a] w' fun e w'' => e = .returned (.tuple #[.int .i64 X, .int .i64 F]) ∧ w' = w'') ∧
      Hid (if (a % 2 == 1) = true ∨ (a == 0) = true ∨ decide (33554432 ≤ a) = true then X = 0 ∧ F = 13 else X = a / 2 ∧ F = 0 ∧ 2 * (a / 2) = a) := by
    by_cases h : a % 2 = 1 ∨ a = 0 ∨ 33554432 ≤ a
    · refine ⟨0, 13, fun w' => at_out a w' a0 a1 h, Lib.hid ?_⟩
      rw [if_pos (by simpa using h)]; exact ⟨rfl, rfl⟩
    · refine ⟨a / 2, 0, fun w' => at_in a w' (by omega) (by omega) (by omega), Lib.hid ?_⟩
      rw [if_neg (by simpa using h)]; exact ⟨rfl, rfl, by omega⟩
  by_cases hn : 1 ≤ n ∧ n < 16777216
  · exact points_in n a X F w hn.1 hn.2 a0 hA _ _ _ rfl rfl rfl hR
  · exact points_out n a X F w (by omega) a0 hA _ _ _ rfl rfl rfl hR
end Go.Proofs.Ytmlfooofgedmaaa.Fl
