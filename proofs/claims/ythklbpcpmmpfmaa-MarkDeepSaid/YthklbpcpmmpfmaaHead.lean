/-
  Contracts of package head, and of the document's answers for it.
-/
import Derived.Test.YthklbpcpmmpfmaaProg
import Derived.Test.YthklbpcpmmpfmaaMathH
import Derived.WalkKit
import Derived.WalkSmall
import Derived.WalkSpells
import Derived.WalkLawsBesides
import Derived.Deep.QuietTactic
import Derived.BigQuiet
import Derived.Lib.Hide
import Derived.RegionTactic
namespace Go.Proofs.Ythklbpcpmmpfmaa.Fl
open Go.RowKit

theorem and1 {a : Int} (h : 0 ≤ a) (h2 : a ≤ 18446744073709551615) : bits .and .u64 a 1 = a % 2 := and_one_u64 a h h2
theorem is_odd (a : Int) (w : World) (h : 0 ≤ a) (h2 : a ≤ 18446744073709551615) (ho : a % 2 = 1) :
    Calls Try.prog 36 #[.int .u64 a] w fun e w' => e = .returned (.bool true) ∧ w = w' := by
  have hb : (bits BinOp.and IntKind.u64 a 1 == 1) = true := by rw [and1 h h2, ho]; rfl
  go_enter Try.func36, Try.ntmps36
  go_wp2
  go_ret
  exact ⟨by simp, rfl⟩
theorem is_even (a : Int) (w : World) (h : 0 ≤ a) (h2 : a ≤ 18446744073709551615) (ho : a % 2 = 0) :
    Calls Try.prog 36 #[.int .u64 a] w fun e w' => e = .returned (.bool false) ∧ w = w' := by
  have hb : (bits BinOp.and IntKind.u64 a 1 == 1) = false := by rw [and1 h h2, ho]; rfl
  go_enter Try.func36, Try.ntmps36
  go_wp2
  go_ret
  exact ⟨by simp, rfl⟩

/-! ### Pointer, At -/
def ptrE (at_ : Int) : Int := if at_ < 1 ∨ 16777216 ≤ at_ then 1 else 0
def ptrW (at_ : Int) : Int := if at_ < 1 ∨ 16777216 ≤ at_ then 0 else 2 * at_
theorem pointer_in (n : Int) (w : World) (h1 : 1 ≤ n) (h2 : n < 16777216) :
    Calls Try.prog 34 #[.int .i64 n] w fun e w' => e = .returned (.tuple #[.int .u64 (n * 2), .int .i64 0]) ∧ w = w' := by
  go_enter Try.func34, Try.ntmps34
  go_wp2
  go_ret2
  exact ⟨rfl, rfl⟩
theorem pointer_out (n : Int) (w : World) (h : n < 1 ∨ 16777216 ≤ n) :
    Calls Try.prog 34 #[.int .i64 n] w fun e w' => e = .returned (.tuple #[.int .u64 0, .int .i64 1]) ∧ w = w' := by
  rcases h with h | h
  · go_enter Try.func34, Try.ntmps34
    go_wp2
    go_ret2
    exact ⟨rfl, rfl⟩
  · have h1 : 1 ≤ n := by omega
    go_enter Try.func34, Try.ntmps34
    go_wp2
    go_ret2
    exact ⟨rfl, rfl⟩
theorem at_in (a : Int) (w : World) (h1 : 0 < a) (h2 : a < 33554432) (ho : a % 2 = 0) :
    Calls Try.prog 20 #[.int .u64 a] w fun e w' => e = .returned (.tuple #[.int .i64 (a / 2), .int .i64 0]) ∧ w = w' := by
  have HO := Lib.hid ho
  clear ho
  have hz : (a == 0) = false := by simp; omega
  go_enter Try.func20, Try.ntmps20
  go_wp2_with (go_at_call 36; (with_reducible refine (is_even _ _ (by omega) (by omega) HO.out).mono ?_); rintro e w' ⟨rfl, rfl⟩)
  go_ret2
  exact ⟨rfl, rfl⟩
theorem at_out (a : Int) (w : World) (h : 0 ≤ a) (h2 : a ≤ 18446744073709551615) (hb : a % 2 = 1 ∨ a = 0 ∨ 33554432 ≤ a) :
    Calls Try.prog 20 #[.int .u64 a] w fun e w' => e = .returned (.tuple #[.int .i64 0, .int .i64 13]) ∧ w = w' := by
  by_cases ho : a % 2 = 1
  · have HO := Lib.hid ho
    clear ho hb
    go_enter Try.func20, Try.ntmps20
    go_wp2_with (go_at_call 36; (with_reducible refine (is_odd _ _ h h2 HO.out).mono ?_); rintro e w' ⟨rfl, rfl⟩)
    go_ret2
    exact ⟨rfl, rfl⟩
  · have HO : Hid (a % 2 = 0) := Lib.hid (by omega)
    by_cases hz : a = 0
    · have hz' : (a == 0) = true := by simp [hz]
      have HZ := Lib.hid hz
      clear ho hb hz
      go_enter Try.func20, Try.ntmps20
      go_wp2_with (go_at_call 36; (with_reducible refine (is_even _ _ h h2 HO.out).mono ?_); rintro e w' ⟨rfl, rfl⟩)
      go_ret2
      exact ⟨rfl, rfl⟩
    · have hz' : (a == 0) = false := by simp [hz]
      have hge : 33554432 ≤ a := by omega
      clear ho hb hz
      go_enter Try.func20, Try.ntmps20
      go_wp2_with (go_at_call 36; (with_reducible refine (is_even _ _ h h2 HO.out).mono ?_); rintro e w' ⟨rfl, rfl⟩)
      go_ret2
      exact ⟨rfl, rfl⟩
end Go.Proofs.Ythklbpcpmmpfmaa.Fl
