/-
  Instructions: the document's bytes of a number, any.
-/
import Derived.Test.YtghnpmhidcfghaaDoorCdI
namespace Go.Proofs.YtghnpmhidcfghaaDoor.Fl
open Go.RowKit

set_option maxRecDepth 100000 in
set_option maxHeartbeats 2000000 in
theorem rput_n1 (x : Int) (hx0 : -9223372036854775808 ≤ x) (hx1 : x ≤ 9223372036854775807) (hx : ¬ (-128 ≤ x ∧ x < 128)) (ys : List UInt8) (base : Nat) (xs : List UInt8) (A0 : Option Addr) (c0 : Nat) (w : World) (hO : OwnB w base (.slice A0 xs.length c0) xs) (hl : xs.length ≤ 1000000) :
    Calls Tryd.prog 20 #[.slice A0 xs.length c0, .int .i64 x, .int .i64 (-1)] w (RPost base xs ys false w) := by
  have HO := Lib.hid hO
  clear hO
  rcases Int.lt_or_le x (-128) with h | h
  · have hd1 : decide (x < -128) = true := decide_eq_true h
    go_enter Tryd.func20, Tryd.ntmps20
    go_wp2_with fail
    go_ret2
    exact ⟨Below.refl _ _, A0, c0, xs, rfl, HO.out, by omega, fun h => by cases h⟩
  · have h2 : 128 ≤ x := by omega
    have hd1 : decide (x < -128) = false := decide_eq_false (by omega)
    have hd2 : decide (128 ≤ x) = true := decide_eq_true h2
    have hd3 : decide (x ≥ 128) = true := decide_eq_true h2
    go_enter Tryd.func20, Tryd.ntmps20
    go_wp2_with fail
    go_ret2
    exact ⟨Below.refl _ _, A0, c0, xs, rfl, HO.out, by omega, fun h => by cases h⟩
set_option maxRecDepth 100000 in
set_option maxHeartbeats 2000000 in
theorem rput_n2 (x : Int) (hx0 : -9223372036854775808 ≤ x) (hx1 : x ≤ 9223372036854775807) (hx : ¬ (-32768 ≤ x ∧ x < 32768)) (ys : List UInt8) (base : Nat) (xs : List UInt8) (A0 : Option Addr) (c0 : Nat) (w : World) (hO : OwnB w base (.slice A0 xs.length c0) xs) (hl : xs.length ≤ 1000000) :
    Calls Tryd.prog 20 #[.slice A0 xs.length c0, .int .i64 x, .int .i64 (-2)] w (RPost base xs ys false w) := by
  have HO := Lib.hid hO
  clear hO
  rcases Int.lt_or_le x (-32768) with h | h
  · have hd1 : decide (x < -32768) = true := decide_eq_true h
    go_enter Tryd.func20, Tryd.ntmps20
    go_wp2_with fail
    go_ret2
    exact ⟨Below.refl _ _, A0, c0, xs, rfl, HO.out, by omega, fun h => by cases h⟩
  · have h2 : 32768 ≤ x := by omega
    have hd1 : decide (x < -32768) = false := decide_eq_false (by omega)
    have hd2 : decide (32768 ≤ x) = true := decide_eq_true h2
    have hd3 : decide (x ≥ 32768) = true := decide_eq_true h2
    go_enter Tryd.func20, Tryd.ntmps20
    go_wp2_with fail
    go_ret2
    exact ⟨Below.refl _ _, A0, c0, xs, rfl, HO.out, by omega, fun h => by cases h⟩
theorem okU_in (s : Nat) {y : Int} (h0 : 0 ≤ y) (h1 : y < ((256 ^ s : Nat) : Int)) : okU s y = true := by
  unfold okU
  rw [decide_eq_true h0, decide_eq_true h1]
  rfl
theorem okU_has (s : Nat) (x : Int) : hasC s 0 x = okU s x := by
  unfold hasC okU
  rw [Int.zero_add]
/-- a number's bytes behind those of the call's own -/
theorem rput_any (s : Nat) (hs : s ≤ 2) (la : Int) (hla : la = 0 ∨ (s = 1 ∧ la = -128) ∨ (s = 2 ∧ la = -32768)) (x : Int) (hx0 : -9223372036854775808 ≤ x) (hx1 : x ≤ 9223372036854775807) (base : Nat) (xs : List UInt8) (A0 : Option Addr) (c0 : Nat) (w : World) (hO : OwnB w base (.slice A0 xs.length c0) xs) (hl : xs.length ≤ 1000000) (hb : base ≤ w.heap.size) :
    Calls Tryd.prog 20 #[.slice A0 xs.length c0, .int .i64 x, .int .i64 (refA (s : Int) la)] w (RPost base xs (bytesN s x) (hasC s la x) w) := by
  rcases hla with rfl | ⟨rfl, rfl⟩ | ⟨rfl, rfl⟩
  · have h := rput_u s hs x hx0 hx1 base xs A0 c0 w hO hl hb
    rw [okU_has]
    exact h
  · by_cases hx : -128 ≤ x ∧ x < 128
    · have h := rput_s1 x hx.1 hx.2 base xs A0 c0 w hO hl hb
      rw [okU_in 1 (by omega) (by show _ < (256 : Int); omega), bytesN_s1] at h
      rw [show hasC 1 (-128) x = true by unfold hasC; rw [decide_eq_true hx.1, decide_eq_true (show x < -128 + ((256 ^ 1 : Nat) : Int) by show _ < -128 + (256 : Int); omega)]; rfl]
      exact h
    · have h := rput_n1 x hx0 hx1 hx (bytesN 1 x) base xs A0 c0 w hO hl
      rw [show hasC 1 (-128) x = false by
        unfold hasC
        rw [Bool.and_eq_false_iff]
        rcases Int.lt_or_le x (-128) with h | h
        · exact .inl (decide_eq_false (by omega))
        · exact .inr (decide_eq_false (by show ¬ _ < -128 + (256 : Int); omega))]
      exact h
  · by_cases hx : -32768 ≤ x ∧ x < 32768
    · have h := rput_s2 x hx.1 hx.2 base xs A0 c0 w hO hl hb
      rw [okU_in 2 (by omega) (by show _ < (65536 : Int); omega), bytesN_s2] at h
      rw [show hasC 2 (-32768) x = true by unfold hasC; rw [decide_eq_true hx.1, decide_eq_true (show x < -32768 + ((256 ^ 2 : Nat) : Int) by show _ < -32768 + (65536 : Int); omega)]; rfl]
      exact h
    · have h := rput_n2 x hx0 hx1 hx (bytesN 2 x) base xs A0 c0 w hO hl
      rw [show hasC 2 (-32768) x = false by
        unfold hasC
        rw [Bool.and_eq_false_iff]
        rcases Int.lt_or_le x (-32768) with h | h
        · exact .inl (decide_eq_false (by omega))
        · exact .inr (decide_eq_false (by show ¬ _ < -32768 + (65536 : Int); omega))]
      exact h
end Go.Proofs.YtghnpmhidcfghaaDoor.Fl
