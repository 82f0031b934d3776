/-
  Contracts of the document's own answers for layer 1, the calls with loops: amount, Times, Shift, Floor.
-/
import Derived.Test.YtmlfooofgedmaaaDoorRef
namespace Go.Proofs.YtmlfooofgedmaaaDoor.Fl
open Go.RowKit

theorem amount_close1 {x : Int} (h0 : -9223372036854775808 ≤ x) (h : x < 0) : IntKind.u64.wrap (-(IntKind.u64.wrap x)) = (x.natAbs : Int) := by
  rw [IntKind.wrap_u64, IntKind.wrap_u64]; omega
theorem amount_close2 {x : Int} (h0 : x ≤ 9223372036854775807) (h : 0 ≤ x) : IntKind.u64.wrap x = (x.natAbs : Int) := by
  rw [IntKind.wrap_u64]; omega
set_option maxHeartbeats 400000 in
theorem amount_any (x : Int) (w : World) (h0 : -9223372036854775808 ≤ x) (h1 : x ≤ 9223372036854775807) :
    Calls Tryd.prog 66 #[.int .i64 x] w fun e w' => e = .returned (.int .u64 (x.natAbs : Int)) ∧ w = w' := by
  by_cases h : x < 0
  · go_enter Tryd.func66, Tryd.ntmps66
    go_wp2
    go_ret
    exact ⟨ret_u64 (by first | exact amount_close1 h0 h | (rw [IntKind.wrap_u64]; omega) | omega), rfl⟩
  · have hp : 0 ≤ x := by omega
    clear h
    go_enter Tryd.func66, Tryd.ntmps66
    go_wp2
    go_ret
    exact ⟨ret_u64 (by first | exact amount_close2 h1 hp | omega), rfl⟩

/-! ### the product by adding -/
def acc (A B j : Nat) : Int := ((A * (B / 2 ^ j) : Nat) : Int)
theorem acc_step (A B m : Nat) : acc A B m = acc A B (m + 1) * 2 + (if B / 2 ^ m % 2 = 1 then (A : Int) else 0) := by
  have e : B / 2 ^ (m + 1) = B / 2 ^ m / 2 := by rw [Nat.pow_succ, Nat.div_div_eq_div_mul]
  unfold acc
  rw [e]
  generalize B / 2 ^ m = q
  have hq := Nat.div_add_mod q 2
  have h1 : A * q = A * (q / 2) * 2 + A * (q % 2) := by
    rw [Nat.mul_assoc, ← Nat.mul_add, Nat.mul_comm (q / 2) 2, hq]
  split
  · rename_i h; rw [h, Nat.mul_one] at h1; omega
  · rename_i h
    have h2 : q % 2 = 0 := by omega
    rw [h2, Nat.mul_zero] at h1; omega
theorem acc_le (A B j : Nat) : acc A B j ≤ acc A B 0 := by
  unfold acc
  have : A * (B / 2 ^ j) ≤ A * (B / 2 ^ 0) := Nat.mul_le_mul_left _ (by simp; exact Nat.div_le_self _ _)
  omega
theorem acc_zero (A B : Nat) : acc A B 0 = ((A * B : Nat) : Int) := by unfold acc; simp
theorem acc_top (A B : Nat) (h : B < 9223372036854775808) : acc A B 63 = 0 := by
  unfold acc
  rw [Nat.div_eq_of_lt (by have : (2 : Nat) ^ 63 = 9223372036854775808 := by decide
                           omega)]
  simp
theorem acc_nonneg (A B j : Nat) : 0 ≤ acc A B j := by unfold acc; omega
theorem acc_abs (x y : Int) : acc x.natAbs y.natAbs 0 = ((x * y).natAbs : Int) := by rw [acc_zero, Int.natAbs_mul]
theorem same_sign {x y : Int} (h : (x < 0 ∧ y < 0) ∨ (0 ≤ x ∧ 0 ≤ y)) : x * y = ((x * y).natAbs : Int) := by
  have : 0 ≤ x * y := by
    rcases h with ⟨h1, h2⟩ | ⟨h1, h2⟩
    · exact Int.mul_nonneg_of_nonpos_of_nonpos (by omega) (by omega)
    · exact Int.mul_nonneg h1 h2
  omega
theorem other_sign {x y : Int} (h : (x < 0 ∧ 0 ≤ y) ∨ (0 ≤ x ∧ y < 0)) : x * y = -((x * y).natAbs : Int) := by
  have : x * y ≤ 0 := by
    rcases h with ⟨h1, h2⟩ | ⟨h1, h2⟩
    · exact Int.mul_nonpos_of_nonpos_of_nonneg (by omega) h2
    · exact Int.mul_nonpos_of_nonneg_of_nonpos h1 (by omega)
  omega
attribute [irreducible] acc
theorem tmod_two {B m : Nat} : (((B : Int) / 2 ^ m).tmod 2 == 1) = decide (B / 2 ^ m % 2 = 1) := by
  have e : (B : Int) / 2 ^ m = ((B / 2 ^ m : Nat) : Int) := by simp
  rw [e]
  generalize B / 2 ^ m = q
  rw [Int.tmod_eq_emod_of_nonneg (by omega)]
  rw [Bool.eq_iff_iff]
  simp only [beq_iff_eq, decide_eq_true_eq]
  omega

/-- what Times comes to: the product where there is such a number; else it says no -/
def TimesPost (x y : Int) (w : World) (e : Ending) (w' : World) : Prop := ∃ n : Int, e = .returned (.tuple #[.int .i64 n, .bool (decide (InR (x * y)))]) ∧ (InR (x * y) → n = x * y) ∧ w = w'
theorem times_no {x y n : Int} {w : World} (h : ¬ InR (x * y)) : TimesPost x y w (.returned (.tuple #[.int .i64 n, .bool false])) w := ⟨n, by rw [decide_eq_false h], fun k => absurd k h, rfl⟩
theorem times_yes {x y n : Int} {w : World} (h : InR (x * y)) (hn : n = x * y) : TimesPost x y w (.returned (.tuple #[.int .i64 n, .bool true])) w := ⟨n, by rw [decide_eq_true h], fun _ => hn, rfl⟩

theorem times_end {x y n : Int} {w : World} (h : n = x * y) : TimesPost x y w (.returned (.tuple #[.int .i64 n, .bool (decide (InR n))])) w := ⟨n, by rw [h], fun _ => h, rfl⟩

set_option maxHeartbeats 1000000 in
theorem times_any (x y : Int) (w : World) (hx : InR x) (hy : InR y) :
    Calls Tryd.prog 52 #[.int .i64 x, .int .i64 y] w (TimesPost x y w) := by
  have x0 := hx.1
  have x1 := hx.2
  have y0 := hy.1
  have y1 := hy.2
  clear hx hy
  go_enter Tryd.func52, Tryd.ntmps52
  go_wp2_with (go_at_call 66; (with_reducible refine (amount_any _ _ (by omega) (by omega)).mono ?_); rintro e w' ⟨rfl, rfl⟩)
  go_loop [8, 9] (fun s i => ∃ k : Int, -1 ≤ k ∧ k ≤ 62 ∧ i = .int .i64 k ∧ s = .int .u64 (acc x.natAbs y.natAbs (k + 1).toNat) ∧ acc x.natAbs y.natAbs (k + 1).toNat ≤ 13835058055282163712) (fun _ i => (intOf i + 1).toNat)
  case atStart => exact ⟨62, by omega, by omega, rfl, by rw [show ((62 : Int) + 1).toNat = 63 from rfl, acc_top _ _ (by omega)], by rw [show ((62 : Int) + 1).toNat = 63 from rfl, acc_top _ _ (by omega)]; omega⟩
  case round =>
    obtain ⟨k, hk0, hk1, rfl, rfl, hS⟩ := hrel
    by_cases hk : 0 ≤ k
    · obtain ⟨m, rfl⟩ : ∃ m : Nat, k = m := ⟨k.toNat, by omega⟩
      have e : ((m : Int) + 1).toNat = m + 1 := by omega
      rw [e] at hS ⊢
      clear e
      have HT := Lib.hid (acc_step x.natAbs y.natAbs m)
      have HL := Lib.hid (acc_le x.natAbs y.natAbs (m + 1))
      have hS0 := acc_nonneg x.natAbs y.natAbs (m + 1)
      generalize acc x.natAbs y.natAbs (m + 1) = S at hS hS0 HT HL ⊢
      by_cases hb : 4611686018427387904 < S
      · go_wp2
        go_ret2
        exact times_no (by have h := HL.out; rw [acc_abs] at h; unfold InR; omega)
      · have hm1 : (((m : Int) - 1) + 1).toNat = m := by omega
        have HM := Lib.hid hm1
        clear hm1
        by_cases hq : y.natAbs / 2 ^ m % 2 = 1
        · have hq' : (((y.natAbs : Int) / 2 ^ m).tmod 2 == 1) = true := by rw [tmod_two]; simp [hq]
          have HQ := Lib.hid hq
          clear hq
          go_wp2
          refine ⟨⟨(m : Int) - 1, by omega, by omega, rfl, ?_, ?_⟩, ?_⟩
          · rw [HM.out, HT.out, if_pos HQ.out]
          · rw [HM.out, HT.out, if_pos HQ.out]; omega
          · simp [intOf]
        · have hq' : (((y.natAbs : Int) / 2 ^ m).tmod 2 == 1) = false := by rw [tmod_two]; simp; omega
          have HQ := Lib.hid hq
          clear hq
          go_wp2
          refine ⟨⟨(m : Int) - 1, by omega, by omega, rfl, ?_, ?_⟩, ?_⟩
          · rw [HM.out, HT.out, if_neg HQ.out, Int.add_zero]
          · rw [HM.out, HT.out, if_neg HQ.out]; omega
          · simp [intOf]
    · obtain rfl : k = -1 := by omega
      rw [show ((-1 : Int) + 1).toNat = 0 from rfl, acc_abs] at hS ⊢
      clear hk hk0 hk1
      have HS := Lib.hid (fun h => same_sign (x := x) (y := y) h)
      have HO := Lib.hid (fun h => other_sign (x := x) (y := y) h)
      have HB := Lib.hid (show ¬ InR (x * y) ↔ (4611686018427387904 < ((x * y).natAbs : Int) ∨ (x * y = 4611686018427387904)) by unfold InR; omega)
      generalize (x * y).natAbs = M at hS HS HO HB ⊢
      by_cases hb : 4611686018427387904 < (M : Int)
      · go_wp2_with fail
        go_ret2
        exact times_no (HB.out.2 (.inl hb))
      · by_cases hx : x < 0 <;> by_cases hy : y < 0
        · go_wp2_with (go_at_call 55; (with_reducible refine (rnumber_any _ _).mono ?_); rintro e w' ⟨rfl, rfl⟩)
          go_ret2
          exact times_end (by rw [HS.out (by omega)])
        · go_wp2_with (go_at_call 55; (with_reducible refine (rnumber_any _ _).mono ?_); rintro e w' ⟨rfl, rfl⟩)
          go_ret2
          exact times_end (by rw [HO.out (by omega)])
        · go_wp2_with (go_at_call 55; (with_reducible refine (rnumber_any _ _).mono ?_); rintro e w' ⟨rfl, rfl⟩)
          go_ret2
          exact times_end (by rw [HO.out (by omega)])
        · go_wp2_with (go_at_call 55; (with_reducible refine (rnumber_any _ _).mono ?_); rintro e w' ⟨rfl, rfl⟩)
          go_ret2
          exact times_end (by rw [HS.out (by omega)])

/-! ### rounded down -/
theorem tdiv_mul_fits {x y : Int} (hx : InR x) : wrap64 (x.tdiv y * y) = x.tdiv y * y := by
  have e := tdiv_tmod x y
  have h := tmod_le (x := x) (y := y)
  have s := tmod_sign (x := x) (y := y)
  rw [Int.mul_comm] at e
  unfold InR at hx
  generalize x.tdiv y * y = p at *
  exact wrap64_id (by omega) (by omega)
theorem tdiv_mul_ne {x y : Int} : (x.tdiv y * y != x) = (x.tmod y != 0) := by
  have e := tdiv_tmod x y
  rw [Int.mul_comm] at e
  generalize x.tdiv y * y = p at *
  rw [Bool.eq_iff_iff]
  simp only [bne_iff_ne]
  omega
theorem flo_q {x y : Int} (h : x.tmod y = 0 ∨ (x < 0 ∧ y < 0) ∨ (0 ≤ x ∧ 0 ≤ y)) : flo x y = x.tdiv y := by
  unfold flo
  rw [if_neg]
  rintro ⟨h1, h2⟩
  rcases h with h | ⟨h3, h4⟩ | ⟨h3, h4⟩
  · exact h1 h
  · exact h2 (by simp [h3, h4])
  · exact h2 (by rw [decide_eq_false (by omega), decide_eq_false (by omega)])
theorem flo_q1 {x y : Int} (h : x.tmod y ≠ 0) (k : (x < 0 ∧ 0 ≤ y) ∨ (0 ≤ x ∧ y < 0)) : flo x y = x.tdiv y - 1 := by
  unfold flo
  rw [if_pos]
  refine ⟨h, ?_⟩
  rcases k with ⟨h3, h4⟩ | ⟨h3, h4⟩
  · rw [decide_eq_true h3, decide_eq_false (by omega)]; decide
  · rw [decide_eq_false (by omega), decide_eq_true h4]; decide
set_option maxHeartbeats 1000000 in
theorem rfloor_any (x y : Int) (w : World) (hx : InR x) (h0 : y ≠ 0) :
    Calls Tryd.prog 53 #[.int .i64 x, .int .i64 y] w fun e w' => e = .returned (.int .i64 (flo x y)) ∧ w = w' := by
  have hz : (y == 0) = false := by simpa using h0
  have X0 := hx.1
  have X1 := hx.2
  have E1 := tdiv_wrap (y := y) hx
  have E2 := tdiv_mul_fits (y := y) hx
  have hd := tdiv_bd (y := y) hx
  have hd0 := hd.1
  have hd1 := hd.2
  have hne := tdiv_mul_ne (x := x) (y := y)
  clear hd hx
  by_cases hp : 0 ≤ x ∧ 1 ≤ y
  · obtain ⟨hp0, hp1⟩ := hp
    have HQ := Lib.hid (quo_pos (y := y) hp0)
    have F1 : wrap64 (x / y * y) = x / y * y := by rw [HQ.out]; exact E2
    have G := Lib.hid (flo_q (x := x) (y := y) (.inr (.inr ⟨hp0, by omega⟩)))
    by_cases hm : x.tmod y = 0
    · have hb : (x / y * y != x) = false := by rw [HQ.out, hne]; simp [hm]
      have hb2 : (x.tdiv y * y != x) = false := by rw [hne]; simp [hm]
      clear hm hne
      go_enter Tryd.func53, Tryd.ntmps53
      go_wp2
      go_ret
      exact ⟨ret_i64 (by first | exact G.out.symm | (rw [G.out]; exact HQ.out)), rfl⟩
    · have hb : (x / y * y != x) = true := by rw [HQ.out, hne]; simpa using hm
      have hb2 : (x.tdiv y * y != x) = true := by rw [hne]; simpa using hm
      have hs : (!decide (x < 0) == decide (y < 0)) = false := by rw [decide_eq_false (by omega), decide_eq_false (by omega)]; rfl
      clear hm hne
      go_enter Tryd.func53, Tryd.ntmps53
      go_wp2
      go_ret
      exact ⟨ret_i64 (by first | exact G.out.symm | (rw [G.out]; exact HQ.out)), rfl⟩
  · by_cases hm : x.tmod y = 0
    · have hb : (x.tdiv y * y != x) = false := by rw [hne]; simp [hm]
      have G := Lib.hid (flo_q (x := x) (y := y) (.inl hm))
      clear hm hne
      by_cases hx0 : x < 0
      · clear hp
        go_enter Tryd.func53, Tryd.ntmps53
        go_wp2
        go_ret
        exact ⟨ret_i64 G.out.symm, rfl⟩
      · have hy0 : y < 0 := by omega
        clear hp
        go_enter Tryd.func53, Tryd.ntmps53
        go_wp2
        go_ret
        exact ⟨ret_i64 G.out.symm, rfl⟩
    · have hb : (x.tdiv y * y != x) = true := by rw [hne]; simpa using hm
      clear hne
      by_cases hx0 : x < 0
      · clear hp
        by_cases hy0 : y < 0
        · have G := Lib.hid (flo_q (x := x) (y := y) (.inr (.inl ⟨hx0, hy0⟩)))
          clear hm
          go_enter Tryd.func53, Tryd.ntmps53
          go_wp2
          go_ret
          exact ⟨ret_i64 G.out.symm, rfl⟩
        · have G := Lib.hid (flo_q1 (x := x) (y := y) hm (.inl ⟨hx0, by omega⟩))
          clear hm
          go_enter Tryd.func53, Tryd.ntmps53
          go_wp2
          go_ret
          exact ⟨ret_i64 G.out.symm, rfl⟩
      · have hy0 : y < 0 := by omega
        have G := Lib.hid (flo_q1 (x := x) (y := y) hm (.inr ⟨by omega, hy0⟩))
        clear hm hp
        go_enter Tryd.func53, Tryd.ntmps53
        go_wp2
        go_ret
        exact ⟨ret_i64 G.out.symm, rfl⟩
end Go.Proofs.YtmlfooofgedmaaaDoor.Fl
