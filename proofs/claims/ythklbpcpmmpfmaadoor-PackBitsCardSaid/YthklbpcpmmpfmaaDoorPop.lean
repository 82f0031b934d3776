/-
  Contracts of math/bits.OnesCount64 and of package pack's Bits.Below: counting.
-/
import Derived.Test.YthklbpcpmmpfmaaDoorBitsB
import Derived.Test.YthklbpcpmmpfmaaDoorMathP
import Derived.Test.YthklbpcpmmpfmaaDoorMath
import Derived.Test.YthklbpcpmmpfmaaDoorMathB
import Derived.Deep.DeepCutAuto
import Derived.LoopTactic
namespace Go.Proofs.YthklbpcpmmpfmaaDoor.Fl
open Go.RowKit

/-- how many numbers below n have it -/
def cnt (f : Nat → Bool) : Nat → Nat
  | 0 => 0
  | n + 1 => cnt f n + (f n).toNat
theorem cnt_le (f : Nat → Bool) (n : Nat) : cnt f n ≤ n := by
  induction n with
  | zero => exact Nat.le_refl _
  | succ n ih => unfold cnt; cases f n <;> simp [Bool.toNat] <;> omega
theorem cnt_congr {f g : Nat → Bool} (n : Nat) (h : ∀ j, j < n → f j = g j) : cnt f n = cnt g n := by
  induction n with
  | zero => rfl
  | succ n ih => simp only [cnt]; rw [ih (fun j hj => h j (by omega)), h n (by omega)]
theorem cnt_add (f : Nat → Bool) (a b : Nat) : cnt f (a + b) = cnt f a + cnt (fun j => f (a + j)) b := by
  induction b with
  | zero => rfl
  | succ b ih => rw [← Nat.add_assoc]; simp only [cnt]; rw [ih, Nat.add_assoc]
theorem cnt_none (n : Nat) : cnt (fun _ => false) n = 0 := by
  induction n with
  | zero => rfl
  | succ n ih => simp [cnt, ih]
theorem cnt_front (f : Nat → Bool) (n : Nat) : cnt f (n + 1) = (f 0).toNat + cnt (fun j => f (j + 1)) n := by
  rw [Nat.add_comm n, cnt_add]
  simp only [cnt, Nat.zero_add, Nat.add_comm 1]
theorem total_cnt (x n : Nat) : total (bitl x n) = cnt x.testBit n := by
  induction n generalizing x with
  | zero => rfl
  | succ n ih =>
    rw [cnt_front]
    show x % 2 + total (bitl (x / 2) n) = _
    rw [ih]
    have h0 : (x.testBit 0).toNat = x % 2 := by
      rw [Nat.testBit_zero]
      rcases Nat.mod_two_eq_zero_or_one x with h | h <;> simp [h]
    rw [h0]
    congr 1
    exact cnt_congr n fun j _ => by rw [Nat.testBit_succ]
theorem pop_cnt (x : Nat) : pop x = cnt x.testBit 64 := total_cnt x 64
theorem pop_mask (x m : Nat) (hm : m ≤ 64) : pop (x &&& (2 ^ m - 1)) = cnt x.testBit m := by
  rw [pop_cnt, show (64 : Nat) = m + (64 - m) by omega, cnt_add]
  have h1 : cnt (x &&& (2 ^ m - 1)).testBit m = cnt x.testBit m := cnt_congr m fun j hj => by
    rw [Nat.testBit_and, Nat.testBit_two_pow_sub_one]; simp [hj]
  have h2 : cnt (fun j => (x &&& (2 ^ m - 1)).testBit (m + j)) (64 - m) = 0 := by
    rw [cnt_congr (g := fun _ => false) _ fun j _ => by rw [Nat.testBit_and, Nat.testBit_two_pow_sub_one]; simp]
    exact cnt_none _
  rw [h1, h2]; rfl
theorem nat_u64_and {a b : Nat} (ha : a < 18446744073709551616) (hb : b < 18446744073709551616) {z : Nat} (h : a &&& b = z) : bits .and .u64 (a : Int) (b : Int) = (z : Int) := by rw [u64_and_nat _ _ ha hb, h]
theorem w_u64 {n : Nat} (h : n < 18446744073709551616) : IntKind.u64.wrap (n : Int) = (n : Int) := by rw [IntKind.wrap_u64]; omega
theorem step_two {x m d : Nat} {x1 : Nat} (hx : x < 18446744073709551616) (hm : m < 18446744073709551616) (h : (x / d &&& m) + (x &&& m) = x1) (h1 : x1 < 18446744073709551616) :
    IntKind.u64.wrap (bits .and .u64 ((x : Int) / (d : Int)) (m : Int) + bits .and .u64 (x : Int) (m : Int)) = (x1 : Int) := by
  have hd : x / d ≤ x := Nat.div_le_self _ _
  rw [show (x : Int) / (d : Int) = ((x / d : Nat) : Int) by simp, u64_and_nat _ _ (by omega) hm, u64_and_nat _ _ hx hm, ← Int.natCast_add, h]
  exact w_u64 h1
theorem step_sum {x d y : Nat} (h : x + x / d = y) (h1 : y < 18446744073709551616) : IntKind.u64.wrap ((x : Int) + (x : Int) / (d : Int)) = (y : Int) := by
  rw [show (x : Int) / (d : Int) = ((x / d : Nat) : Int) by simp, ← Int.natCast_add, h]
  exact w_u64 h1
theorem step_sum' {x d y : Nat} (h : x / d + x = y) (h1 : y < 18446744073709551616) : IntKind.u64.wrap ((x : Int) / (d : Int) + (x : Int)) = (y : Int) := by
  rw [show (x : Int) / (d : Int) = ((x / d : Nat) : Int) by simp, ← Int.natCast_add, h]
  exact w_u64 h1
theorem i64_and127 {t : Nat} (h : t < 18446744073709551616) : bits .and .i64 (wrap64 (t : Int)) 127 = ((t % 128 : Nat) : Int) := by
  rw [and_i64, show u 127 = 2 ^ 7 - 1 from rfl, Nat.and_two_pow_sub_one_eq_mod]
  unfold wrap64 u
  omega
set_option maxHeartbeats 1000000 in
theorem ones_any (x : Nat) (w : World) (hx : x < 18446744073709551616) :
    Calls Tryd.prog 51 #[.int .u64 (x : Int)] w fun e w' => e = .returned (.int .i64 (pop x : Nat)) ∧ w' = w := by
  obtain ⟨x1, x2, s3, x3, y, z, t, l1, l1b, l2, l2b, l3, l3b, l4, l5, l6, l7, l5b, l6b, l7b, l8⟩ := pop_steps x hx
  have h3b : x3 < 18446744073709551616 := by rw [← l4]; exact Nat.lt_of_le_of_lt Nat.and_le_left l3b
  have e1 : IntKind.u64.wrap (bits .and .u64 ((x : Int) / 2) 6148914691236517205 + bits .and .u64 (x : Int) 6148914691236517205) = (x1 : Int) := step_two (d := 2) (m := 6148914691236517205) hx (by decide) l1 l1b
  have e2 : IntKind.u64.wrap (bits .and .u64 ((x1 : Int) / 4) 3689348814741910323 + bits .and .u64 (x1 : Int) 3689348814741910323) = (x2 : Int) := step_two (d := 4) (m := 3689348814741910323) l1b (by decide) l2 l2b
  have e3 : IntKind.u64.wrap ((x2 : Int) / 16 + (x2 : Int)) = (s3 : Int) := step_sum' (d := 16) l3 l3b
  have e4 : bits .and .u64 (s3 : Int) 1085102592571150095 = (x3 : Int) := nat_u64_and (b := 1085102592571150095) l3b (by decide) l4
  have e5 : IntKind.u64.wrap ((x3 : Int) + (x3 : Int) / 256) = (y : Int) := step_sum (d := 256) l5 l5b
  have e6 : IntKind.u64.wrap ((y : Int) + (y : Int) / 65536) = (z : Int) := step_sum (d := 65536) l6 l6b
  have e7 : IntKind.u64.wrap ((z : Int) + (z : Int) / 4294967296) = (t : Int) := step_sum (d := 4294967296) l7 l7b
  have e8 := i64_and127 l7b
  rw [l8] at e8
  have HP := Lib.hid (pop_le x)
  generalize pop x = p at e8 HP
  clear l1 l2 l3 l4 l5 l6 l7 l8 l1b l2b l3b l5b l6b l7b h3b hx
  go_enter Tryd.func51, Tryd.ntmps51
  go_wp2
  go_ret
  exact ⟨rfl, rfl⟩

/-! ### Bits.Below -/
theorem retP_i64' {a b : Int} (h : a = b) : Ending.returned (.int .i64 a) = .returned (.int .i64 b) := by rw [h]
theorem val_i64 {a b : Int} (h : a = b) : Value.int .i64 a = .int .i64 b := by rw [h]
theorem list_any (g g2 n : Nat) (ws : List Nat) (w : World) (h : BitsAt w g g2 n ws) :
    Calls Tryd.prog 50 #[.pointer (some ⟨g, 0, none⟩)] w fun e w' => ∃ c : Nat, e = .returned (.slice (some ⟨g2, 0, none⟩) ws.length c) ∧ w = w' := by
  obtain ⟨cc, c1⟩ := h.c1
  go_enter Tryd.func50, Tryd.ntmps50
  go_wp2
  go_ret
  exact ⟨_, rfl, rfl⟩
theorem cnt_word {ws : List Nat} {a : Nat} (ha : a < ws.length) (m : Nat) (hm : m ≤ 64) : cnt (bitAt ws) (64 * a + m) = cnt (bitAt ws) (64 * a) + cnt ws[a].testBit m := by
  rw [cnt_add]
  congr 1
  exact cnt_congr m fun j hj => bitAt_word ha (by omega)
theorem cnt_zero (f : Nat → Bool) : cnt f 0 = 0 := rfl
theorem two64 {m : Nat} (h : m < 64) : 2 ^ m < 18446744073709551616 := two_lt h
attribute [local irreducible] cnt pop
def BelowPost (ws : List Nat) (i : Nat) (w : World) (e : Ending) (w' : World) : Prop := ∃ q : Nat, e = .returned (.int .i64 (cnt (bitAt ws) i : Nat)) ∧ w.drewN q = w'
set_option maxHeartbeats 2000000 in
theorem below_nat (g g2 n i : Nat) (z : Int) (ws : List Nat) (w : World) (h : BitsAt w g g2 n ws) (hz : min (max z 0) (n : Int) = (i : Int)) :
    Calls Tryd.prog 19 #[.pointer (some ⟨g, 0, none⟩), .int .i64 z] w (BelowPost ws i w) := by
  have hin : i ≤ n := by omega
  have hs := h.small
  have hl := h.len
  have hil : i / 64 ≤ ws.length := by omega
  have HZ := Lib.hid hz
  have HL := Lib.hid hl
  have hll : ws.length ≤ 262144 := by omega
  clear hz hl
  go_enter Tryd.func19, Tryd.ntmps19
  go_upto_region 1 with (fail)
  go_cut [1] (fun v wx => v = .int .i64 (i : Int) ∧ wx = w)
  case first =>
    go_wp2_with (go_at_call 12; (with_reducible refine (size_any _ _ _ _ _ h).mono ?_); rintro e w' ⟨rfl, rfl⟩)
    all_goals go_meet
    all_goals exact ⟨val_i64 (by have := HZ.out; omega), rfl⟩
  case rest =>
    obtain ⟨rfl, rfl⟩ := hcut
    go_wp2_with (go_at_call 50; (with_reducible refine (list_any _ _ _ _ _ h).mono ?_); rintro e w' ⟨cc, rfl, rfl⟩)
    go_loop [6, 17] (fun v6 v17 => ∃ a : Nat, a ≤ i / 64 ∧ v17 = .int .i64 a ∧ v6 = .int .i64 ((cnt (bitAt ws) (64 * a) : Nat) : Int)) (fun _ v17 => i / 64 - (intOf v17).toNat)
    case atStart => exact ⟨0, Nat.zero_le _, rfl, val_i64 (by rw [Nat.mul_zero, cnt_zero]; rfl)⟩
    case round =>
      obtain ⟨a, ha, rfl, rfl⟩ := hrel
      by_cases hlt : a < i / 64
      · have hal : a < ws.length := by omega
        have hc := h.cw_ hal
        have hcb := cnt_le (bitAt ws) (64 * a)
        have hpw := Lib.hid (cnt_word hal 64 (Nat.le_refl _))
        have hpp := pop_le ws[a]
        have HPC := Lib.hid (pop_cnt ws[a])
        have hon := fun w' => ones_any ws[a] w' (h.word hal)
        generalize pop ws[a] = p at hon hpp HPC
        go_wp2_with fail
        refine (hon _).mono ?_
        rintro e w' ⟨rfl, rfl⟩
        go_wp2_with fail
        go_round
        case rel => exact ⟨a + 1, by omega, by simp, val_i64 (by rw [show 64 * (a + 1) = 64 * a + 64 by omega, hpw.out, HPC.out]; simp)⟩
        case measure => simp [intOf]; omega
      · obtain rfl : a = i / 64 := by omega
        have hcb := cnt_le (bitAt ws) (64 * (i / 64))
        by_cases h0 : i % 64 = 0
        · have hm : ((i : Int) % 64 != 0) = false := by simp; omega
          have HE := Lib.hid (show 64 * (i / 64) = i by omega)
          clear h0
          go_wp2_with fail
          go_ret
          exact ⟨0, by rw [HE.out]; rfl, rfl⟩
        · have hm : ((i : Int) % 64 != 0) = true := by simp; omega
          have hal : i / 64 < ws.length := by have := HL.out; omega
          have hc := h.cw_ hal
          have h2 := two_lt (m := i % 64) (by omega)
          have hp1 : 1 ≤ 2 ^ (i % 64) := Nat.one_le_two_pow
          have hand := u64_and_nat ws[i / 64] (2 ^ (i % 64) - 1) (h.word hal) (by omega)
          have HW := Lib.hid (cnt_word hal (i % 64) (by omega))
          have HM := Lib.hid (pop_mask ws[i / 64] (i % 64) (by omega))
          have HE := Lib.hid (show 64 * (i / 64) + i % 64 = i by omega)
          have hyl : ws[i / 64] &&& (2 ^ (i % 64) - 1) < 18446744073709551616 := Nat.lt_of_le_of_lt Nat.and_le_left (h.word hal)
          have hpl := pop_le (ws[i / 64] &&& (2 ^ (i % 64) - 1))
          have hon := fun w' => ones_any (ws[i / 64] &&& (2 ^ (i % 64) - 1)) w' hyl
          have hbq := fun w' => below_q i w' (by omega)
          generalize ws[i / 64] &&& (2 ^ (i % 64) - 1) = y at hand HM hyl hpl hon
          generalize 2 ^ (i % 64) - 1 = p at hand hbq
          clear h2 hp1 h0 hyl
          generalize pop y = r at *
          go_wp2_with fail
          go_quiet (first
            | (go_at_call 51; exact Calls.quiet_of_same (hon _))
            | (go_at_call 48; exact Calls.quiet_of_same (hbq _)))
          go_wp2_with fail
          go_ret
          refine ⟨nq, retP_i64' ?_, rfl⟩
          have e1 := HW.out
          rw [HE.out] at e1
          rw [e1, ← HM.out]; simp
end Go.Proofs.YthklbpcpmmpfmaaDoor.Fl
