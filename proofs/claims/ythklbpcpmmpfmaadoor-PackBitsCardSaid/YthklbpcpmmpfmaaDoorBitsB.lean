/-
  Contract of package pack's sets: Next.
-/
import Derived.Test.YthklbpcpmmpfmaaDoorBits
import Derived.Deep.DeepCutAuto
namespace Go.Proofs.YthklbpcpmmpfmaaDoor.Fl
open Go.RowKit

/-- r is the least number of the set from i on, or -1 -/
def IsNext (ws : List Nat) (n i : Nat) (r : Int) : Prop :=
  (r = -1 ∧ ∀ k, i ≤ k → bitAt ws k = false) ∨ ∃ k : Nat, r = k ∧ i ≤ k ∧ k < n ∧ bitAt ws k = true ∧ ∀ j, i ≤ j → j < k → bitAt ws j = false
/-- what the loop holds: word number a has been masked so that only numbers from m on are in x -/
structure NextInv (ws : List Nat) (m a x : Nat) : Prop where
  lo : ∀ k, m ≤ k → k < 64 * a → bitAt ws k = false
  wd : ∀ j, j < 64 → x.testBit j = (decide (m ≤ 64 * a + j) && bitAt ws (64 * a + j))
theorem bitAt_word {ws : List Nat} {a j : Nat} (ha : a < ws.length) (hj : j < 64) : bitAt ws (64 * a + j) = ws[a].testBit j := by
  unfold bitAt
  rw [bit_div, show (64 * a + j) / 64 = a by omega, show (64 * a + j) % 64 = j by omega, List.getD_eq_getElem?_getD, List.getElem?_eq_getElem ha]; rfl
theorem mask_bits (x m j : Nat) : ((x / 2 ^ m) * 2 ^ m).testBit j = (decide (m ≤ j) && x.testBit j) := by
  rw [Nat.testBit_mul_two_pow, Nat.testBit_div_two_pow]
  by_cases h : m ≤ j
  · simp [h, Nat.sub_add_cancel h]
  · simp [h]
theorem andNot_w {x m : Nat} (hx : x < 18446744073709551616) (hm : m < 64) : bits .andNot .u64 (x : Int) ((2 ^ m - 1 : Nat) : Int) = ((x / 2 ^ m * 2 ^ m : Nat) : Int) := by
  have h2 := two_lt hm
  have hp : 1 ≤ 2 ^ m := Nat.one_le_two_pow
  rw [u64_andNot_nat _ _ hx (by omega)]
  congr 1
  apply Nat.eq_of_testBit_eq
  intro j
  rw [mask_bits, Nat.testBit_and]
  have e : (18446744073709551615 - (2 ^ m - 1)) = 2 ^ 64 - ((2 ^ m - 1) + 1) := by
    have e64 : (2 : Nat) ^ 64 = 18446744073709551616 := by decide
    omega
  rw [e, Nat.testBit_two_pow_sub_succ (by have e64 : (2 : Nat) ^ 64 = 18446744073709551616 := by decide
                                          omega), Nat.testBit_two_pow_sub_one]
  by_cases h : m ≤ j
  · by_cases hj : j < 64
    · simp [h, hj, show ¬ j < m by omega]
    · have : x.testBit j = false := Nat.testBit_lt_two_pow (Nat.lt_of_lt_of_le hx (by
        have : (2 : Nat) ^ 64 ≤ 2 ^ j := Nat.pow_le_pow_right (by decide) (by omega)
        have e64 : (2 : Nat) ^ 64 = 18446744073709551616 := by decide
        omega))
      simp [this]
  · simp [h, show j < m by omega]
theorem next_start {ws : List Nat} {m : Nat} (h : m / 64 < ws.length) : NextInv ws m (m / 64) (ws[m / 64] / 2 ^ (m % 64) * 2 ^ (m % 64)) := by
  refine ⟨fun k h1 h2 => by omega, fun j hj => ?_⟩
  rw [mask_bits, bitAt_word h hj]
  congr 1
  rw [Bool.eq_iff_iff]; simp; omega
theorem next_step {ws : List Nat} {m a : Nat} (hm : m / 64 ≤ a) (h : NextInv ws m a 0) (ha : a + 1 < ws.length) : NextInv ws m (a + 1) ws[a + 1] := by
  refine ⟨fun k h1 h2 => ?_, fun j hj => ?_⟩
  · by_cases hk : k < 64 * a
    · exact h.lo k h1 hk
    · have := h.wd (k - 64 * a) (by omega)
      rw [show 64 * a + (k - 64 * a) = k by omega] at this
      simp [h1] at this
      exact this
  · rw [bitAt_word ha hj]; simp; omega
theorem next_end {ws : List Nat} {n m a : Nat} (h : NextInv ws m a 0) (ha : a + 1 = ws.length) (hl : ws.length = (n + 63) / 64) (ht : ∀ k, n ≤ k → bitAt ws k = false) : IsNext ws n m (-1) := by
  refine .inl ⟨rfl, fun k hk => ?_⟩
  by_cases h1 : k < 64 * a
  · exact h.lo k hk h1
  · by_cases h2 : k < 64 * (a + 1)
    · have := h.wd (k - 64 * a) (by omega)
      rw [show 64 * a + (k - 64 * a) = k by omega] at this
      simp [hk] at this
      exact this
    · exact ht k (by omega)
theorem ctz_bits {x : Nat} (hx : x < 18446744073709551616) (h0 : x ≠ 0) : Lib.ctz 64 x < 64 ∧ x.testBit (Lib.ctz 64 x) = true ∧ ∀ j, j < Lib.ctz 64 x → x.testBit j = false := by
  obtain ⟨m, hm, hk⟩ := Lib.ctzFrom_spec 64 x (by omega) hx
  have e : Lib.ctz 64 x = Lib.ctzFrom 64 x := by simp [Lib.ctz, h0]
  rw [e]
  generalize Lib.ctzFrom 64 x = c at hm hk
  refine ⟨hk, ?_, fun j hj => ?_⟩
  · rw [hm, Nat.mul_comm, Nat.testBit_mul_two_pow]; simp
  · rw [hm, Nat.mul_comm, Nat.testBit_mul_two_pow]; simp; omega
theorem next_found {ws : List Nat} {n m a x : Nat} (h : NextInv ws m a x) (hx : x < 18446744073709551616) (h0 : x ≠ 0) (ht : ∀ k, n ≤ k → bitAt ws k = false) : IsNext ws n m ((a : Int) * 64 + (Lib.ctz 64 x : Nat)) := by
  obtain ⟨h1, h2, h3⟩ := ctz_bits hx h0
  have hw := h.wd _ h1
  rw [h2] at hw
  have hw' : m ≤ 64 * a + Lib.ctz 64 x ∧ bitAt ws (64 * a + Lib.ctz 64 x) = true := by
    have := hw.symm; simpa using this
  refine .inr ⟨64 * a + Lib.ctz 64 x, by omega, hw'.1, ?_, hw'.2, fun j hj1 hj2 => ?_⟩
  · rcases Nat.lt_or_ge (64 * a + Lib.ctz 64 x) n with h | h
    · exact h
    · rw [ht _ h] at hw'; exact absurd hw'.2 (by decide)
  · by_cases hja : j < 64 * a
    · exact h.lo j hj1 hja
    · have h4 := h.wd (j - 64 * a) (by omega)
      rw [h3 _ (by omega), show 64 * a + (j - 64 * a) = j by omega] at h4
      simp [hj1] at h4
      exact h4

theorem below_q (i : Nat) (w : World) (hi : i ≤ 16777216) :
    Calls Tryd.prog 48 #[.int .i64 (i : Int)] w fun e w' => e = .returned (.int .u64 ((2 ^ (i % 64) - 1 : Nat) : Int)) ∧ w' = w := (below_in i w hi).mono fun _ _ ⟨h1, h2⟩ => ⟨h1, h2.symm⟩
theorem BitsAt.drewN {w : World} {g g2 n : Nat} {ws : List Nat} (h : BitsAt w g g2 n ws) (q : Nat) : BitsAt (w.drewN q) g g2 n ws := h.at_ rfl rfl
theorem EnvB.drewN {w : World} (h : EnvB w) (q : Nat) : EnvB (w.drewN q) := fun j hj => h j hj
theorem vInt {k : IntKind} {a b : Int} (h : a = b) : Value.int k a = .int k b := by rw [h]
def NextPost (ws : List Nat) (n i : Nat) (w : World) (e : Ending) (w' : World) : Prop := ∃ (r : Int) (q : Nat), e = .returned (.int .i64 r) ∧ IsNext ws n i r ∧ w.drewN q = w'
set_option maxHeartbeats 1000000 in
theorem next_any (g g2 n m : Nat) (z : Int) (ws : List Nat) (w : World) (h : BitsAt w g g2 n ws) (he : EnvB w) (hz : max z 0 = (m : Int)) :
    Calls Tryd.prog 17 #[.pointer (some ⟨g, 0, none⟩), .int .i64 z] w (NextPost ws n m w) := by
  have HZ := Lib.hid hz
  clear hz
  by_cases hm : m < n
  · obtain ⟨cc, c1⟩ := h.c1
    have hix := h.idx hm
    have c2 := h.cw_ hix
    have hs := h.small
    have hl : ws.length ≤ 262144 := by have := h.len; omega
    have ha := andNot_w (h.word hix) (m := m % 64) (by omega)
    have HI := Lib.hid (next_start hix)
    have hxl : ws[m / 64] / 2 ^ (m % 64) * 2 ^ (m % 64) < 18446744073709551616 := Nat.lt_of_le_of_lt (Nat.div_mul_le_self _ _) (h.word hix)
    have HX := Lib.hid hxl
    clear hxl
    generalize ws[m / 64] / 2 ^ (m % 64) * 2 ^ (m % 64) = x0 at ha HI HX
    go_enter Tryd.func17, Tryd.ntmps17
    go_upto_region 1 with (fail)
    go_cut [1] (fun v wx => v = .int .i64 (m : Int) ∧ w = wx)
    case first =>
      go_wp2_with fail
      all_goals go_meet
      all_goals exact ⟨vInt (by have := HZ.out; omega), rfl⟩
    case rest =>
     obtain ⟨rfl, rfl⟩ := hcut
     go_wp2_with (go_at_call 47; (with_reducible refine (may_yes _ _ _ m _ _ h hm).mono ?_); rintro e w' ⟨rfl, rfl⟩)
     go_quiet ((go_at_call 48; exact Calls.quiet_of_same (below_q m _ (by omega))))
     go_wp2_with fail
     go_loopw [5, 6] (fun c d wr => ∃ (a x q : Nat), c = .int .i64 (a : Int) ∧ d = .int .u64 (x : Int) ∧ Hid (a < ws.length ∧ m / 64 ≤ a ∧ x < 18446744073709551616) ∧ Hid (NextInv ws m a x) ∧ w.drewN q = wr) (fun c _ _ => ws.length - (intOf c).toNat)
     case atStart => exact ⟨m / 64, x0, nq, by simp, rfl, Lib.hid ⟨hix, Nat.le_refl _, HX.out⟩, HI, rfl⟩
     case round =>
       obtain ⟨a, x, q, rfl, rfl, HB, HV, rfl⟩ := hrel
       have hal := HB.out.1
       have c1' : (w.drewN q).cell? ⟨g, 1, none⟩ = _ := c1
       by_cases hx : x = 0
       · subst hx
         by_cases hl2 : a + 1 = ws.length
         · have HE := Lib.hid (next_end HV.out hl2 h.len h.top)
           go_wp2_with fail
           go_ret
           exact ⟨_, _, rfl, HE.out, rfl⟩
         · have hc := h.cw_ (k := a + 1) (by omega)
           have hc' : (w.drewN q).cell? ⟨g2, a + 1, none⟩ = _ := hc
           have HS := Lib.hid (next_step HB.out.2.1 HV.out (by omega))
           go_wp2_with fail
           go_roundw
           case rel => exact ⟨a + 1, ws[a + 1], q, by simp, rfl, Lib.hid ⟨by omega, by have := HB.out.2.1; omega, h.word (by omega)⟩, HS, rfl⟩
           case measure => simp [intOf]; omega
       · have HF := Lib.hid (next_found HV.out HB.out.2.2 hx h.top)
         have hxl := HB.out.2.2
         have hct : Lib.ctz 64 x < 64 := (ctz_bits hxl hx).1
         go_wp2_with (go_at_call 49; (with_reducible refine (tz_any x _ hxl hx (he.drewN q)).mono ?_); rintro e w' ⟨rfl, rfl⟩)
         go_ret
         exact ⟨_, _, rfl, HF.out, rfl⟩
  · have HN := Lib.hid (show (m : Int) < 0 ∨ (n : Int) ≤ (m : Int) by omega)
    have HR := Lib.hid (show IsNext ws n m (-1) from .inl ⟨rfl, fun k hk => h.top k (by omega)⟩)
    clear hm
    go_enter Tryd.func17, Tryd.ntmps17
    go_upto_region 1 with (fail)
    go_cut [1] (fun v wx => v = .int .i64 (m : Int) ∧ w = wx)
    case first =>
      go_wp2_with fail
      all_goals go_meet
      all_goals exact ⟨vInt (by have := HZ.out; omega), rfl⟩
    case rest =>
     obtain ⟨rfl, rfl⟩ := hcut
     go_wp2_with (go_at_call 47; (with_reducible refine (may_no _ _ _ (m : Int) _ _ h HN.out).mono ?_); rintro e w' ⟨rfl, rfl⟩)
     go_ret
     exact ⟨_, 0, rfl, HR.out, rfl⟩
theorem next_nat (g g2 n m : Nat) (ws : List Nat) (w : World) (h : BitsAt w g g2 n ws) (he : EnvB w) :
    Calls Tryd.prog 17 #[.pointer (some ⟨g, 0, none⟩), .int .i64 (m : Int)] w (NextPost ws n m w) := next_any g g2 n m _ ws w h he (by omega)
end Go.Proofs.YthklbpcpmmpfmaaDoor.Fl
