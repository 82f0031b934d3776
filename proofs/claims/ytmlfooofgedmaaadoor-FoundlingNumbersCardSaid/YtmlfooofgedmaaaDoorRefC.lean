/-
  Contracts of the document's own answers for layer 1: Shift.
-/
import Derived.Test.YtmlfooofgedmaaaDoorRefB
namespace Go.Proofs.YtmlfooofgedmaaaDoor.Fl
open Go.RowKit

theorem shR_neg {x y : Int} (h : y < 0) : shR x y = shR (x / 2) (y + 1) := by
  unfold shR
  rw [if_pos h]
  obtain ⟨n, hn⟩ : ∃ n : Nat, (-y).toNat = n + 1 := ⟨(-y).toNat - 1, by omega⟩
  rw [hn]
  by_cases h1 : y + 1 < 0
  · rw [if_pos h1, show (-(y + 1)).toNat = n by omega, Int.pow_succ', ← Int.ediv_ediv_of_nonneg (by decide)]
  · rw [if_neg h1, show (y + 1).toNat = 0 by omega]
    obtain rfl : n = 0 := by omega
    simp
theorem shR_pos {x y : Int} (h : 0 < y) : shR x y = shR (2 * x) (y - 1) := by
  unfold shR
  rw [if_neg (by omega), if_neg (by omega)]
  obtain ⟨n, hn⟩ : ∃ n : Nat, y.toNat = n + 1 := ⟨y.toNat - 1, by omega⟩
  rw [hn, show (y - 1).toNat = n by omega, Int.pow_succ', ← Int.mul_assoc, Int.mul_comm x 2]
theorem shR_zero (y : Int) : shR 0 y = 0 := by unfold shR; split <;> simp
theorem shR_m1 {y : Int} (h : y < 0) : shR (-1) y = -1 := by
  unfold shR
  rw [if_pos h]
  obtain ⟨n, hn⟩ : ∃ n : Nat, (-y).toNat = n + 1 := ⟨(-y).toNat - 1, by omega⟩
  rw [hn]
  have hp := pow_pos' (n + 1)
  have h1 := pow_le 1 (n + 1) (by omega)
  apply Int.le_antisymm
  · have := Int.ediv_lt_of_lt_mul (a := -1) (b := 0) (c := 2 ^ (n + 1)) hp (by omega)
    omega
  · exact Int.le_ediv_of_mul_le hp (by omega)
theorem shR_y0 (x : Int) : shR x 0 = x := by unfold shR; simp
theorem shR_grow {x y : Int} (h : 0 ≤ y) (hn : ¬ InR x) : ¬ InR (shR x y) := by
  unfold shR
  rw [if_neg (by omega)]
  have hp := pow_pos' y.toNat
  intro hi
  unfold InR at *
  rcases Int.lt_trichotomy x 0 with h0 | h0 | h0
  · have : x * 2 ^ y.toNat ≤ x * 1 := Int.mul_le_mul_of_nonpos_left (by omega) (by omega)
    omega
  · omega
  · have : x * 1 ≤ x * 2 ^ y.toNat := Int.mul_le_mul_of_nonneg_left (by omega) (by omega)
    omega
theorem half_neg {x : Int} (h : x < 0) : (if x.tmod 2 = 0 then x.tdiv 2 else x.tdiv 2 - 1) = x / 2 := by
  have e1 : x.tdiv 2 = -((-x) / 2) := by rw [show x = -(-x) by omega, Int.neg_tdiv, Int.tdiv_eq_ediv_of_nonneg (by omega)]; simp
  have e2 : x.tmod 2 = -((-x) % 2) := by rw [show x = -(-x) by omega, Int.neg_tmod, Int.tmod_eq_emod_of_nonneg (by omega)]; simp
  rw [e1, e2]
  split <;> omega

/-- what Shift comes to: the number where there is such a one; else it says no -/
def ShiftPost (x y : Int) (w : World) (e : Ending) (w' : World) : Prop := e = .returned (.tuple #[.int .i64 (if InR (shR x y) then shR x y else 0), .bool (decide (InR (shR x y)))]) ∧ w = w'
theorem shift_no {x y : Int} {w : World} (h : ¬ InR (shR x y)) : ShiftPost x y w (.returned (.tuple #[.int .i64 0, .bool false])) w := ⟨by rw [if_neg h, decide_eq_false h], rfl⟩
theorem shift_yes {x y n : Int} {w : World} (h : InR n) (hn : shR x y = n) : ShiftPost x y w (.returned (.tuple #[.int .i64 n, .bool true])) w := ⟨by rw [hn, if_pos h, decide_eq_true h], rfl⟩

set_option maxHeartbeats 2000000 in
theorem rshift_any (x y : Int) (w : World) (hx : InR x) (hy : InR y) :
    Calls Tryd.prog 54 #[.int .i64 x, .int .i64 y] w (ShiftPost x y w) := by
  have HX := Lib.hid hx
  have HY := Lib.hid hy
  clear hx hy
  go_enter Tryd.func54, Tryd.ntmps54
  go_wp2_with fail
  go_loop [0, 1] (fun s t => ∃ a b : Int, Hid (InR a) ∧ Hid (InR b) ∧ s = .int .i64 a ∧ t = .int .i64 b ∧ Hid (shR a b = shR x y)) (fun s _ => (intOf s).natAbs)
  case atStart => exact ⟨x, y, HX, HY, rfl, rfl, Lib.hid rfl⟩
  case round =>
    obtain ⟨a, b, HA, HB, rfl, rfl, HR⟩ := hrel
    have a0 := HA.out.1
    have a1 := HA.out.2
    have b0 := HB.out.1
    have b1 := HB.out.2
    by_cases hb : b < 0
    · by_cases h1 : a = 0
      · have hz : (a != 0) = false := by simp [h1]
        have H1 := Lib.hid h1
        clear h1
        go_wp2_with fail
        go_loop [0, 1] (fun s t => ∃ c d : Int, Hid (InR c) ∧ Hid (InR d) ∧ s = .int .i64 c ∧ t = .int .i64 d ∧ Hid (shR c d = shR x y) ∧ (0 ≤ d ∨ c = 0 ∨ c = -1)) (fun _ t => (intOf t).toNat)
        case atStart => exact ⟨a, b, HA, HB, rfl, rfl, HR, by have := H1.out; omega⟩
        case round =>
          obtain ⟨c, d, HC, HD, rfl, rfl, HR2, hcd⟩ := hrel
          have c0 := HC.out.1
          have c1 := HC.out.2
          have d0 := HD.out.1
          have d1 := HD.out.2
          by_cases hd : 0 < d
          · by_cases hc : c = 0
            · have HC0 := Lib.hid hc
              have hz : (c != 0) = false := by simp [hc]
              clear hc hcd
              go_wp2_with fail
              go_ret2
              exact shift_yes HC.out (by rw [← HR2.out, HC0.out, shR_zero])
            · have hz : (c != 0) = true := by simpa using hc
              have HR3 := Lib.hid ((shR_pos (x := c) hd).symm.trans HR2.out)
              clear hc hcd
              by_cases hi : InR (2 * c)
              · have HI := Lib.hid hi
                clear hi
                go_wp2_with (go_at_call 55; (with_reducible refine (rnumber_yes _ _ HI.out).mono ?_); rintro e w' ⟨rfl, rfl⟩)
                refine ⟨⟨2 * c, d - 1, HI, Lib.hid (by unfold InR; omega), rfl, rfl, HR3, .inl (by omega)⟩, ?_⟩
                simp [intOf]; omega
              · have HI := Lib.hid hi
                clear hi
                go_wp2_with (go_at_call 55; (with_reducible refine (rnumber_no _ _ HI.out).mono ?_); rintro e w' ⟨rfl, rfl⟩)
                go_ret2
                exact shift_no (by rw [← HR3.out]; exact shR_grow (by omega) HI.out)
          · have HE := Lib.hid (show shR x y = c by
              rw [← HR2.out]
              rcases hcd with h | h | h
              · obtain rfl : d = 0 := by omega
                exact shR_y0 c
              · rw [h]; exact shR_zero d
              · by_cases hd0 : d < 0
                · rw [h]; exact shR_m1 hd0
                · obtain rfl : d = 0 := by omega
                  exact shR_y0 c)
            clear hcd
            go_wp2_with fail
            go_ret2
            exact shift_yes HC.out HE.out
      · have hz : (a != 0) = true := by simpa using h1
        by_cases h2 : a = -1
        · have hz2 : (a != -1) = false := by simp [h2]
          have H2 := Lib.hid h2
          clear h1 h2
          go_wp2_with fail
          go_loop [0, 1] (fun s t => ∃ c d : Int, Hid (InR c) ∧ Hid (InR d) ∧ s = .int .i64 c ∧ t = .int .i64 d ∧ Hid (shR c d = shR x y) ∧ (0 ≤ d ∨ c = 0 ∨ c = -1)) (fun _ t => (intOf t).toNat)
          case atStart => exact ⟨a, b, HA, HB, rfl, rfl, HR, by have := H2.out; omega⟩
          case round =>
            obtain ⟨c, d, HC, HD, rfl, rfl, HR2, hcd⟩ := hrel
            have c0 := HC.out.1
            have c1 := HC.out.2
            have d0 := HD.out.1
            have d1 := HD.out.2
            by_cases hd : 0 < d
            · by_cases hc : c = 0
              · have HC0 := Lib.hid hc
                have hz : (c != 0) = false := by simp [hc]
                clear hc hcd
                go_wp2_with fail
                go_ret2
                exact shift_yes HC.out (by rw [← HR2.out, HC0.out, shR_zero])
              · have hz : (c != 0) = true := by simpa using hc
                have HR3 := Lib.hid ((shR_pos (x := c) hd).symm.trans HR2.out)
                clear hc hcd
                by_cases hi : InR (2 * c)
                · have HI := Lib.hid hi
                  clear hi
                  go_wp2_with (go_at_call 55; (with_reducible refine (rnumber_yes _ _ HI.out).mono ?_); rintro e w' ⟨rfl, rfl⟩)
                  refine ⟨⟨2 * c, d - 1, HI, Lib.hid (by unfold InR; omega), rfl, rfl, HR3, .inl (by omega)⟩, ?_⟩
                  simp [intOf]; omega
                · have HI := Lib.hid hi
                  clear hi
                  go_wp2_with (go_at_call 55; (with_reducible refine (rnumber_no _ _ HI.out).mono ?_); rintro e w' ⟨rfl, rfl⟩)
                  go_ret2
                  exact shift_no (by rw [← HR3.out]; exact shR_grow (by omega) HI.out)
            · have HE := Lib.hid (show shR x y = c by
                rw [← HR2.out]
                rcases hcd with h | h | h
                · obtain rfl : d = 0 := by omega
                  exact shR_y0 c
                · rw [h]; exact shR_zero d
                · by_cases hd0 : d < 0
                  · rw [h]; exact shR_m1 hd0
                  · obtain rfl : d = 0 := by omega
                    exact shR_y0 c)
              clear hcd
              go_wp2_with fail
              go_ret2
              exact shift_yes HC.out HE.out
        · have hz2 : (a != -1) = true := by simpa using h2
          have HR3 := Lib.hid ((shR_neg (x := a) hb).symm.trans HR.out)
          have HM := Lib.hid (show (a / 2).natAbs < a.natAbs by omega)
          have HI := Lib.hid (show InR (a / 2) by unfold InR; omega)
          by_cases hn : a < 0
          · have hh := half_neg hn
            have E := tdiv_wrap (y := 2) HA.out
            have hd0 := (tdiv_bd (y := 2) HA.out).1
            have hd1 := (tdiv_bd (y := 2) HA.out).2
            by_cases hm : a.tmod 2 = 0
            · rw [if_pos hm] at hh
              have HH := Lib.hid hh
              have hm2 : (a.tmod 2 != 0) = false := by simp [hm]
              clear hm hh h1 h2
              go_wp2
              refine ⟨⟨a / 2, b + 1, HI, Lib.hid (by unfold InR; omega), by rw [← HH.out], rfl, HR3⟩, ?_⟩
              have := HM.out; have := HH.out; simp [intOf]; first | omega | exact Nat.div_lt_self (by omega) (by decide)
            · rw [if_neg hm] at hh
              have HH := Lib.hid hh
              have hm2 : (a.tmod 2 != 0) = true := by simpa using hm
              clear hm hh h1 h2
              go_wp2
              refine ⟨⟨a / 2, b + 1, HI, Lib.hid (by unfold InR; omega), by rw [← HH.out], rfl, HR3⟩, ?_⟩
              have := HM.out; have := HH.out; simp [intOf]; first | omega | exact Nat.div_lt_self (by omega) (by decide)
          · have hp : 0 ≤ a := by omega
            clear h1 h2 hn
            go_wp2
            refine ⟨⟨a / 2, b + 1, HI, Lib.hid (by unfold InR; omega), rfl, rfl, HR3⟩, ?_⟩
            have := HM.out; simp [intOf]; omega
    · have hp : 0 ≤ b := by omega
      clear hb
      go_wp2_with fail
      go_loop [0, 1] (fun s t => ∃ c d : Int, Hid (InR c) ∧ Hid (InR d) ∧ s = .int .i64 c ∧ t = .int .i64 d ∧ Hid (shR c d = shR x y) ∧ (0 ≤ d ∨ c = 0 ∨ c = -1)) (fun _ t => (intOf t).toNat)
      case atStart => exact ⟨a, b, HA, HB, rfl, rfl, HR, by omega⟩
      case round =>
        obtain ⟨c, d, HC, HD, rfl, rfl, HR2, hcd⟩ := hrel
        have c0 := HC.out.1
        have c1 := HC.out.2
        have d0 := HD.out.1
        have d1 := HD.out.2
        by_cases hd : 0 < d
        · by_cases hc : c = 0
          · have HC0 := Lib.hid hc
            have hz : (c != 0) = false := by simp [hc]
            clear hc hcd
            go_wp2_with fail
            go_ret2
            exact shift_yes HC.out (by rw [← HR2.out, HC0.out, shR_zero])
          · have hz : (c != 0) = true := by simpa using hc
            have HR3 := Lib.hid ((shR_pos (x := c) hd).symm.trans HR2.out)
            clear hc hcd
            by_cases hi : InR (2 * c)
            · have HI := Lib.hid hi
              clear hi
              go_wp2_with (go_at_call 55; (with_reducible refine (rnumber_yes _ _ HI.out).mono ?_); rintro e w' ⟨rfl, rfl⟩)
              refine ⟨⟨2 * c, d - 1, HI, Lib.hid (by unfold InR; omega), rfl, rfl, HR3, .inl (by omega)⟩, ?_⟩
              simp [intOf]; omega
            · have HI := Lib.hid hi
              clear hi
              go_wp2_with (go_at_call 55; (with_reducible refine (rnumber_no _ _ HI.out).mono ?_); rintro e w' ⟨rfl, rfl⟩)
              go_ret2
              exact shift_no (by rw [← HR3.out]; exact shR_grow (by omega) HI.out)
        · have HE := Lib.hid (show shR x y = c by
            rw [← HR2.out]
            rcases hcd with h | h | h
            · obtain rfl : d = 0 := by omega
              exact shR_y0 c
            · rw [h]; exact shR_zero d
            · by_cases hd0 : d < 0
              · rw [h]; exact shR_m1 hd0
              · obtain rfl : d = 0 := by omega
                exact shR_y0 c)
          clear hcd
          go_wp2_with fail
          go_ret2
          exact shift_yes HC.out HE.out
end Go.Proofs.YtmlfooofgedmaaaDoor.Fl
