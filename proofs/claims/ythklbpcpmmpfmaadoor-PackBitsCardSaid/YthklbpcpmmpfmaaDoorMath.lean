/-
  Plain mathematics for layer 1 (numbers in a word): no program in it. The word of a number, the number of a word, the bitwise operations on 64 bits, division rounded down, products and shifts that wrap.
-/
import Derived.RowKit
import Derived.WalkSmall
import Derived.Laws.BitsAllLaws
namespace Go.Proofs.YthklbpcpmmpfmaaDoor.Fl
open Go.RowKit

def InR (n : Int) : Prop := -4611686018427387904 ≤ n ∧ n ≤ 4611686018427387903
instance (n : Int) : Decidable (InR n) := by unfold InR; exact inferInstance
def IsW (w : Int) : Prop := 0 ≤ w ∧ w ≤ 18446744073709551615
def wd (n : Int) : Int := (2 * n + 1) % 18446744073709551616
def val (w : Int) : Int := if w / 2 < 4611686018427387904 then w / 2 else w / 2 - 9223372036854775808
def resW (z : Int) : Int := if InR z then wd z else 0
def resE (z : Int) : Int := if InR z then 0 else 9

theorem wd_isW (n : Int) : IsW (wd n) := by unfold IsW wd; omega
theorem wd_odd (n : Int) : wd n % 2 = 1 := by unfold wd; omega
theorem val_wd {n : Int} (h : InR n) : val (wd n) = n := by unfold InR at h; unfold val wd; split <;> omega
theorem val_inR {w : Int} (h : IsW w) : InR (val w) := by unfold IsW at h; unfold InR val; split <;> omega
theorem wd_val {w : Int} (h : IsW w) (ho : w % 2 = 1) : wd (val w) = w := by unfold IsW at h; unfold wd val; split <;> omega
theorem wrap_half {w : Int} (h : IsW w) : wrap64 w / 2 = val w := by unfold IsW at h; unfold wrap64 val; split <;> omega
theorem resW_in {z : Int} (h : InR z) : resW z = wd z := if_pos h
theorem resE_in {z : Int} (h : InR z) : resE z = 0 := if_pos h
theorem resW_out {z : Int} (h : ¬ InR z) : resW z = 0 := if_neg h
theorem resE_out {z : Int} (h : ¬ InR z) : resE z = 9 := if_neg h
theorem resE_eq (z : Int) : resE z = 0 ∨ resE z = 9 := by unfold resE; split <;> simp
theorem resW_isW (z : Int) : IsW (resW z) := by unfold resW; split; exact wd_isW z; unfold IsW; omega

/-- what 'api.Word(n)<<1 | 1' comes to -/
theorem of_word (n : Int) : bits .or .u64 (IntKind.u64.wrap (IntKind.u64.wrap n * 2)) 1 = wd n := by
  rw [IntKind.wrap_u64, IntKind.wrap_u64, u64_or _ _ (by omega) (by omega) (by omega) (by omega)]
  have h := nat_join 1 ((n % 18446744073709551616 * 2 % 18446744073709551616).toNat) 1 (by omega) (by omega)
  rw [show (1 : Int).toNat = 1 from rfl, h]
  unfold wd
  omega
theorem and_one {w : Int} (h : IsW w) : bits .and .u64 w 1 = w % 2 := and_one_u64 w h.1 h.2

/-! ### bitwise, with a sign -/
theorem nat_and_or (a b : Nat) : (a &&& b) + (a ||| b) = a + b := by
  induction a using Nat.strongRecOn generalizing b with
  | _ a ih =>
    by_cases ha : a = 0
    · subst ha; simp
    · have h := ih (a / 2) (by omega) (b / 2)
      have e1 : (a &&& b) / 2 = a / 2 &&& b / 2 := Nat.and_div_two
      have e2 : (a ||| b) / 2 = a / 2 ||| b / 2 := Nat.or_div_two
      have m1 : (a &&& b) % 2 = (a % 2) * (b % 2) := by
        rw [← nat_mask1 (a &&& b), Nat.and_assoc, nat_mask1 b]
        rcases Nat.mod_two_eq_zero_or_one b with hb | hb <;> rw [hb]
        · simp
        · rw [nat_mask1]; omega
      have m2 : (a ||| b) % 2 + (a % 2) * (b % 2) = a % 2 + b % 2 := by
        rw [← nat_mask1 (a ||| b), Nat.and_or_distrib_right, nat_mask1, nat_mask1]
        rcases Nat.mod_two_eq_zero_or_one a with ha | ha <;> rcases Nat.mod_two_eq_zero_or_one b with hb | hb <;> rw [ha, hb] <;> rfl
      rw [← e1, ← e2] at h
      omega
theorem nat_xor_and (a b : Nat) : (a ^^^ b) + (a &&& b) = (a ||| b) := by
  induction a using Nat.strongRecOn generalizing b with
  | _ a ih =>
    by_cases ha : a = 0
    · subst ha; simp
    · have h := ih (a / 2) (by omega) (b / 2)
      have e1 : (a &&& b) / 2 = a / 2 &&& b / 2 := Nat.and_div_two
      have e2 : (a ||| b) / 2 = a / 2 ||| b / 2 := Nat.or_div_two
      have e3 : (a ^^^ b) / 2 = a / 2 ^^^ b / 2 := Nat.xor_div_two
      have m1 : (a &&& b) % 2 = (a % 2) * (b % 2) := by
        rw [← nat_mask1 (a &&& b), Nat.and_assoc, nat_mask1 b]
        rcases Nat.mod_two_eq_zero_or_one b with hb | hb <;> rw [hb]
        · simp
        · rw [nat_mask1]; omega
      have m2 : (a ||| b) % 2 + (a % 2) * (b % 2) = a % 2 + b % 2 := by
        rw [← nat_mask1 (a ||| b), Nat.and_or_distrib_right, nat_mask1, nat_mask1]
        rcases Nat.mod_two_eq_zero_or_one a with ha | ha <;> rcases Nat.mod_two_eq_zero_or_one b with hb | hb <;> rw [ha, hb] <;> rfl
      have m3 : (a ^^^ b) % 2 = (a % 2 + b % 2) % 2 := by
        rw [← nat_mask1 (a ^^^ b), Nat.and_xor_distrib_right, nat_mask1, nat_mask1]
        rcases Nat.mod_two_eq_zero_or_one a with ha | ha <;> rcases Nat.mod_two_eq_zero_or_one b with hb | hb <;> rw [ha, hb] <;> rfl
      rw [← e1, ← e2, ← e3] at h
      rcases Nat.mod_two_eq_zero_or_one a with ha | ha <;> rcases Nat.mod_two_eq_zero_or_one b with hb | hb <;> rw [ha, hb] at m1 m2 <;> omega

/-- the 64 bits of a number with its sign, as a natural number -/
def u (x : Int) : Nat := (x % 18446744073709551616).toNat
theorem u_lt (x : Int) : u x < 18446744073709551616 := by unfold u; omega
theorem ofInt_u (x : Int) : (BitVec.ofInt 64 x).toNat = u x := by rw [BitVec.toNat_ofInt]; rfl
theorem wrap_i64 (n : Int) : IntKind.i64.wrap n = wrap64 n := by
  unfold wrap64
  have e64 : (2 : Int) ^ 64 = 18446744073709551616 := by decide
  have e63 : (2 : Int) ^ (64 - 1) = 9223372036854775808 := by decide
  simp only [IntKind.wrap, IntKind.bits, IntKind.signed, Bool.true_and, decide_eq_true_eq, e64, e63]
  split <;> omega
theorem and_i64 (x y : Int) : bits .and .i64 x y = wrap64 ((u x &&& u y : Nat) : Int) := by
  have e : (BitVec.ofInt 64 x &&& BitVec.ofInt 64 y).toNat = u x &&& u y := by rw [BitVec.toNat_and, ofInt_u, ofInt_u]
  show IntKind.i64.wrap (((BitVec.ofInt 64 x &&& BitVec.ofInt 64 y).toNat : Nat) : Int) = _
  rw [e, wrap_i64]
theorem or_i64 (x y : Int) : bits .or .i64 x y = wrap64 ((u x ||| u y : Nat) : Int) := by
  have e : (BitVec.ofInt 64 x ||| BitVec.ofInt 64 y).toNat = u x ||| u y := by rw [BitVec.toNat_or, ofInt_u, ofInt_u]
  show IntKind.i64.wrap (((BitVec.ofInt 64 x ||| BitVec.ofInt 64 y).toNat : Nat) : Int) = _
  rw [e, wrap_i64]
theorem xor_i64 (x y : Int) : bits .xor .i64 x y = wrap64 ((u x ^^^ u y : Nat) : Int) := by
  have e : (BitVec.ofInt 64 x ^^^ BitVec.ofInt 64 y).toNat = u x ^^^ u y := by rw [BitVec.toNat_xor, ofInt_u, ofInt_u]
  show IntKind.i64.wrap (((BitVec.ofInt 64 x ^^^ BitVec.ofInt 64 y).toNat : Nat) : Int) = _
  rw [e, wrap_i64]
theorem u_wrap {n : Nat} (h : n < 18446744073709551616) : u (wrap64 (n : Int)) = n := by unfold u wrap64; omega

/-- the upper two of the 64 bits are the same -/
def Top (n : Nat) : Prop := n / 4611686018427387904 = 0 ∨ n / 4611686018427387904 = 3
theorem top_u {x : Int} (h : InR x) : Top (u x) := by unfold InR at h; unfold Top u; omega
theorem top_inR {n : Nat} (h : Top n) : InR (wrap64 (n : Int)) := by unfold Top at h; unfold InR wrap64; omega
theorem and_top {a b : Nat} (ha : Top a) (hb : Top b) : Top (a &&& b) := by
  unfold Top at *
  have e : (a &&& b) / 2 ^ 62 = a / 2 ^ 62 &&& b / 2 ^ 62 := Nat.and_div_two_pow
  rw [show (4611686018427387904 : Nat) = 2 ^ 62 from by decide] at *
  rcases ha with ha | ha <;> rcases hb with hb | hb <;> rw [e, ha, hb] <;> decide
theorem or_top {a b : Nat} (ha : Top a) (hb : Top b) : Top (a ||| b) := by
  unfold Top at *
  have e : (a ||| b) / 2 ^ 62 = a / 2 ^ 62 ||| b / 2 ^ 62 := Nat.or_div_two_pow
  rw [show (4611686018427387904 : Nat) = 2 ^ 62 from by decide] at *
  rcases ha with ha | ha <;> rcases hb with hb | hb <;> rw [e, ha, hb] <;> decide
theorem xor_top {a b : Nat} (ha : Top a) (hb : Top b) : Top (a ^^^ b) := by
  unfold Top at *
  have e : (a ^^^ b) / 2 ^ 62 = a / 2 ^ 62 ^^^ b / 2 ^ 62 := Nat.xor_div_two_pow
  rw [show (4611686018427387904 : Nat) = 2 ^ 62 from by decide] at *
  rcases ha with ha | ha <;> rcases hb with hb | hb <;> rw [e, ha, hb] <;> decide
theorem and_lt (x y : Int) : (u x &&& u y) < 18446744073709551616 := Nat.and_lt_two_pow (n := 64) _ (u_lt y)
theorem or_lt (x y : Int) : (u x ||| u y) < 18446744073709551616 := Nat.or_lt_two_pow (n := 64) (u_lt x) (u_lt y)
theorem xor_lt (x y : Int) : (u x ^^^ u y) < 18446744073709551616 := Nat.xor_lt_two_pow (n := 64) (u_lt x) (u_lt y)
theorem and_inR {x y : Int} (hx : InR x) (hy : InR y) : InR (bits .and .i64 x y) := by
  rw [and_i64]; exact top_inR (and_top (top_u hx) (top_u hy))
theorem or_inR {x y : Int} (hx : InR x) (hy : InR y) : InR (bits .or .i64 x y) := by
  rw [or_i64]; exact top_inR (or_top (top_u hx) (top_u hy))
theorem xor_inR {x y : Int} (hx : InR x) (hy : InR y) : InR (bits .xor .i64 x y) := by
  rw [xor_i64]; exact top_inR (xor_top (top_u hx) (top_u hy))
theorem and_or_sum {x y : Int} (hx : InR x) (hy : InR y) (hs : InR (x + y)) : bits .and .i64 x y + bits .or .i64 x y = x + y := by
  have h1 := and_inR hx hy
  have h2 := or_inR hx hy
  rw [and_i64, or_i64] at *
  have e := nat_and_or (u x) (u y)
  have h3 := and_lt x y
  have h4 := or_lt x y
  generalize (u x &&& u y) = A at *
  generalize (u x ||| u y) = B at *
  unfold InR u wrap64 at *
  omega
theorem or_and_diff {x y : Int} (hx : InR x) (hy : InR y) : bits .or .i64 x y - bits .and .i64 x y = bits .xor .i64 x y := by
  have h1 := and_inR hx hy
  have h2 := or_inR hx hy
  have h5 := xor_inR hx hy
  rw [and_i64, or_i64, xor_i64] at *
  have e := nat_xor_and (u x) (u y)
  have h3 := and_lt x y
  have h4 := or_lt x y
  have h6 := xor_lt x y
  generalize (u x &&& u y) = A at *
  generalize (u x ||| u y) = B at *
  generalize (u x ^^^ u y) = C at *
  unfold InR wrap64 at *
  omega
theorem xor_xor {x y : Int} (hx : InR x) : bits .xor .i64 (bits .xor .i64 x y) y = x := by
  rw [xor_i64 (bits .xor .i64 x y), xor_i64 x y, u_wrap (xor_lt x y), Nat.xor_assoc, Nat.xor_self, Nat.xor_zero]
  unfold InR at hx; unfold u wrap64; omega
attribute [irreducible] wd val resW resE
end Go.Proofs.YthklbpcpmmpfmaaDoor.Fl
