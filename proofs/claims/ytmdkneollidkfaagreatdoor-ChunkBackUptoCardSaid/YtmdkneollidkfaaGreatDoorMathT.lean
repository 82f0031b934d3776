/-
  Plain mathematics for texts of numbers: which texts are numerals, what they spell, and what the library's numerals are. No program in it.
-/
import Derived.Test.YtmdkneollidkfaaGreatDoorPMath
import Derived.Lib.ParseIntBTie
import Derived.Lib.ItoaNum
import Derived.Lib.Strings
namespace Go.Proofs.YtmdkneollidkfaaGreatDoor.Fl
open Go.RowKit

def isDig (c : UInt8) : Bool := decide (48 ≤ c.toNat) && decide (c.toNat ≤ 57)
def allDig (l : List UInt8) : Bool := l.all isDig
def dv (acc : Nat) : List UInt8 → Nat
  | [] => acc
  | c :: r => dv (acc * 10 + (c.toNat - 48)) r
/-- behind the sign -/
def body (l : List UInt8) : List UInt8 := if l.head? = some 45 then l.tail else l
def isNeg (l : List UInt8) : Bool := l.head? == some 45
def form (l : List UInt8) : Bool := allDig (body l) && !(body l).isEmpty
def spelt (l : List UInt8) : Int := if isNeg l then -(dv 0 (body l) : Int) else (dv 0 (body l) : Int)
def pv (l : List UInt8) : Int := if form l then (if InR (spelt l) then spelt l else 0) else 0
def pe (l : List UInt8) : Int := if form l then (if InR (spelt l) then 0 else 9) else 3

theorem dv_ge (acc : Nat) (l : List UInt8) : acc ≤ dv acc l := by
  induction l generalizing acc with
  | nil => exact Nat.le_refl _
  | cons c r ih => have := ih (acc * 10 + (c.toNat - 48)); unfold dv; omega
theorem dv_append (acc : Nat) (a b : List UInt8) : dv acc (a ++ b) = dv (dv acc a) b := by
  induction a generalizing acc with
  | nil => rfl
  | cons c r ih => exact ih _
theorem dig_of (u : Nat) (h : u < 10) : isDig (UInt8.ofNat (48 + u)) = true ∧ (UInt8.ofNat (48 + u)).toNat = 48 + u := by
  have e : (UInt8.ofNat (48 + u)).toNat = 48 + u := by
    rw [UInt8.toNat_ofNat']; omega
  unfold isDig; rw [e]; simp; omega
theorem decDigits_all (u : Nat) : allDig (Lib.decDigits u) = true ∧ dv 0 (Lib.decDigits u) = u ∧ Lib.decDigits u ≠ [] := by
  induction u using Nat.strongRecOn with
  | _ u ih =>
    by_cases h : u < 10
    · rw [Lib.decDigits, dif_pos h]
      obtain ⟨h1, h2⟩ := dig_of u h
      refine ⟨by show (isDig _ && true) = true; rw [h1]; rfl, ?_, by simp⟩
      unfold dv dv; rw [h2]; omega
    · rw [Lib.decDigits, dif_neg h]
      obtain ⟨i1, i2, i3⟩ := ih (u / 10) (by omega)
      obtain ⟨h1, h2⟩ := dig_of (u % 10) (by omega)
      refine ⟨by unfold allDig at *; rw [List.all_append, i1]; show (true && (isDig _ && true)) = true; rw [h1]; rfl, ?_, by simp⟩
      rw [dv_append, i2]
      unfold dv dv; rw [h2]; omega
theorem decDigits_head (u : Nat) : (Lib.decDigits u).head? ≠ some 45 := by
  have h := (decDigits_all u).1
  cases hd : Lib.decDigits u with
  | nil => simp
  | cons c r =>
    rw [hd] at h
    simp only [allDig, List.all_cons, Bool.and_eq_true] at h
    intro e
    simp at e
    subst e
    exact absurd h.1 (by decide)
theorem itoa_parts (n : Int) : body (Lib.itoa n) = Lib.decDigits n.natAbs ∧ isNeg (Lib.itoa n) = decide (n < 0) := by
  unfold Lib.itoa
  by_cases h : n < 0
  · rw [if_pos h]
    refine ⟨by simp [body], by simp [isNeg, h]⟩
  · rw [if_neg h]
    have e : n.toNat = n.natAbs := by omega
    have hh := decDigits_head n.natAbs
    rw [e]
    refine ⟨by unfold body; rw [if_neg hh], ?_⟩
    unfold isNeg
    rw [decide_eq_false h]
    simpa using hh
theorem itoa_form (n : Int) : form (Lib.itoa n) = true ∧ spelt (Lib.itoa n) = n := by
  obtain ⟨h1, h2⟩ := itoa_parts n
  obtain ⟨a, b, c⟩ := decDigits_all n.natAbs
  unfold form spelt
  rw [h1, h2, a, b]
  refine ⟨by simpa using c, ?_⟩
  by_cases h : n < 0 <;> simp [h] <;> omega
theorem itoa_pv {n : Int} (h : InR n) : pv (Lib.itoa n) = n ∧ pe (Lib.itoa n) = 0 := by
  obtain ⟨a, b⟩ := itoa_form n
  unfold pv pe
  rw [if_pos a, if_pos a, b, if_pos h, if_pos h]
  exact ⟨rfl, rfl⟩
theorem itoa_pe {n : Int} (h : ¬ InR n) : pe (Lib.itoa n) = 9 := by
  obtain ⟨a, b⟩ := itoa_form n
  unfold pe
  rw [if_pos a, b, if_neg h]
theorem itoa_len (n : Int) (h0 : -9223372036854775808 ≤ n) (h1 : n ≤ 9223372036854775807) : (Lib.itoa n).length ≤ 20 := by
  have hn : ∀ u : Nat, u < 10 ^ 19 → (Lib.decDigits u).length ≤ 19 := by
    intro u hu
    rw [Lib.decDigits_length]
    rcases Nat.lt_or_ge 19 (Lib.nDigits u) with h | h
    · exfalso
      have : ∀ k v : Nat, k < Lib.nDigits v → 10 ^ k ≤ v ∨ v = 0 ∧ k = 0 := by
        intro k
        induction k with
        | zero => intro v _; rcases Nat.eq_zero_or_pos v with e | e <;> simp <;> omega
        | succ k ih =>
          intro v hv
          by_cases h10 : v < 10
          · rw [Lib.nDigits_small h10] at hv; omega
          · rw [Lib.nDigits_big h10] at hv
            rcases ih (v / 10) (by omega) with h | ⟨h, _⟩
            · left; rw [Nat.pow_succ]; omega
            · omega
      rcases this 19 u h with h | h <;> omega
    · exact h
  have e : (10 : Nat) ^ 19 = 10000000000000000000 := by decide
  unfold Lib.itoa
  split
  · have := hn n.natAbs (by omega); simp; omega
  · have := hn n.toNat (by omega); omega

/-! ### what the library reads -/
theorem uint_digits (M : Nat) (hM : 18446744073709551615 = M) (l : List UInt8) : ∀ acc : Nat, allDig l = true → acc ≤ M → Lib.parseUintM M acc l = if dv acc l ≤ M then .ok (dv acc l) else .range := by
  induction l with
  | nil => intro acc _ h; unfold Lib.parseUintM dv; rw [if_pos h]
  | cons c r ih =>
    intro acc ha h
    simp only [allDig, List.all_cons, Bool.and_eq_true] at ha
    obtain ⟨h1, h2⟩ := ha
    have hd : 48 ≤ c.toNat ∧ c.toNat ≤ 57 := by unfold isDig at h1; simpa using h1
    have hge := dv_ge (acc * 10 + (c.toNat - 48)) r
    have hdv : dv acc (c :: r) = dv (acc * 10 + (c.toNat - 48)) r := rfl
    have ih' := ih (acc * 10 + (c.toNat - 48)) h2
    rw [hdv]
    unfold Lib.parseUintM
    rw [if_pos hd]
    generalize dv (acc * 10 + (c.toNat - 48)) r = D at *
    split
    · rw [if_neg (by omega)]
    · split
      · rw [if_neg (by omega)]
      · exact ih' (by omega)
theorem parse64 {l : List UInt8} (h : form l = true) : Lib.parseIntB 64 l = if -9223372036854775808 ≤ spelt l ∧ spelt l ≤ 9223372036854775807 then .ok (spelt l) else .range := by
  have e63 : (2 : Nat) ^ (64 - 1) = 9223372036854775808 := by decide
  have e64 : (2 : Nat) ^ 64 - 1 = 18446744073709551615 := by decide
  unfold form at h
  simp only [Bool.and_eq_true, Bool.not_eq_true', List.isEmpty_eq_false_iff] at h
  obtain ⟨hd, hne⟩ := h
  have hu : Lib.parseUintB 64 (body l) = if dv 0 (body l) ≤ 18446744073709551615 then .ok (dv 0 (body l)) else .range := by
    unfold Lib.parseUintB
    rw [if_neg hne]
    generalize hM : 2 ^ 64 - 1 = M
    have hM' : 18446744073709551615 = M := by rw [← hM, e64]
    rw [uint_digits M hM' _ 0 hd (by omega), ← hM']
  cases l with
  | nil => exact absurd rfl hne
  | cons c r =>
    by_cases hc : c = 45
    · subst hc
      have hb : body (45 :: r) = r := by simp [body]
      have hn : isNeg (45 :: r) = true := by simp [isNeg]
      rw [hb] at hu
      rw [Lib.parseIntB_minus, hu, e63]
      unfold spelt
      rw [hn, hb]
      simp only [if_true]
      split
      · unfold Lib.signedC
        simp only
        split
        · rw [if_neg (by omega)]
        · rw [if_pos (by omega)]
      · unfold Lib.signedC
        rw [if_neg (by omega)]
    · have hb : body (c :: r) = c :: r := by unfold body; rw [if_neg (by simpa using hc)]
      have hn : isNeg (c :: r) = false := by simp [isNeg, hc]
      rw [hb] at hu hd
      have hcd : 48 ≤ c.toNat ∧ c.toNat ≤ 57 := by
        simp only [allDig, List.all_cons, Bool.and_eq_true] at hd
        have := hd.1
        unfold isDig at this; simpa using this
      rw [Lib.parseIntB_plain 64 c r (by omega) (by omega), hu, e63]
      unfold spelt
      rw [hn, hb]
      simp only [Bool.false_eq_true, if_false]
      split
      · unfold Lib.signlessC
        simp only
        split
        · rw [if_neg (by omega)]
        · rw [if_pos (by omega)]
      · unfold Lib.signlessC
        rw [if_neg (by omega)]
theorem trim_body (l : List UInt8) : Lib.trimPrefix l [45] = body l := by
  cases l with
  | nil => rfl
  | cons c r =>
    unfold Lib.trimPrefix Lib.hasPrefix body
    by_cases h : c = 45
    · subst h; simp
    · rw [if_neg (by simp; exact fun e => h e.symm), if_neg (by simpa using h)]

/-! ### what the reference reads -/
def satStep (s : Nat) (c : UInt8) : Nat := if 461168601842738791 < s then 9223372036854775807 else 10 * s + (c.toNat - 48)
def sat (s : Nat) (l : List UInt8) : Nat := l.foldl satStep s
def Sat (s v : Nat) : Prop := s = v ∨ (4611686018427387904 < s ∧ 4611686018427387904 < v)
theorem sat_step {s v : Nat} {c : UInt8} (h : Sat s v) : Sat (satStep s c) (v * 10 + (c.toNat - 48)) := by
  unfold Sat satStep at *
  split <;> omega
theorem sat_dv {s v : Nat} (l : List UInt8) (h : Sat s v) : Sat (sat s l) (dv v l) := by
  induction l generalizing s v with
  | nil => exact h
  | cons c r ih => exact ih (sat_step h)
theorem sat_le {s : Nat} {c : UInt8} (hs : s ≤ 9223372036854775807) (hc : isDig c = true) : satStep s c ≤ 9223372036854775807 := by
  unfold satStep; unfold isDig at hc
  have : c.toNat ≤ 57 := by simp at hc; omega
  split <;> omega
attribute [irreducible] pv pe sat
end Go.Proofs.YtmdkneollidkfaaGreatDoor.Fl
