/-
  Contracts: the document's own Parse, at texts of at most 100 bytes.
-/
import Derived.Test.YtmlfooofgedmaaaDoorText
namespace Go.Proofs.YtmlfooofgedmaaaDoor.Fl
open Go.RowKit

theorem pvpe_bad {l : List UInt8} (h : form l = false) : pv l = 0 ∧ pe l = 3 := by unfold pv pe; rw [h]; exact ⟨rfl, rfl⟩
theorem pvpe_in {l : List UInt8} (h : form l = true) (k : InR (spelt l)) : pv l = spelt l ∧ pe l = 0 := by unfold pv pe; rw [if_pos h, if_pos h, if_pos k, if_pos k]; exact ⟨rfl, rfl⟩
theorem pvpe_out {l : List UInt8} (h : form l = true) (k : ¬ InR (spelt l)) : pv l = 0 ∧ pe l = 9 := by unfold pv pe; rw [if_pos h, if_pos h, if_neg k, if_neg k]; exact ⟨rfl, rfl⟩
theorem ret_pp {a b c d : Int} (h : a = b ∧ c = d) : Ending.returned (.tuple #[.int .i64 b, .int .i64 d]) = .returned (.tuple #[.int .i64 a, .int .i64 c]) := by rw [h.1, h.2]
theorem bs_head (s : ByteArray) (h : 0 < s.size) : (bs s).head? = some s[0] := by rw [List.head?_eq_getElem?]; exact bs_at s 0 h
theorem bs_nil (s : ByteArray) (h : s.size = 0) : bs s = [] := List.eq_nil_of_length_eq_zero (by rw [bs_len]; exact h)
theorem neg_body {s : ByteArray} (h : 0 < s.size) (h0 : s[0] = 45) : isNeg (bs s) = true ∧ body (bs s) = (bs s).drop 1 := by
  have hh := bs_head s h
  rw [h0] at hh
  refine ⟨by simp [isNeg, hh], ?_⟩
  unfold body; rw [if_pos hh]; exact List.drop_one.symm
theorem pos_body {s : ByteArray} (h : 0 < s.size) (h0 : s[0] ≠ 45) : isNeg (bs s) = false ∧ body (bs s) = (bs s).drop 0 := by
  have hh := bs_head s h
  refine ⟨by simp [isNeg, hh, h0], ?_⟩
  unfold body; rw [if_neg (by rw [hh]; simpa using h0)]; rfl
/-- the digits that were read, from place A up to k -/
def part (s : ByteArray) (A k : Nat) : List UInt8 := ((bs s).take k).drop A
theorem part_start (s : ByteArray) (A : Nat) : part s A A = [] := by unfold part; exact List.drop_eq_nil_of_le (List.length_take_le _ _)
theorem part_step (s : ByteArray) (A k : Nat) (hA : A ≤ k) (h : k < s.size) : part s A (k + 1) = part s A k ++ [s[k]] := by
  unfold part
  rw [bs_take s k h, List.drop_append_of_le_length]
  rw [List.length_take, bs_len]; omega
theorem part_all (s : ByteArray) (A : Nat) : part s A s.size = (bs s).drop A := by unfold part; rw [bs_all]
theorem part_bad {s : ByteArray} {A k : Nat} (hb : body (bs s) = (bs s).drop A) (hA : A ≤ k) (h : k < s.size) (hd : ¬ (48 ≤ (s[k].toNat : Int) ∧ (s[k].toNat : Int) ≤ 57)) : form (bs s) = false := by
  unfold form
  rw [Bool.and_eq_false_iff]
  left
  rw [Bool.eq_false_iff]
  intro ha
  rw [hb] at ha
  unfold allDig at ha
  rw [List.all_eq_true] at ha
  refine hd ((dig_iff _).1 (ha _ (List.mem_of_getElem? (i := k - A) ?_)))
  rw [List.getElem?_drop, show A + (k - A) = k by omega]
  exact bs_at s k h
theorem part_form {s : ByteArray} {A : Nat} (hb : body (bs s) = (bs s).drop A) (h : A < s.size) (ha : allDig (part s A s.size) = true) : form (bs s) = true := by
  rw [part_all, ← hb] at ha
  unfold form
  rw [ha]
  have : (body (bs s)).length ≠ 0 := by rw [hb, List.length_drop, bs_len]; omega
  cases hl : body (bs s) with
  | nil => rw [hl] at this; exact absurd rfl this
  | cons c r => rfl
theorem all_snoc {l : List UInt8} {c : UInt8} (h : allDig l = true) (hc : isDig c = true) : allDig (l ++ [c]) = true := by
  unfold allDig at *; rw [List.all_append, h]; simp [hc]
theorem sat_snoc (l : List UInt8) (c : UInt8) : sat 0 (l ++ [c]) = satStep (sat 0 l) c := by unfold sat; rw [List.foldl_append]; rfl
theorem sat_end {s : ByteArray} {A m : Nat} (hb : body (bs s) = (bs s).drop A) (h : m = sat 0 (part s A s.size)) : Sat m (dv 0 (body (bs s))) := by
  rw [h, hb, part_all]; exact sat_dv _ (.inl rfl)
attribute [irreducible] part

end Go.Proofs.YtmlfooofgedmaaaDoor.Fl
