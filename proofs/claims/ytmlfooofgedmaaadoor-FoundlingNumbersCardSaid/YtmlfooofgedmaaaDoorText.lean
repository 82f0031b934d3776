/-
  Contracts: small.digits, and the document's own Parse, at texts of at most 100 bytes.
-/
import Derived.Test.YtmlfooofgedmaaaDoorWd
import Derived.Test.YtmlfooofgedmaaaDoorMathT
namespace Go.Proofs.YtmlfooofgedmaaaDoor.Fl
open Go.RowKit

abbrev bs (s : ByteArray) : List UInt8 := s.data.toList
theorem bs_len (s : ByteArray) : (bs s).length = s.size := by simp [bs]
theorem bs_at (s : ByteArray) (k : Nat) (h : k < s.size) : (bs s)[k]? = some s[k] := by
  have : k < (bs s).length := by rw [bs_len]; exact h
  rw [List.getElem?_eq_getElem this]; rfl
theorem bs_take (s : ByteArray) (k : Nat) (h : k < s.size) : (bs s).take (k + 1) = (bs s).take k ++ [s[k]] := by
  have hl : k < (bs s).length := by rw [bs_len]; exact h
  rw [List.take_succ_eq_append_getElem hl]; rfl
theorem bs_all (s : ByteArray) : (bs s).take s.size = bs s := List.take_of_length_le (by rw [bs_len]; omega)
theorem bs_mem {s : ByteArray} {k : Nat} (h : k < s.size) (ha : allDig (bs s) = true) : isDig s[k] = true := by
  unfold allDig at ha
  rw [List.all_eq_true] at ha
  exact ha _ (List.mem_of_getElem? (bs_at s k h))
theorem dig_iff (c : UInt8) : isDig c = true ↔ 48 ≤ (c.toNat : Int) ∧ (c.toNat : Int) ≤ 57 := by unfold isDig; simp; omega

def digB (l : List UInt8) : Bool := allDig l && !l.isEmpty
attribute [irreducible] digB

set_option maxHeartbeats 1000000 in
theorem digits_any (s : ByteArray) (w : World) (hs : s.size ≤ 100) :
    Calls Tryd.prog 45 #[.string s] w fun e w' => e = .returned (.bool (digB (bs s))) ∧ w = w' := by
  go_enter Tryd.func45, Tryd.ntmps45
  go_wp2_with fail
  go_loop [6] (fun i => ∃ k : Nat, k ≤ s.size ∧ i = .int .i64 k ∧ Hid (allDig ((bs s).take k) = true)) (fun i => s.size - (intOf i).toNat)
  case atStart => exact ⟨0, Nat.zero_le _, rfl, Lib.hid rfl⟩
  case round =>
    obtain ⟨k, hk, rfl, HK⟩ := hrel
    by_cases hlt : k < s.size
    · have HT := Lib.hid (bs_take s k hlt)
      by_cases h1 : (s[k].toNat : Int) < 48
      · go_wp2
        go_ret
        refine ⟨?_, rfl⟩
        have : allDig (bs s) = false := by
          rw [Bool.eq_false_iff]; intro ha
          have := (dig_iff _).1 (bs_mem hlt ha); omega
        unfold digB; rw [this]; rfl
      · by_cases h2 : (57 : Int) < (s[k].toNat : Int)
        · go_wp2
          go_ret
          refine ⟨?_, rfl⟩
          have : allDig (bs s) = false := by
            rw [Bool.eq_false_iff]; intro ha
            have := (dig_iff _).1 (bs_mem hlt ha); omega
          unfold digB; rw [this]; rfl
        · have HD := Lib.hid ((dig_iff s[k]).2 ⟨by omega, by omega⟩)
          go_wp2
          go_round
          case rel => exact ⟨k + 1, by omega, by go_num, Lib.hid (by rw [HT.out]; unfold allDig; rw [List.all_append]; have := HK.out; unfold allDig at this; rw [this]; simp [HD.out])⟩
          case measure => simp [intOf]; omega
    · have e : k = s.size := by omega
      subst e
      have HA := Lib.hid (show allDig (bs s) = true by have := HK.out; rw [bs_all] at this; exact this)
      by_cases he : bs s = []
      · have h1 : s.toList = [] := by rw [ByteArray.toList_eq]; exact he
        have h2 : (!s.toList.isEmpty) = false := by rw [h1]; rfl
        have HE := Lib.hid he
        clear he
        go_wp2
        go_ret
        exact ⟨by unfold digB; rw [HA.out, HE.out]; simp, rfl⟩
      · have h2 : (!s.toList.isEmpty) = true := by
          have : s.toList ≠ [] := by rw [ByteArray.toList_eq]; exact he
          cases hl : s.toList with
          | nil => exact absurd hl this
          | cons c r => rfl
        have HE := Lib.hid he
        clear he
        go_wp2
        go_ret
        exact ⟨by unfold digB; rw [HA.out]; cases hl : bs s with
          | nil => exact absurd hl HE.out
          | cons c r => simp, rfl⟩
end Go.Proofs.YtmlfooofgedmaaaDoor.Fl
