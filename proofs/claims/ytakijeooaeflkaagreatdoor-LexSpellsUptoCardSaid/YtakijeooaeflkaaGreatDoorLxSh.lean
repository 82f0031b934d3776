/-
  The laws of layer 9: short; a text, a blank and a text.
-/
import Derived.Test.YtakijeooaeflkaaGreatDoorLxZ
namespace Go.Proofs.YtakijeooaeflkaaGreatDoor.Fl
open Go.RowKit

def shortB (s : ByteArray) (n : Nat) : ByteArray := if n < s.size then s.extract 0 n else s
theorem shortB_size (s : ByteArray) (n : Nat) : (shortB s n).size ≤ n := by
  unfold shortB
  split
  · have h := sb_len (s.extract 0 n)
    rw [sb_extract, List.drop_zero, List.length_take] at h
    omega
  · omega
set_option maxRecDepth 100000 in
theorem short9_any (s : ByteArray) (n : Nat) (w : World) :
    Calls Tryz.prog 9 #[.string s, .int .i64 (n : Int)] w fun e w' => e = .returned (.string (shortB s n)) ∧ w' = w := by
  by_cases h : n < s.size
  · have H := Lib.hid (show shortB s n = s.extract 0 n by unfold shortB; rw [if_pos h])
    go_enter Tryz.func9, Tryz.ntmps9
    go_wp2_with fail
    go_ret
    exact ⟨by rw [H.out]; rfl, rfl⟩
  · have H := Lib.hid (show shortB s n = s by unfold shortB; rw [if_neg h])
    go_enter Tryz.func9, Tryz.ntmps9
    go_wp2_with fail
    go_ret
    exact ⟨by rw [H.out]; rfl, rfl⟩
theorem sb_append (s t : ByteArray) : sb (s ++ t) = sb s ++ sb t := by
  simp [sb]
theorem sb_blank (a b : ByteArray) : sb (a ++ ⟨#[32]⟩ ++ b) = sb a ++ 32 :: sb b := by
  rw [sb_append, sb_append, List.append_assoc]
  rfl
end Go.Proofs.YtakijeooaeflkaaGreatDoor.Fl
