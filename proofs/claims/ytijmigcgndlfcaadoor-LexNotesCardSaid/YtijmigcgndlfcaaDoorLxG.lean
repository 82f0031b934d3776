/-
  The lexer: a name.
-/
import Derived.Test.YtijmigcgndlfcaaDoorLxF
namespace Go.Proofs.YtijmigcgndlfcaaDoor.Fl
open Go.RowKit

def isNameB (s : ByteArray) : Bool := runE partN s 0 == s.size && letterN (lookB s 0)
set_option maxRecDepth 100000 in
set_option maxHeartbeats 2000000 in
theorem isName_any (s : ByteArray) (w : World) (hs : s.size ≤ 16777216) :
    Calls Tryd.prog 13 #[.string s] w fun e w' => e = .returned (.bool (isNameB s)) ∧ w = w' := by
  have hpn := fun (c : UInt8) (w : World) => partN_any c.toNat w c.toNat_lt
  have hln := fun (c : UInt8) (w : World) => letterN_any c.toNat w c.toNat_lt
  have HPN := Lib.hid hpn
  have HLN := Lib.hid hln
  clear hpn hln
  go_enter Tryd.func13, Tryd.ntmps13
  go_wp2_with fail
  go_loop [6] (fun v => ∃ k : Nat, k ≤ s.size ∧ v = .int .i64 (k : Int) ∧ Hid (runE partN s 0 = runE partN s k)) (fun v => s.size - (intOf v).toNat)
  case atStart => exact ⟨0, Nat.zero_le _, rfl, Lib.hid rfl⟩
  case round =>
    obtain ⟨k, hk, rfl, HK⟩ := hrel
    by_cases hlt : k < s.size
    · have hi := HPN.out s[k] w
      obtain ⟨r, hr⟩ : ∃ r, partN s[k].toNat = r := ⟨_, rfl⟩
      have HR := Lib.hid hr
      rw [hr] at hi
      clear hr
      cases r with
      | false =>
        have HF := Lib.hid (show isNameB s = false by
          unfold isNameB
          rw [HK.out, runE_stop hlt HR.out, show (k == s.size) = false from by rw [beq_eq_false_iff_ne]; omega]; rfl)
        go_wp2_with fail
        refine hi.mono ?_
        rintro e w' ⟨rfl, rfl⟩
        go_wp2_with fail
        go_ret
        exact ⟨by rw [HF.out]; rfl, rfl⟩
      | true =>
        have HE := Lib.hid (show runE partN s 0 = runE partN s (k + 1) by rw [HK.out, runE_step hlt HR.out])
        go_wp2_with fail
        refine hi.mono ?_
        rintro e w' ⟨rfl, rfl⟩
        go_wp2_with fail
        go_round
        case rel => exact ⟨k + 1, by omega, by go_num, HE⟩
        case measure => simp [intOf]; omega
    · have e : k = s.size := by omega
      subst e
      have HA := Lib.hid (show isNameB s = letterN (lookB s 0) by
        unfold isNameB
        rw [HK.out, runE_end, beq_self_eq_true, Bool.true_and])
      clear HK
      by_cases h0 : s.size = 0
      · have hse : s = ⟨#[]⟩ := by
          cases s with
          | mk d => simp [ByteArray.size] at h0; rw [h0]
        subst hse
        go_wp2_with fail
        go_ret
        exact ⟨by rw [HA.out]; rfl, rfl⟩
      · have hp : 0 < s.size := by omega
        have hne : ¬s.toList = [] := by
          intro h
          rw [ByteArray.toList_eq] at h
          have h2 := congrArg List.length h
          rw [show s.data.toList.length = s.size from sb_len s] at h2
          have h3 : s.size = 0 := h2
          omega
        have HEm := Lib.hid (show s.toList.isEmpty = false by rw [List.isEmpty_eq_false_iff]; exact hne)
        have hi := HLN.out s[0] w
        have HL0 := Lib.hid (show isNameB s = letterN s[0].toNat by rw [HA.out]; unfold lookB; rw [dif_pos hp])
        obtain ⟨r, hr⟩ : ∃ r, letterN s[0].toNat = r := ⟨_, rfl⟩
        have HR := Lib.hid hr
        rw [hr] at hi
        clear h0 HA hr
        go_wp2_with (go_at_call 22; (with_reducible refine hi.mono ?_); rintro e w' ⟨rfl, rfl⟩)
        go_ret
        refine ⟨?_, rfl⟩
        show Ending.returned (.bool (!s.toList.isEmpty && r)) = _
        rw [HEm.out, HL0.out, HR.out]
        rfl
end Go.Proofs.YtijmigcgndlfcaaDoor.Fl
