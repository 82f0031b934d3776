/-
  The lexer: the fixed text of the laws.
-/
import Derived.Test.YtmdkneollidkfaaGreatDoorLxP
namespace Go.Proofs.YtmdkneollidkfaaGreatDoor.Fl
open Go.RowKit

/-- x:=3 foo: #at:put: , 'it''s' -/
def fixB : ByteArray := ⟨#[120, 58, 61, 51, 32, 102, 111, 111, 58, 32, 35, 97, 116, 58, 112, 117, 116, 58, 32, 44, 32, 39, 105, 116, 39, 39, 115, 39]⟩
def fixL : List Tok := [(1, [120], 0, 0), (7, [], 0, 1), (3, [], 3, 3), (2, [102, 111, 111, 58], 0, 5), (5, [97, 116, 58, 112, 117, 116, 58], 0, 10), (6, [44], 0, 19), (4, [105, 116, 39, 115], 0, 21), (0, [], 0, 28)]
theorem allW_cons {s : ByteArray} {p k q p' : Nat} {t : List UInt8} {n : Int} {l : List Tok} (hp : p ≤ s.size) (h : tokR s p = .inl (k, t, n, q, p')) (hk : k ≠ 0) (hl : allW s p' = .inl l) : allW s p = .inl ((k, t, n, q) :: l) := by
  have h1 := (allW_go hp (tokR_in hp h) h hk []).2
  rw [preW_nil, hl] at h1
  exact h1
theorem fix_join : joinR fixB 11 = 18 := by
  unfold joinR
  rw [show namedR fixB 11 = (2, 14) from by decide +kernel]
  show joinW fixB 14 = 18
  rw [joinW.eq_def fixB 14, show namedR fixB 14 = (2, 18) from by decide +kernel]
  rw [dif_pos (by decide +kernel)]
  show joinW fixB 18 = 18
  rw [joinW.eq_def fixB 18, dif_neg (by decide +kernel)]
theorem fix_hash : hashR fixB 10 = .inl (5, [97, 116, 58, 112, 117, 116, 58], 18) := by
  unfold hashR
  rw [fix_join]
  decide +kernel
theorem fix0 : tokR fixB 0 = .inl (1, [120], 0, 0, 1) := by decide +kernel
theorem fix1 : tokR fixB 1 = .inl (7, [], 0, 1, 3) := by decide +kernel
theorem fix2 : tokR fixB 3 = .inl (3, [], 3, 3, 4) := by decide +kernel
theorem fix3 : tokR fixB 4 = .inl (2, [102, 111, 111, 58], 0, 5, 9) := by decide +kernel
theorem fix4 : tokR fixB 9 = .inl (5, [97, 116, 58, 112, 117, 116, 58], 0, 10, 18) := by
  have h : skipA none 9 ((sb fixB).drop 9) = .inl 10 := by decide +kernel
  unfold tokR
  rw [h]
  show tokAt fixB 10 = _
  unfold tokAt
  rw [fix_hash]
  decide +kernel
theorem fix5 : tokR fixB 18 = .inl (6, [44], 0, 19, 20) := by decide +kernel
theorem fix6 : tokR fixB 20 = .inl (4, [105, 116, 39, 115], 0, 21, 28) := by decide +kernel
theorem fix7 : tokR fixB 28 = .inl (0, [], 0, 28, 28) := by decide +kernel
theorem fix_all : allW fixB 0 = .inl fixL := allW_cons (by decide +kernel) fix0 (by decide) (allW_cons (by decide +kernel) fix1 (by decide) (allW_cons (by decide +kernel) fix2 (by decide) (allW_cons (by decide +kernel) fix3 (by decide) (allW_cons (by decide +kernel) fix4 (by decide) (allW_cons (by decide +kernel) fix5 (by decide) (allW_cons (by decide +kernel) fix6 (by decide) (allW_end fix7)))))))
end Go.Proofs.YtmdkneollidkfaaGreatDoor.Fl

/-
  The lexer: a name.
-/
namespace Go.Proofs.YtmdkneollidkfaaGreatDoor.Fl
open Go.RowKit

def isNameB (s : ByteArray) : Bool := runE partN s 0 == s.size && letterN (lookB s 0)
set_option maxRecDepth 100000 in
set_option maxHeartbeats 2000000 in
theorem isName_any (s : ByteArray) (w : World) (hs : s.size ≤ 16777216) :
    Calls Tryz.prog 106 #[.string s] w fun e w' => e = .returned (.bool (isNameB s)) ∧ w = w' := by
  have hpn := fun (c : UInt8) (w : World) => partN_any c.toNat w c.toNat_lt
  have hln := fun (c : UInt8) (w : World) => letterN_any c.toNat w c.toNat_lt
  have HPN := Lib.hid hpn
  have HLN := Lib.hid hln
  clear hpn hln
  go_enter Tryz.func106, Tryz.ntmps106
  go_wp2_with fail
  go_loop [6] (fun v => ∃ k : Nat, k ≤ s.size ∧ v = .int .i64 (k : Int) ∧ Hid (runE partN s 0 = runE partN s k)) (fun v => s.size - (intOf v).toNat)
  case atStart => exact ⟨0, Nat.zero_le _, rfl, Lib.hid rfl⟩
  case round =>
    obtain ⟨k, hk, rfl, HK⟩ := hrel
    by_cases hlt : k < s.size
    · have hi := HPN.out s[k] w
      obtain ⟨r, hr⟩ : ∃ r, partN s[k].toNat = r := ⟨_, rfl⟩
      have HR := Lib.hid hr
      rw [hr] at hi
      clear hr
      cases r with
      | false =>
        have HF := Lib.hid (show isNameB s = false by
          unfold isNameB
          rw [HK.out, runE_stop hlt HR.out, show (k == s.size) = false from by rw [beq_eq_false_iff_ne]; omega]; rfl)
        go_wp2_with fail
        refine hi.mono ?_
        rintro e w' ⟨rfl, rfl⟩
        go_wp2_with fail
        go_ret
        exact ⟨by rw [HF.out]; rfl, rfl⟩
      | true =>
        have HE := Lib.hid (show runE partN s 0 = runE partN s (k + 1) by rw [HK.out, runE_step hlt HR.out])
        go_wp2_with fail
        refine hi.mono ?_
        rintro e w' ⟨rfl, rfl⟩
        go_wp2_with fail
        go_round
        case rel => exact ⟨k + 1, by omega, by go_num, HE⟩
        case measure => simp [intOf]; omega
    · have e : k = s.size := by omega
      subst e
      have HA := Lib.hid (show isNameB s = letterN (lookB s 0) by
        unfold isNameB
        rw [HK.out, runE_end, beq_self_eq_true, Bool.true_and])
      clear HK
      by_cases h0 : s.size = 0
      · have hse : s = ⟨#[]⟩ := by
          cases s with
          | mk d => simp [ByteArray.size] at h0; rw [h0]
        subst hse
        go_wp2_with fail
        go_ret
        exact ⟨by rw [HA.out]; rfl, rfl⟩
      · have hp : 0 < s.size := by omega
        have hne : ¬s.toList = [] := by
          intro h
          rw [ByteArray.toList_eq] at h
          have h2 := congrArg List.length h
          rw [show s.data.toList.length = s.size from sb_len s] at h2
          have h3 : s.size = 0 := h2
          omega
        have HEm := Lib.hid (show s.toList.isEmpty = false by rw [List.isEmpty_eq_false_iff]; exact hne)
        have hi := HLN.out s[0] w
        have HL0 := Lib.hid (show isNameB s = letterN s[0].toNat by rw [HA.out]; unfold lookB; rw [dif_pos hp])
        obtain ⟨r, hr⟩ : ∃ r, letterN s[0].toNat = r := ⟨_, rfl⟩
        have HR := Lib.hid hr
        rw [hr] at hi
        clear h0 HA hr
        go_wp2_with (go_at_call 138; (with_reducible refine hi.mono ?_); rintro e w' ⟨rfl, rfl⟩)
        go_ret
        refine ⟨?_, rfl⟩
        show Ending.returned (.bool (!s.toList.isEmpty && r)) = _
        rw [HEm.out, HL0.out, HR.out]
        rfl
end Go.Proofs.YtmdkneollidkfaaGreatDoor.Fl
