/-
  The document's lexer: bytes; a name, a keyword, keywords.
-/
import Derived.Test.YtmdkneollidkfaaGreatDoorLxD
namespace Go.Proofs.YtmdkneollidkfaaGreatDoor.Fl
open Go.RowKit

theorem rletter_any (c : Nat) (w : World) (hc : c < 256) :
    Calls Tryz.prog 114 #[.int .u8 (c : Int)] w fun e w' => e = .returned (.bool (letterN c)) ∧ w = w' := by
  obtain ⟨r, hr⟩ : ∃ r, letterN c = r := ⟨_, rfl⟩
  rw [hr]
  have HR := Lib.hid hr
  clear hr
  go_enter Tryz.func114, Tryz.ntmps114
  go_wp2_with fail
  all_goals
    go_ret
    refine ⟨congrArg (fun x => Ending.returned (Value.bool x)) ?_, rfl⟩
    rw [← HR.out]
    unfold letterN
    refine Bool.eq_iff_iff.2 ?_
    first
    | (simp; done)
    | (simp; omega)
theorem rdigit_any (c : Nat) (w : World) (hc : c < 256) :
    Calls Tryz.prog 115 #[.int .u8 (c : Int)] w fun e w' => e = .returned (.bool (digitN c)) ∧ w = w' := by
  obtain ⟨r, hr⟩ : ∃ r, digitN c = r := ⟨_, rfl⟩
  rw [hr]
  have HR := Lib.hid hr
  clear hr
  go_enter Tryz.func115, Tryz.ntmps115
  go_wp2_with fail
  all_goals
    go_ret
    refine ⟨congrArg (fun x => Ending.returned (Value.bool x)) ?_, rfl⟩
    rw [← HR.out]
    unfold digitN
    refine Bool.eq_iff_iff.2 ?_
    first
    | (simp; done)
    | (simp; omega)
/-- what an operator is made of -/
def operN (c : Nat) : Bool := c == 43 || c == 45 || c == 42 || c == 47 || c == 92 || c == 126 || c == 60 || c == 62 || c == 61 || c == 38 || c == 44 || c == 64 || c == 37 || c == 63
theorem operN_eq : ∀ n : Fin 256, isOpc (UInt8.ofNat n) = operN n := by decide +kernel
theorem opc_eq (c : UInt8) : isOpc c = operN c.toNat := by
  have h := operN_eq ⟨c.toNat, c.toNat_lt⟩
  rwa [show UInt8.ofNat ((⟨c.toNat, c.toNat_lt⟩ : Fin 256) : Nat) = c from UInt8.ofNat_toNat] at h
set_option maxHeartbeats 1000000 in
theorem roper_is (c : Nat) (w : World) (hc : c < 256) :
    Calls Tryz.prog 116 #[.int .u8 (c : Int)] w fun e w' => e = .returned (.bool (operN c)) ∧ w = w' := by
  obtain ⟨r, hr⟩ : ∃ r, operN c = r := ⟨_, rfl⟩
  rw [hr]
  have HR := Lib.hid hr
  clear hr
  go_enter Tryz.func116, Tryz.ntmps116
  go_wp2_with fail
  all_goals
    go_ret
    refine ⟨congrArg (fun x => Ending.returned (Value.bool x)) ?_, rfl⟩
    rw [← HR.out]
    unfold operN
    refine Bool.eq_iff_iff.2 ?_
    first
    | (simp; done)
    | (simp; omega)
    | (simp only [beq_iff_eq, beq_eq_false_iff_ne, ne_eq] at *; simp; omega)
/-- the place behind a name; the place itself: there is none -/
def nameN (s : ByteArray) (p : Nat) : Nat := if letterN (lookB s p) = true then runE partN s p else p
theorem nameN_le {s : ByteArray} {p : Nat} (hp : p ≤ s.size) : p ≤ nameN s p ∧ nameN s p ≤ s.size := by
  unfold nameN
  split
  · exact runE_le hp
  · exact ⟨Nat.le_refl _, hp⟩
theorem lookB_at {s : ByteArray} {p : Nat} (h : p < s.size) : lookB s p = s[p].toNat := by unfold lookB; rw [dif_pos h]
theorem lookB_no {s : ByteArray} {p : Nat} (h : s.size ≤ p) : lookB s p = 0 := by unfold lookB; rw [dif_neg (by omega)]
set_option maxHeartbeats 2000000 in
theorem rname_any (s : ByteArray) (p : Nat) (w : World) (hs : s.size ≤ 16777216) (hp : p ≤ s.size) :
    Calls Tryz.prog 80 #[.string s, .int .i64 (p : Int)] w fun e w' => e = .returned (.int .i64 (nameN s p : Int)) ∧ w = w' := by
  obtain ⟨r, hr⟩ : ∃ r, nameN s p = r := ⟨_, rfl⟩
  rw [hr]
  have HR := Lib.hid hr
  unfold nameN at HR
  clear hr
  go_enter Tryz.func80, Tryz.ntmps80
  by_cases hlt : p < s.size
  case neg =>
    have e : p = s.size := by omega
    subst e
    have HE := Lib.hid (show r = s.size by rw [← HR.out, lookB_no (Nat.le_refl _), if_neg (by decide)])
    clear HR
    go_wp2_with fail
    go_ret
    exact ⟨by rw [HE.out]; rfl, rfl⟩
  have hb8 : s[p].toNat < 256 := s[p].toNat_lt
  have hdc : decide (s.size ≤ p) = false := decide_eq_false (by omega)
  have hl := rletter_any s[p].toNat w hb8
  rw [lookB_at hlt] at HR
  cases hv : letterN s[p].toNat
  · rw [hv] at hl HR
    have HE := Lib.hid (HR.out.symm.trans (if_neg (by decide)))
    clear HR
    go_wp2_with fail
    refine hl.mono ?_
    rintro e w' ⟨rfl, rfl⟩
    go_wp2_with fail
    go_ret
    exact ⟨by rw [HE.out]; rfl, rfl⟩
  · rw [hv] at hl HR
    have HE := Lib.hid (HR.out.symm.trans (if_pos rfl))
    clear HR
    go_wp2_with fail
    refine hl.mono ?_
    rintro e w' ⟨rfl, rfl⟩
    clear hl
    go_wp2_with fail
    go_loopw [1] (fun v wr => ∃ q : Nat, q ≤ s.size ∧ v = .int .i64 (q : Int) ∧ Hid (p ≤ q ∧ r = runE partN s q) ∧ w = wr) (fun v _ => s.size - (intOf v).toNat)
    case atStart => exact ⟨p, hp, rfl, Lib.hid ⟨Nat.le_refl _, HE.out⟩, rfl⟩
    case round =>
      obtain ⟨q, hq, rfl, HQ, rfl⟩ := hrel
      by_cases hlt2 : q < s.size
      · have hb := s[q].toNat_lt
        have hl2 := rletter_any s[q].toNat w hb
        have hd2 := rdigit_any s[q].toNat w hb
        cases hv1 : letterN s[q].toNat
        · rw [hv1] at hl2
          cases hv2 : digitN s[q].toNat
          · rw [hv2] at hd2
            have HS := Lib.hid (HQ.out.2.trans (runE_stop (f := partN) hlt2 (by unfold partN; rw [hv1, hv2]; rfl)))
            go_wp2_with fail
            refine hl2.mono ?_
            rintro e w' ⟨rfl, rfl⟩
            clear hl2
            go_wp2_with fail
            refine hd2.mono ?_
            rintro e w' ⟨rfl, rfl⟩
            clear hd2
            go_wp2_with fail
            go_ret
            exact ⟨by rw [HS.out]; rfl, rfl⟩
          · rw [hv2] at hd2
            have HS := Lib.hid (HQ.out.2.trans (runE_step (f := partN) hlt2 (by unfold partN; rw [hv1, hv2]; rfl)))
            go_wp2_with fail
            refine hl2.mono ?_
            rintro e w' ⟨rfl, rfl⟩
            clear hl2
            go_wp2_with fail
            refine hd2.mono ?_
            rintro e w' ⟨rfl, rfl⟩
            clear hd2
            go_wp2_with fail
            go_roundw
            case rel => exact ⟨q + 1, hlt2, rfl, Lib.hid ⟨Nat.le_succ_of_le HQ.out.1, HS.out⟩, trivial⟩
            case measure => simp [intOf]; omega
        · rw [hv1] at hl2
          have HS := Lib.hid (HQ.out.2.trans (runE_step (f := partN) hlt2 (by unfold partN; rw [hv1]; rfl)))
          clear hd2
          go_wp2_with fail
          refine hl2.mono ?_
          rintro e w' ⟨rfl, rfl⟩
          clear hl2
          go_wp2_with fail
          go_roundw
          case rel => exact ⟨q + 1, hlt2, rfl, Lib.hid ⟨Nat.le_succ_of_le HQ.out.1, HS.out⟩, trivial⟩
          case measure => simp [intOf]; omega
      · have e : q = s.size := by omega
        subst e
        have HS := Lib.hid (HQ.out.2.trans runE_end)
        go_wp2_with fail
        go_ret
        exact ⟨by rw [HS.out]; rfl, rfl⟩
/-- the place behind a keyword; the place itself: there is none -/
def keyR (s : ByteArray) (p : Nat) : Nat := if nameN s p ≠ p ∧ lookB s (nameN s p) = 58 ∧ lookB s (nameN s p + 1) ≠ 61 then nameN s p + 1 else p
set_option maxHeartbeats 1000000 in
theorem rkeyword_any (s : ByteArray) (p : Nat) (w : World) (hs : s.size ≤ 16777216) (hp : p ≤ s.size) :
    Calls Tryz.prog 113 #[.string s, .int .i64 (p : Int)] w fun e w' => e = .returned (.int .i64 (keyR s p : Int)) ∧ w = w' := by
  have hn := rname_any s p w hs hp
  have hle := nameN_le hp
  obtain ⟨r, hr⟩ : ∃ r, keyR s p = r := ⟨_, rfl⟩
  rw [hr]
  have HR := Lib.hid hr
  unfold keyR at HR
  clear hr
  generalize nameN s p = q at *
  obtain ⟨hle1, hle2⟩ := hle
  go_enter Tryz.func113, Tryz.ntmps113
  go_wp2_with fail
  refine hn.mono ?_
  rintro e w' ⟨rfl, rfl⟩
  clear hn
  by_cases h1 : p < q
  case neg =>
    have e : q = p := by omega
    have HE := Lib.hid (HR.out.symm.trans (if_neg (fun h => h.1 e)))
    subst e
    clear HR
    go_wp2_with fail
    go_ret
    exact ⟨by rw [HE.out]; rfl, rfl⟩
  by_cases h2 : q < s.size
  case neg =>
    have HE := Lib.hid (HR.out.symm.trans (if_neg (fun h => by have := h.2.1; rw [lookB_no (by omega)] at this; omega)))
    clear HR
    go_wp2_with fail
    go_ret
    exact ⟨by rw [HE.out]; rfl, rfl⟩
  by_cases h3 : s[q].toNat = 58
  case neg =>
    have HE := Lib.hid (HR.out.symm.trans (if_neg (fun h => by have := h.2.1; rw [lookB_at h2] at this; omega)))
    have h3b : ((s[q].toNat : Int) == 58) = false := by rw [beq_eq_false_iff_ne]; omega
    clear HR h3
    go_wp2_with fail
    go_ret
    exact ⟨by rw [HE.out]; rfl, rfl⟩
  have h3b : ((s[q].toNat : Int) == 58) = true := by rw [beq_iff_eq]; omega
  by_cases h4 : q + 1 < s.size
  case neg =>
    have HE := Lib.hid (HR.out.symm.trans (if_pos ⟨by omega, by rw [lookB_at h2]; exact h3, by rw [lookB_no (by omega)]; decide⟩))
    have h4b : ((q : Int) + 1 == (s.size : Int)) = true := by rw [beq_iff_eq]; omega
    clear HR h3 h4
    go_wp2_with fail
    go_ret
    exact ⟨by rw [HE.out]; rfl, rfl⟩
  have h4b : ((q : Int) + 1 == (s.size : Int)) = false := by rw [beq_eq_false_iff_ne]; omega
  by_cases h5 : s[q + 1].toNat = 61
  · have HE := Lib.hid (HR.out.symm.trans (if_neg (fun h => h.2.2 (by rw [lookB_at h4]; exact h5))))
    have h5b : ((s[q + 1].toNat : Int) != 61) = false := by rw [bne_eq_false_iff_eq]; omega
    clear HR h3 h5
    go_wp2_with fail
    go_ret
    exact ⟨by rw [HE.out]; rfl, rfl⟩
  · have HE := Lib.hid (HR.out.symm.trans (if_pos ⟨by omega, by rw [lookB_at h2]; exact h3, by rw [lookB_at h4]; exact h5⟩))
    have h5b : ((s[q + 1].toNat : Int) != 61) = true := by rw [bne_iff_ne]; omega
    clear HR h3 h5
    go_wp2_with fail
    go_ret
    exact ⟨by rw [HE.out]; rfl, rfl⟩
end Go.Proofs.YtmdkneollidkfaaGreatDoor.Fl
