/-
  The document's lexer: Arity.
-/
import Derived.Test.YtmdkneollidkfaaGreatDoorLyB
import Derived.Test.YtmdkneollidkfaaGreatDoorLyP
namespace Go.Proofs.YtmdkneollidkfaaGreatDoor.Fl
open Go.RowKit

set_option maxRecDepth 100000 in
set_option maxHeartbeats 2000000 in
theorem rarity_any (s : ByteArray) (w : World) (hs : s.size ≤ 16777216) :
    Calls Tryz.prog 57 #[.string s] w fun e w' => e = .returned (.int .i64 (arityL s)) ∧ w = w' := by
  rw [← arR_eq]
  obtain ⟨r, hr⟩ : ∃ r, arR s = r := ⟨_, rfl⟩
  rw [hr]
  have HR := Lib.hid hr
  unfold arR at HR
  clear hr
  go_enter Tryz.func57, Tryz.ntmps57
  by_cases h0 : s.size = 0
  · have HE := Lib.hid (HR.out.symm.trans (if_pos (.inl h0)))
    have hb : ((s.size : Int) == 0) = true := by rw [beq_iff_eq]; omega
    clear HR h0
    go_wp2_with fail
    go_ret
    exact ⟨by rw [HE.out]; rfl, rfl⟩
  have hb0 : ((s.size : Int) == 0) = false := by rw [beq_eq_false_iff_ne]; omega
  by_cases h64 : 64 < s.size
  · have HE := Lib.hid (HR.out.symm.trans (if_pos (.inr h64)))
    clear HR h0
    go_wp2_with fail
    go_ret
    exact ⟨by rw [HE.out]; rfl, rfl⟩
  have HR1 := Lib.hid (HR.out.symm.trans (if_neg (by omega)))
  have hkw := rkeywords_any s 0 w hs (Nat.zero_le _)
  have hnm := rname_any s 0 w hs (Nat.zero_le _)
  have hop := roper_any s 0 w hs (Nat.zero_le _)
  rw [Nat.zero_add] at hop
  have h64b : ¬ ((64 : Int) < (s.size : Int)) := by omega
  have hz : ((0 : Nat) : Int) = 0 := rfl
  rw [hz] at hkw hnm hop
  clear HR h0 hz
  by_cases hj : joinW s 0 = s.size
  · have HE := Lib.hid (HR1.out.trans (if_pos hj))
    rw [hj] at hkw
    clear HR1 hj hnm hop
    have hbb : ((s.size : Int) == (s.size : Int)) = true := by rw [beq_iff_eq]
    go_wp2_with (first | (go_at_call 79; refine hkw.mono ?_; rintro e w' ⟨rfl, rfl⟩))
    clear hkw
    go_loopw [3, 4] (fun v3 v4 wr => ∃ (i n : Nat), i ≤ s.size ∧ n ≤ i ∧ v3 = .int .i64 (n : Int) ∧ v4 = .int .i64 (i : Int) ∧ Hid (((sb s).take i).countP (· == 58) = n) ∧ w = wr) (fun _ v4 _ => s.size - (intOf v4).toNat)
    case atStart => exact ⟨0, 0, Nat.zero_le _, Nat.le_refl _, rfl, rfl, Lib.hid rfl, rfl⟩
    case round =>
      obtain ⟨i, n, hi, hni, rfl, rfl, HN, rfl⟩ := hrel
      by_cases hlt : i < s.size
      case neg =>
        have e : i = s.size := by omega
        have HF : Hid (r = (n : Int)) := Lib.hid (by rw [HE.out, ← HN.out, e, sb_all])
        clear HE HN e
        go_wp2_with fail
        go_ret
        exact ⟨by rw [HF.out]; rfl, rfl⟩
      have hct : ((sb s).take (i + 1)).countP (· == 58) = ((sb s).take i).countP (· == 58) + (if s[i] = 58 then 1 else 0) := by
        rw [sb_take s i hlt, List.countP_append, List.countP_singleton]
        congr 1
        by_cases h : s[i] = 58
        · simp [h]
        · simp [h]
      by_cases h58 : s[i].toNat = 58
      · have e1 : ((s[i].toNat : Int) == 58) = true := by rw [beq_iff_eq]; omega
        have HN2 : Hid (((sb s).take (i + 1)).countP (· == 58) = n + 1) := Lib.hid (by rw [hct, HN.out, if_pos (UInt8.toNat_inj.1 h58)])
        clear hct h58 HN
        go_wp2_with fail
        go_roundw
        case rel => exact ⟨i + 1, n + 1, hlt, by omega, rfl, rfl, HN2, trivial⟩
        case measure => simp [intOf]; omega
      · have e1 : ((s[i].toNat : Int) == 58) = false := by rw [beq_eq_false_iff_ne]; omega
        have HN2 : Hid (((sb s).take (i + 1)).countP (· == 58) = n) := Lib.hid (by rw [hct, HN.out, if_neg (fun e => h58 (by rw [e]; rfl))]; rfl)
        clear hct h58 HN
        go_wp2_with fail
        go_roundw
        case rel => exact ⟨i + 1, n, hlt, by omega, rfl, rfl, HN2, trivial⟩
        case measure => simp [intOf]; omega
  have HR2 := Lib.hid (HR1.out.trans (if_neg hj))
  have hjb : ((joinW s 0 : Int) == (s.size : Int)) = false := by rw [beq_eq_false_iff_ne]; omega
  clear HR1 hj
  generalize joinW s 0 = J at *
  by_cases hn : nameN s 0 = s.size
  · have HE := Lib.hid (HR2.out.trans (if_pos hn))
    rw [hn] at hnm
    clear HR2 hn hop
    go_wp2_with (first | (go_at_call 79; refine hkw.mono ?_; rintro e w' ⟨rfl, rfl⟩) | (go_at_call 80; refine hnm.mono ?_; rintro e w' ⟨rfl, rfl⟩))
    go_ret
    exact ⟨by rw [HE.out]; rfl, rfl⟩
  have HR3 := Lib.hid (HR2.out.trans (if_neg hn))
  have hnb : ((nameN s 0 : Int) == (s.size : Int)) = false := by rw [beq_eq_false_iff_ne]; omega
  clear HR2 hn
  generalize nameN s 0 = M at *
  by_cases ho : opF s 0 2 = s.size
  · have HE := Lib.hid (HR3.out.trans (if_pos ho))
    rw [ho] at hop
    clear HR3 ho
    go_wp2_with (first | (go_at_call 79; refine hkw.mono ?_; rintro e w' ⟨rfl, rfl⟩) | (go_at_call 80; refine hnm.mono ?_; rintro e w' ⟨rfl, rfl⟩) | (go_at_call 81; refine hop.mono ?_; rintro e w' ⟨rfl, rfl⟩))
    go_ret
    exact ⟨by rw [HE.out]; rfl, rfl⟩
  · have HE := Lib.hid (HR3.out.trans (if_neg ho))
    have hob : ((opF s 0 2 : Int) == (s.size : Int)) = false := by rw [beq_eq_false_iff_ne]; omega
    clear HR3 ho
    generalize opF s 0 2 = O at *
    go_wp2_with (first | (go_at_call 79; refine hkw.mono ?_; rintro e w' ⟨rfl, rfl⟩) | (go_at_call 80; refine hnm.mono ?_; rintro e w' ⟨rfl, rfl⟩) | (go_at_call 81; refine hop.mono ?_; rintro e w' ⟨rfl, rfl⟩))
    go_ret
    exact ⟨by rw [HE.out]; rfl, rfl⟩
end Go.Proofs.YtmdkneollidkfaaGreatDoor.Fl
