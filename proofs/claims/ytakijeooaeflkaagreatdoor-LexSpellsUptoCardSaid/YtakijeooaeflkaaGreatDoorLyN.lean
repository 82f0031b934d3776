/-
  The document's Parse of a text of any length.
-/
import Derived.Test.YtakijeooaeflkaaGreatDoorLxN
namespace Go.Proofs.YtakijeooaeflkaaGreatDoor.Fl
open Go.RowKit

theorem bs_headL (s : ByteArray) (h : 0 < s.size) : (sb s).head? = some s[0] := by rw [List.head?_eq_getElem?]; exact sb_at s 0 h
theorem bs_nilL (s : ByteArray) (h : s.size = 0) : sb s = [] := List.eq_nil_of_length_eq_zero (by rw [sb_len]; exact h)
theorem neg_bodyL {s : ByteArray} (h : 0 < s.size) (h0 : s[0] = 45) : isNeg (sb s) = true ∧ body (sb s) = (sb s).drop 1 := by
  have hh := bs_headL s h
  rw [h0] at hh
  refine ⟨by simp [isNeg, hh], ?_⟩
  unfold body; rw [if_pos hh]; exact List.drop_one.symm
theorem pos_bodyL {s : ByteArray} (h : 0 < s.size) (h0 : s[0] ≠ 45) : isNeg (sb s) = false ∧ body (sb s) = (sb s).drop 0 := by
  have hh := bs_headL s h
  refine ⟨by simp [isNeg, hh, h0], ?_⟩
  unfold body; rw [if_neg (by rw [hh]; simpa using h0)]; rfl
/-- the digits that were read, from place A up to k -/
def partP (s : ByteArray) (A k : Nat) : List UInt8 := ((sb s).take k).drop A
theorem part_startL (s : ByteArray) (A : Nat) : partP s A A = [] := by unfold partP; exact List.drop_eq_nil_of_le (List.length_take_le _ _)
theorem part_stepL (s : ByteArray) (A k : Nat) (hA : A ≤ k) (h : k < s.size) : partP s A (k + 1) = partP s A k ++ [s[k]] := by
  unfold partP
  rw [sb_take s k h, List.drop_append_of_le_length]
  rw [List.length_take, sb_len]; omega
theorem part_allL (s : ByteArray) (A : Nat) : partP s A s.size = (sb s).drop A := by unfold partP; rw [sb_all]
theorem part_badL {s : ByteArray} {A k : Nat} (hb : body (sb s) = (sb s).drop A) (hA : A ≤ k) (h : k < s.size) (hd : ¬ (48 ≤ (s[k].toNat : Int) ∧ (s[k].toNat : Int) ≤ 57)) : form (sb s) = false := by
  unfold form
  rw [Bool.and_eq_false_iff]
  left
  rw [Bool.eq_false_iff]
  intro ha
  rw [hb] at ha
  unfold allDig at ha
  rw [List.all_eq_true] at ha
  refine hd ((digL_iff _).1 (ha _ (List.mem_of_getElem? (i := k - A) ?_)))
  rw [List.getElem?_drop, show A + (k - A) = k by omega]
  exact sb_at s k h
theorem part_formL {s : ByteArray} {A : Nat} (hb : body (sb s) = (sb s).drop A) (h : A < s.size) (ha : allDig (partP s A s.size) = true) : form (sb s) = true := by
  rw [part_allL, ← hb] at ha
  unfold form
  rw [ha]
  have : (body (sb s)).length ≠ 0 := by rw [hb, List.length_drop, sb_len]; omega
  cases hl : body (sb s) with
  | nil => rw [hl] at this; exact absurd rfl this
  | cons c r => rfl
theorem all_snocL {l : List UInt8} {c : UInt8} (h : allDig l = true) (hc : isDig c = true) : allDig (l ++ [c]) = true := by
  unfold allDig at *; rw [List.all_append, h]; simp [hc]
theorem sat_snocL (l : List UInt8) (c : UInt8) : sat 0 (l ++ [c]) = satStep (sat 0 l) c := by unfold sat; rw [List.foldl_append]; rfl
theorem sat_endL {s : ByteArray} {A m : Nat} (hb : body (sb s) = (sb s).drop A) (h : m = sat 0 (partP s A s.size)) : Sat m (dv 0 (body (sb s))) := by
  rw [h, hb, part_allL]; exact sat_dv _ (.inl rfl)
attribute [irreducible] partP

set_option maxHeartbeats 2000000 in
theorem rparse_anyL (s : ByteArray) (w : World) (hs : s.size ≤ 16777216) :
    Calls Tryz.prog 65 #[.string s] w fun e w' => e = .returned (.tuple #[.int .i64 (pv (sb s)), .int .i64 (pe (sb s))]) ∧ w = w' := by
  by_cases hz : s.size = 0
  · have HB := Lib.hid (pvpeL_bad (l := sb s) (by rw [bs_nilL s hz]; rfl))
    have h0 : ¬ 0 < s.size := by omega
    have h1 : ((0 : Int) == (s.size : Int)) = true := by simp; omega
    clear hz
    go_enter Tryz.func65, Tryz.ntmps65
    go_wp2_with fail
    go_ret2
    exact ⟨ret_ppL HB.out, rfl⟩
  · have hp : 0 < s.size := by omega
    by_cases hc : s[0] = 45
    · have t0 : ((s[0].toNat : Int) == 45) = true := by rw [hc]; rfl
      obtain ⟨hn, hb⟩ := neg_bodyL hp hc
      have HN := Lib.hid hn
      have HB := Lib.hid hb
      clear hn hb hc hz
      by_cases h1 : s.size = 1
      · have t1 : ((1 : Int) == (s.size : Int)) = true := by simp; omega
        have HF := Lib.hid (pvpeL_bad (l := sb s) (by
          unfold form
          have : (body (sb s)).length = 0 := by rw [HB.out, List.length_drop, sb_len]; omega
          rw [List.eq_nil_of_length_eq_zero this]; rfl))
        clear h1
        go_enter Tryz.func65, Tryz.ntmps65
        go_wp2_with fail
        go_ret2
        exact ⟨ret_ppL HF.out, rfl⟩
      · have t1 : ((1 : Int) == (s.size : Int)) = false := by simp; omega
        have hA : 1 < s.size := by omega
        clear h1
        go_enter Tryz.func65, Tryz.ntmps65
        go_wp2_with fail
        go_loop [5, 6] (fun a i => ∃ k m : Nat, 1 ≤ k ∧ k ≤ s.size ∧ i = .int .i64 k ∧ a = .int .u64 m ∧ m ≤ 9223372036854775807 ∧ Hid (m = sat 0 (partP s 1 k)) ∧ Hid (allDig (partP s 1 k) = true)) (fun _ i => s.size - (intOf i).toNat)
        case atStart => exact ⟨1, 0, Nat.le_refl _, by omega, rfl, rfl, by omega, Lib.hid (by rw [part_startL]; unfold sat; rfl), Lib.hid (by rw [part_startL]; rfl)⟩
        case round =>
          obtain ⟨k, m, hkA, hk, rfl, rfl, hm, HM, HD⟩ := hrel
          by_cases hlt : k < s.size
          · have HT := Lib.hid (part_stepL s 1 k hkA hlt)
            by_cases h1 : (s[k].toNat : Int) < 48
            · have HBad := Lib.hid (pvpeL_bad (part_badL HB.out hkA hlt (by omega)))
              go_wp2
              go_ret2
              exact ⟨ret_ppL HBad.out, rfl⟩
            · by_cases h2 : (57 : Int) < (s[k].toNat : Int)
              · have HBad := Lib.hid (pvpeL_bad (part_badL HB.out hkA hlt (by omega)))
                go_wp2
                go_ret2
                exact ⟨ret_ppL HBad.out, rfl⟩
              · have HC := Lib.hid ((digL_iff s[k]).2 ⟨by omega, by omega⟩)
                have HS := Lib.hid (sat_le hm HC.out)
                by_cases h3 : 461168601842738791 < (m : Int)
                · go_wp2
                  refine ⟨⟨k + 1, satStep m s[k], by omega, by omega, by go_num, ?_, HS.out, Lib.hid (by rw [HT.out, sat_snocL, ← HM.out]), Lib.hid (by rw [HT.out]; exact all_snocL HD.out HC.out)⟩, ?_⟩
                  · unfold satStep; rw [if_pos (by omega)]; rfl
                  · simp [intOf]; omega
                · go_wp2
                  refine ⟨⟨k + 1, satStep m s[k], by omega, by omega, by go_num, ?_, HS.out, Lib.hid (by rw [HT.out, sat_snocL, ← HM.out]), Lib.hid (by rw [HT.out]; exact all_snocL HD.out HC.out)⟩, ?_⟩
                  · unfold satStep; rw [if_neg (by omega)]; congr 1; omega
                  · simp [intOf]; omega
          · have e : k = s.size := by omega
            subst e
            have HF := Lib.hid (part_formL HB.out hA HD.out)
            have HV := Lib.hid (sat_endL HB.out HM.out)
            clear HM HD
            by_cases hm : 4611686018427387904 < (m : Int)
            · go_wp2
              go_ret2
              exact ⟨ret_ppL (pvpeL_out HF.out (by
                have hv := HV.out
                unfold Sat at hv
                unfold spelt; rw [HN.out]; unfold InR; simp; omega)), rfl⟩
            · go_wp2
              go_ret2
              refine ⟨ret_ppL (?_ : _ ∧ _), rfl⟩
              have hv := HV.out
              unfold Sat at hv
              have hsp : spelt (sb s) = -(m : Int) := by unfold spelt; rw [HN.out]; simp; omega
              have := pvpeL_in HF.out (by rw [hsp]; unfold InR; omega)
              rw [hsp] at this
              exact this
    · have t0 : ((s[0].toNat : Int) == 45) = false := by
        rw [beq_eq_false_iff_ne]
        intro e
        exact hc (UInt8.toNat_inj.1 (by rw [show (45 : UInt8).toNat = 45 from rfl]; omega))
      have t1 : ((0 : Int) == (s.size : Int)) = false := by simp; omega
      obtain ⟨hn, hb⟩ := pos_bodyL hp hc
      have HN := Lib.hid hn
      have HB := Lib.hid hb
      have hA : 0 < s.size := hp
      clear hn hb hc hz
      go_enter Tryz.func65, Tryz.ntmps65
      go_wp2_with fail
      go_loop [5, 6] (fun a i => ∃ k m : Nat, 0 ≤ k ∧ k ≤ s.size ∧ i = .int .i64 k ∧ a = .int .u64 m ∧ m ≤ 9223372036854775807 ∧ Hid (m = sat 0 (partP s 0 k)) ∧ Hid (allDig (partP s 0 k) = true)) (fun _ i => s.size - (intOf i).toNat)
      case atStart => exact ⟨0, 0, Nat.le_refl _, by omega, rfl, rfl, by omega, Lib.hid (by rw [part_startL]; unfold sat; rfl), Lib.hid (by rw [part_startL]; rfl)⟩
      case round =>
        obtain ⟨k, m, hkA, hk, rfl, rfl, hm, HM, HD⟩ := hrel
        by_cases hlt : k < s.size
        · have HT := Lib.hid (part_stepL s 0 k hkA hlt)
          by_cases h1 : (s[k].toNat : Int) < 48
          · have HBad := Lib.hid (pvpeL_bad (part_badL HB.out hkA hlt (by omega)))
            go_wp2
            go_ret2
            exact ⟨ret_ppL HBad.out, rfl⟩
          · by_cases h2 : (57 : Int) < (s[k].toNat : Int)
            · have HBad := Lib.hid (pvpeL_bad (part_badL HB.out hkA hlt (by omega)))
              go_wp2
              go_ret2
              exact ⟨ret_ppL HBad.out, rfl⟩
            · have HC := Lib.hid ((digL_iff s[k]).2 ⟨by omega, by omega⟩)
              have HS := Lib.hid (sat_le hm HC.out)
              by_cases h3 : 461168601842738791 < (m : Int)
              · go_wp2
                refine ⟨⟨k + 1, satStep m s[k], by omega, by omega, by go_num, ?_, HS.out, Lib.hid (by rw [HT.out, sat_snocL, ← HM.out]), Lib.hid (by rw [HT.out]; exact all_snocL HD.out HC.out)⟩, ?_⟩
                · unfold satStep; rw [if_pos (by omega)]; rfl
                · simp [intOf]; omega
              · go_wp2
                refine ⟨⟨k + 1, satStep m s[k], by omega, by omega, by go_num, ?_, HS.out, Lib.hid (by rw [HT.out, sat_snocL, ← HM.out]), Lib.hid (by rw [HT.out]; exact all_snocL HD.out HC.out)⟩, ?_⟩
                · unfold satStep; rw [if_neg (by omega)]; congr 1; omega
                · simp [intOf]; omega
        · have e : k = s.size := by omega
          subst e
          have HF := Lib.hid (part_formL HB.out hA HD.out)
          have HV := Lib.hid (sat_endL HB.out HM.out)
          clear HM HD
          by_cases hm : 4611686018427387904 < (m : Int)
          · go_wp2
            go_ret2
            exact ⟨ret_ppL (pvpeL_out HF.out (by
              have hv := HV.out
              unfold Sat at hv
              unfold spelt; rw [HN.out]; unfold InR; simp; omega)), rfl⟩
          · by_cases hm2 : 4611686018427387903 < (m : Int)
            · go_wp2
              go_ret2
              exact ⟨ret_ppL (pvpeL_out HF.out (by
                have hv := HV.out
                unfold Sat at hv
                unfold spelt; rw [HN.out]; unfold InR; simp; omega)), rfl⟩
            · go_wp2
              go_ret2
              refine ⟨ret_ppL (?_ : _ ∧ _), rfl⟩
              have hv := HV.out
              unfold Sat at hv
              have hsp : spelt (sb s) = (m : Int) := by unfold spelt; rw [HN.out]; simp; omega
              have := pvpeL_in HF.out (by rw [hsp]; unfold InR; omega)
              rw [hsp] at this
              exact this
end Go.Proofs.YtakijeooaeflkaaGreatDoor.Fl
