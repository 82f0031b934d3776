/-
  Contracts: the document's own Parse, at texts of at most 100 bytes.
-/
import Derived.Test.YtdcehjdngjafoaaDoorText
namespace Go.Proofs.YtdcehjdngjafoaaDoor.Fl
open Go.RowKit

theorem pvpe_bad {l : List UInt8} (h : form l = false) : pv l = 0 ∧ pe l = 3 := by unfold pv pe; rw [h]; exact ⟨rfl, rfl⟩
theorem pvpe_in {l : List UInt8} (h : form l = true) (k : InR (spelt l)) : pv l = spelt l ∧ pe l = 0 := by unfold pv pe; rw [if_pos h, if_pos h, if_pos k, if_pos k]; exact ⟨rfl, rfl⟩
theorem pvpe_out {l : List UInt8} (h : form l = true) (k : ¬ InR (spelt l)) : pv l = 0 ∧ pe l = 9 := by unfold pv pe; rw [if_pos h, if_pos h, if_neg k, if_neg k]; exact ⟨rfl, rfl⟩
theorem ret_pp {a b c d : Int} (h : a = b ∧ c = d) : Ending.returned (.tuple #[.int .i64 b, .int .i64 d]) = .returned (.tuple #[.int .i64 a, .int .i64 c]) := by rw [h.1, h.2]
theorem bs_head (s : ByteArray) (h : 0 < s.size) : (bs s).head? = some s[0] := by rw [List.head?_eq_getElem?]; exact bs_at s 0 h
theorem bs_nil (s : ByteArray) (h : s.size = 0) : bs s = [] := List.eq_nil_of_length_eq_zero (by rw [bs_len]; exact h)
theorem neg_body {s : ByteArray} (h : 0 < s.size) (h0 : s[0] = 45) : isNeg (bs s) = true ∧ body (bs s) = (bs s).drop 1 := by
  have hh := bs_head s h
  rw [h0] at hh
  refine ⟨by simp [isNeg, hh], ?_⟩
  unfold body; rw [if_pos hh]; exact List.drop_one.symm
theorem pos_body {s : ByteArray} (h : 0 < s.size) (h0 : s[0] ≠ 45) : isNeg (bs s) = false ∧ body (bs s) = (bs s).drop 0 := by
  have hh := bs_head s h
  refine ⟨by simp [isNeg, hh, h0], ?_⟩
  unfold body; rw [if_neg (by rw [hh]; simpa using h0)]; rfl
/-- the digits that were read, from place A up to k -/
def part (s : ByteArray) (A k : Nat) : List UInt8 := ((bs s).take k).drop A
theorem part_start (s : ByteArray) (A : Nat) : part s A A = [] := by unfold part; exact List.drop_eq_nil_of_le (List.length_take_le _ _)
theorem part_step (s : ByteArray) (A k : Nat) (hA : A ≤ k) (h : k < s.size) : part s A (k + 1) = part s A k ++ [s[k]] := by
  unfold part
  rw [bs_take s k h, List.drop_append_of_le_length]
  rw [List.length_take, bs_len]; omega
theorem part_all (s : ByteArray) (A : Nat) : part s A s.size = (bs s).drop A := by unfold part; rw [bs_all]
theorem part_bad {s : ByteArray} {A k : Nat} (hb : body (bs s) = (bs s).drop A) (hA : A ≤ k) (h : k < s.size) (hd : ¬ (48 ≤ (s[k].toNat : Int) ∧ (s[k].toNat : Int) ≤ 57)) : form (bs s) = false := by
  unfold form
  rw [Bool.and_eq_false_iff]
  left
  rw [Bool.eq_false_iff]
  intro ha
  rw [hb] at ha
  unfold allDig at ha
  rw [List.all_eq_true] at ha
  refine hd ((dig_iff _).1 (ha _ (List.mem_of_getElem? (i := k - A) ?_)))
  rw [List.getElem?_drop, show A + (k - A) = k by omega]
  exact bs_at s k h
theorem part_form {s : ByteArray} {A : Nat} (hb : body (bs s) = (bs s).drop A) (h : A < s.size) (ha : allDig (part s A s.size) = true) : form (bs s) = true := by
  rw [part_all, ← hb] at ha
  unfold form
  rw [ha]
  have : (body (bs s)).length ≠ 0 := by rw [hb, List.length_drop, bs_len]; omega
  cases hl : body (bs s) with
  | nil => rw [hl] at this; exact absurd rfl this
  | cons c r => rfl
theorem all_snoc {l : List UInt8} {c : UInt8} (h : allDig l = true) (hc : isDig c = true) : allDig (l ++ [c]) = true := by
  unfold allDig at *; rw [List.all_append, h]; simp [hc]
theorem sat_snoc (l : List UInt8) (c : UInt8) : sat 0 (l ++ [c]) = satStep (sat 0 l) c := by unfold sat; rw [List.foldl_append]; rfl
theorem sat_end {s : ByteArray} {A m : Nat} (hb : body (bs s) = (bs s).drop A) (h : m = sat 0 (part s A s.size)) : Sat m (dv 0 (body (bs s))) := by
  rw [h, hb, part_all]; exact sat_dv _ (.inl rfl)
attribute [irreducible] part

set_option maxHeartbeats 2000000 in
theorem rparse_any (s : ByteArray) (w : World) (hs : s.size ≤ 100) :
    Calls Tryd.prog 34 #[.string s] w fun e w' => e = .returned (.tuple #[.int .i64 (pv (bs s)), .int .i64 (pe (bs s))]) ∧ w = w' := by
  by_cases hz : s.size = 0
  · have HB := Lib.hid (pvpe_bad (l := bs s) (by rw [bs_nil s hz]; rfl))
    have h0 : ¬ 0 < s.size := by omega
    have h1 : ((0 : Int) == (s.size : Int)) = true := by simp; omega
    clear hz
    go_enter Tryd.func34, Tryd.ntmps34
    go_wp2_with fail
    go_ret2
    exact ⟨ret_pp HB.out, rfl⟩
  · have hp : 0 < s.size := by omega
    by_cases hc : s[0] = 45
    · have t0 : ((s[0].toNat : Int) == 45) = true := by rw [hc]; rfl
      obtain ⟨hn, hb⟩ := neg_body hp hc
      have HN := Lib.hid hn
      have HB := Lib.hid hb
      clear hn hb hc hz
      by_cases h1 : s.size = 1
      · have t1 : ((1 : Int) == (s.size : Int)) = true := by simp; omega
        have HF := Lib.hid (pvpe_bad (l := bs s) (by
          unfold form
          have : (body (bs s)).length = 0 := by rw [HB.out, List.length_drop, bs_len]; omega
          rw [List.eq_nil_of_length_eq_zero this]; rfl))
        clear h1
        go_enter Tryd.func34, Tryd.ntmps34
        go_wp2_with fail
        go_ret2
        exact ⟨ret_pp HF.out, rfl⟩
      · have t1 : ((1 : Int) == (s.size : Int)) = false := by simp; omega
        have hA : 1 < s.size := by omega
        clear h1
        go_enter Tryd.func34, Tryd.ntmps34
        go_wp2_with fail
        go_loop [5, 6] (fun a i => ∃ k m : Nat, 1 ≤ k ∧ k ≤ s.size ∧ i = .int .i64 k ∧ a = .int .u64 m ∧ m ≤ 9223372036854775807 ∧ Hid (m = sat 0 (part s 1 k)) ∧ Hid (allDig (part s 1 k) = true)) (fun _ i => s.size - (intOf i).toNat)
        case atStart => exact ⟨1, 0, Nat.le_refl _, by omega, rfl, rfl, by omega, Lib.hid (by rw [part_start]; unfold sat; rfl), Lib.hid (by rw [part_start]; rfl)⟩
        case round =>
          obtain ⟨k, m, hkA, hk, rfl, rfl, hm, HM, HD⟩ := hrel
          by_cases hlt : k < s.size
          · have HT := Lib.hid (part_step s 1 k hkA hlt)
            by_cases h1 : (s[k].toNat : Int) < 48
            · have HBad := Lib.hid (pvpe_bad (part_bad HB.out hkA hlt (by omega)))
              go_wp2
              go_ret2
              exact ⟨ret_pp HBad.out, rfl⟩
            · by_cases h2 : (57 : Int) < (s[k].toNat : Int)
              · have HBad := Lib.hid (pvpe_bad (part_bad HB.out hkA hlt (by omega)))
                go_wp2
                go_ret2
                exact ⟨ret_pp HBad.out, rfl⟩
              · have HC := Lib.hid ((dig_iff s[k]).2 ⟨by omega, by omega⟩)
                have HS := Lib.hid (sat_le hm HC.out)
                by_cases h3 : 461168601842738791 < (m : Int)
                · go_wp2
                  refine ⟨⟨k + 1, satStep m s[k], by omega, by omega, by go_num, ?_, HS.out, Lib.hid (by rw [HT.out, sat_snoc, ← HM.out]), Lib.hid (by rw [HT.out]; exact all_snoc HD.out HC.out)⟩, ?_⟩
                  · unfold satStep; rw [if_pos (by omega)]; rfl
                  · simp [intOf]; omega
                · go_wp2
                  refine ⟨⟨k + 1, satStep m s[k], by omega, by omega, by go_num, ?_, HS.out, Lib.hid (by rw [HT.out, sat_snoc, ← HM.out]), Lib.hid (by rw [HT.out]; exact all_snoc HD.out HC.out)⟩, ?_⟩
                  · unfold satStep; rw [if_neg (by omega)]; congr 1; omega
                  · simp [intOf]; omega
          · have e : k = s.size := by omega
            subst e
            have HF := Lib.hid (part_form HB.out hA HD.out)
            have HV := Lib.hid (sat_end HB.out HM.out)
            clear HM HD
            by_cases hm : 4611686018427387904 < (m : Int)
            · go_wp2
              go_ret2
              exact ⟨ret_pp (pvpe_out HF.out (by
                have hv := HV.out
                unfold Sat at hv
                unfold spelt; rw [HN.out]; unfold InR; simp; omega)), rfl⟩
            · go_wp2
              go_ret2
              refine ⟨ret_pp (?_ : _ ∧ _), rfl⟩
              have hv := HV.out
              unfold Sat at hv
              have hsp : spelt (bs s) = -(m : Int) := by unfold spelt; rw [HN.out]; simp; omega
              have := pvpe_in HF.out (by rw [hsp]; unfold InR; omega)
              rw [hsp] at this
              exact this
    · have t0 : ((s[0].toNat : Int) == 45) = false := by
        rw [beq_eq_false_iff_ne]
        intro e
        exact hc (UInt8.toNat_inj.1 (by rw [show (45 : UInt8).toNat = 45 from rfl]; omega))
      have t1 : ((0 : Int) == (s.size : Int)) = false := by simp; omega
      obtain ⟨hn, hb⟩ := pos_body hp hc
      have HN := Lib.hid hn
      have HB := Lib.hid hb
      have hA : 0 < s.size := hp
      clear hn hb hc hz
      go_enter Tryd.func34, Tryd.ntmps34
      go_wp2_with fail
      go_loop [5, 6] (fun a i => ∃ k m : Nat, 0 ≤ k ∧ k ≤ s.size ∧ i = .int .i64 k ∧ a = .int .u64 m ∧ m ≤ 9223372036854775807 ∧ Hid (m = sat 0 (part s 0 k)) ∧ Hid (allDig (part s 0 k) = true)) (fun _ i => s.size - (intOf i).toNat)
      case atStart => exact ⟨0, 0, Nat.le_refl _, by omega, rfl, rfl, by omega, Lib.hid (by rw [part_start]; unfold sat; rfl), Lib.hid (by rw [part_start]; rfl)⟩
      case round =>
        obtain ⟨k, m, hkA, hk, rfl, rfl, hm, HM, HD⟩ := hrel
        by_cases hlt : k < s.size
        · have HT := Lib.hid (part_step s 0 k hkA hlt)
          by_cases h1 : (s[k].toNat : Int) < 48
          · have HBad := Lib.hid (pvpe_bad (part_bad HB.out hkA hlt (by omega)))
            go_wp2
            go_ret2
            exact ⟨ret_pp HBad.out, rfl⟩
          · by_cases h2 : (57 : Int) < (s[k].toNat : Int)
            · have HBad := Lib.hid (pvpe_bad (part_bad HB.out hkA hlt (by omega)))
              go_wp2
              go_ret2
              exact ⟨ret_pp HBad.out, rfl⟩
            · have HC := Lib.hid ((dig_iff s[k]).2 ⟨by omega, by omega⟩)
              have HS := Lib.hid (sat_le hm HC.out)
              by_cases h3 : 461168601842738791 < (m : Int)
              · go_wp2
                refine ⟨⟨k + 1, satStep m s[k], by omega, by omega, by go_num, ?_, HS.out, Lib.hid (by rw [HT.out, sat_snoc, ← HM.out]), Lib.hid (by rw [HT.out]; exact all_snoc HD.out HC.out)⟩, ?_⟩
                · unfold satStep; rw [if_pos (by omega)]; rfl
                · simp [intOf]; omega
              · go_wp2
                refine ⟨⟨k + 1, satStep m s[k], by omega, by omega, by go_num, ?_, HS.out, Lib.hid (by rw [HT.out, sat_snoc, ← HM.out]), Lib.hid (by rw [HT.out]; exact all_snoc HD.out HC.out)⟩, ?_⟩
                · unfold satStep; rw [if_neg (by omega)]; congr 1; omega
                · simp [intOf]; omega
        · have e : k = s.size := by omega
          subst e
          have HF := Lib.hid (part_form HB.out hA HD.out)
          have HV := Lib.hid (sat_end HB.out HM.out)
          clear HM HD
          by_cases hm : 4611686018427387904 < (m : Int)
          · go_wp2
            go_ret2
            exact ⟨ret_pp (pvpe_out HF.out (by
              have hv := HV.out
              unfold Sat at hv
              unfold spelt; rw [HN.out]; unfold InR; simp; omega)), rfl⟩
          · by_cases hm2 : 4611686018427387903 < (m : Int)
            · go_wp2
              go_ret2
              exact ⟨ret_pp (pvpe_out HF.out (by
                have hv := HV.out
                unfold Sat at hv
                unfold spelt; rw [HN.out]; unfold InR; simp; omega)), rfl⟩
            · go_wp2
              go_ret2
              refine ⟨ret_pp (?_ : _ ∧ _), rfl⟩
              have hv := HV.out
              unfold Sat at hv
              have hsp : spelt (bs s) = (m : Int) := by unfold spelt; rw [HN.out]; simp; omega
              have := pvpe_in HF.out (by rw [hsp]; unfold InR; omega)
              rw [hsp] at this
              exact this
end Go.Proofs.YtdcehjdngjafoaaDoor.Fl
