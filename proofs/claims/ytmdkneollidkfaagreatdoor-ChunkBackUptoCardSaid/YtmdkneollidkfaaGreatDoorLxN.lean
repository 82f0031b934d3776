/-
  Numbers as texts, of any length: small.digits, small.Parse.
-/
import Derived.Test.YtmdkneollidkfaaGreatDoorLxA
import Derived.Test.YtmdkneollidkfaaGreatDoorShelf
import Derived.Test.YtmdkneollidkfaaGreatDoorMathT
import Derived.Test.YtmdkneollidkfaaGreatDoorSmall
import Derived.Lib.SmallJoins
import Derived.Laws.BytesArg
import Derived.LoopTactic
namespace Go.Proofs.YtmdkneollidkfaaGreatDoor.Fl
open Go.RowKit

theorem sb_at (s : ByteArray) (k : Nat) (h : k < s.size) : (sb s)[k]? = some s[k] := by
  have : k < (sb s).length := by rw [sb_len]; exact h
  rw [List.getElem?_eq_getElem this]; rfl
theorem sb_take (s : ByteArray) (k : Nat) (h : k < s.size) : (sb s).take (k + 1) = (sb s).take k ++ [s[k]] := by
  have hl : k < (sb s).length := by rw [sb_len]; exact h
  rw [List.take_succ_eq_append_getElem hl]; rfl
theorem sb_all (s : ByteArray) : (sb s).take s.size = sb s := List.take_of_length_le (by rw [sb_len]; omega)
theorem sb_mem {s : ByteArray} {k : Nat} (h : k < s.size) (ha : allDig (sb s) = true) : isDig s[k] = true := by
  unfold allDig at ha
  rw [List.all_eq_true] at ha
  exact ha _ (List.mem_of_getElem? (sb_at s k h))
theorem digL_iff (c : UInt8) : isDig c = true ↔ 48 ≤ (c.toNat : Int) ∧ (c.toNat : Int) ≤ 57 := by unfold isDig; simp; omega

def digL (l : List UInt8) : Bool := allDig l && !l.isEmpty
attribute [irreducible] digL

set_option maxHeartbeats 1000000 in
theorem digitsL_any (s : ByteArray) (w : World) (hs : s.size ≤ 16777216) :
    Calls Tryz.prog 206 #[.string s] w fun e w' => e = .returned (.bool (digL (sb s))) ∧ w = w' := by
  go_enter Tryz.func206, Tryz.ntmps206
  go_wp2_with fail
  go_loop [6] (fun i => ∃ k : Nat, k ≤ s.size ∧ i = .int .i64 k ∧ Hid (allDig ((sb s).take k) = true)) (fun i => s.size - (intOf i).toNat)
  case atStart => exact ⟨0, Nat.zero_le _, rfl, Lib.hid rfl⟩
  case round =>
    obtain ⟨k, hk, rfl, HK⟩ := hrel
    by_cases hlt : k < s.size
    · have HT := Lib.hid (sb_take s k hlt)
      by_cases h1 : (s[k].toNat : Int) < 48
      · go_wp2
        go_ret
        refine ⟨?_, rfl⟩
        have : allDig (sb s) = false := by
          rw [Bool.eq_false_iff]; intro ha
          have := (digL_iff _).1 (sb_mem hlt ha); omega
        unfold digL; rw [this]; rfl
      · by_cases h2 : (57 : Int) < (s[k].toNat : Int)
        · go_wp2
          go_ret
          refine ⟨?_, rfl⟩
          have : allDig (sb s) = false := by
            rw [Bool.eq_false_iff]; intro ha
            have := (digL_iff _).1 (sb_mem hlt ha); omega
          unfold digL; rw [this]; rfl
        · have HD := Lib.hid ((digL_iff s[k]).2 ⟨by omega, by omega⟩)
          go_wp2
          go_round
          case rel => exact ⟨k + 1, by omega, by go_num, Lib.hid (by rw [HT.out]; unfold allDig; rw [List.all_append]; have := HK.out; unfold allDig at this; rw [this]; simp [HD.out])⟩
          case measure => simp [intOf]; omega
    · have e : k = s.size := by omega
      subst e
      have HA := Lib.hid (show allDig (sb s) = true by have := HK.out; rw [sb_all] at this; exact this)
      by_cases he : sb s = []
      · have h1 : s.toList = [] := by rw [ByteArray.toList_eq]; exact he
        have h2 : (!s.toList.isEmpty) = false := by rw [h1]; rfl
        have HE := Lib.hid he
        clear he
        go_wp2
        go_ret
        exact ⟨by unfold digL; rw [HA.out, HE.out]; simp, rfl⟩
      · have h2 : (!s.toList.isEmpty) = true := by
          have : s.toList ≠ [] := by rw [ByteArray.toList_eq]; exact he
          cases hl : s.toList with
          | nil => exact absurd hl this
          | cons c r => rfl
        have HE := Lib.hid he
        clear he
        go_wp2
        go_ret
        exact ⟨by unfold digL; rw [HA.out]; cases hl : sb s with
          | nil => exact absurd hl HE.out
          | cons c r => simp, rfl⟩
theorem pvpeL_bad {l : List UInt8} (h : form l = false) : pv l = 0 ∧ pe l = 3 := by unfold pv pe; rw [h]; exact ⟨rfl, rfl⟩
theorem pvpeL_in {l : List UInt8} (h : form l = true) (k : InR (spelt l)) : pv l = spelt l ∧ pe l = 0 := by unfold pv pe; rw [if_pos h, if_pos h, if_pos k, if_pos k]; exact ⟨rfl, rfl⟩
theorem pvpeL_out {l : List UInt8} (h : form l = true) (k : ¬ InR (spelt l)) : pv l = 0 ∧ pe l = 9 := by unfold pv pe; rw [if_pos h, if_pos h, if_neg k, if_neg k]; exact ⟨rfl, rfl⟩
theorem ret_ppL {a b c d : Int} (h : a = b ∧ c = d) : Ending.returned (.tuple #[.int .i64 b, .int .i64 d]) = .returned (.tuple #[.int .i64 a, .int .i64 c]) := by rw [h.1, h.2]
theorem sb_mk (l : List UInt8) : sb ⟨l.toArray⟩ = l := by simp [sb]
theorem digL_trim (l : List UInt8) : digL (Lib.trimPrefix l [45]) = form l := by unfold digL form; rw [trim_body]
theorem trimL_len (l : List UInt8) : (Lib.trimPrefix l [45]).length ≤ l.length := by
  rw [trim_body]; unfold body; split
  · rw [List.length_tail]; omega
  · exact Nat.le_refl _
theorem mkL_size (l : List UInt8) : (⟨l.toArray⟩ : ByteArray).size = l.length := by simp [ByteArray.size]

theorem belowL_bytes {w w1 : World} (h : w1 = w ∨ ∃ t, w1 = Lib.bytesWorld w 5 t) : Below w.heap.size w w1 := by
  rcases h with rfl | ⟨t, rfl⟩
  · exact Below.refl _ _
  · exact Joins.below_bytesWorld _ _ _ _ (Nat.le_refl _)

set_option maxHeartbeats 1000000 in
theorem parseL_any (s : ByteArray) (w : World) (hs : s.size ≤ 16777216) (tp : TypeId) (p : Value) (hvar : w.var? Tryz.prog "strconv.ErrRange" = some #[.iface tp p]) :
    Calls Tryz.prog 198 #[.string s] w fun e w' => e = .returned (.tuple #[.int .i64 (pv (sb s)), .int .i64 (pe (sb s))]) ∧ Below w.heap.size w w' := by
  have HV := Lib.hid hvar
  clear hvar
  go_enter Tryz.func198, Tryz.ntmps198
  go_wp2_with fail
  refine (Tryz.strings_TrimPrefix _ _ _).mono ?_
  rintro e w' ⟨rfl, rfl⟩
  go_wp2_with fail
  refine (digitsL_any _ _ (by rw [mkL_size]; have h1 := trimL_len s.data.toList; have h2 : s.data.toList.length = s.size := sb_len s; omega)).mono ?_
  rintro e w1 ⟨rfl, rfl⟩
  rw [sb_mk, digL_trim]
  cases hF : form (sb s) with
  | false =>
    have HP := Lib.hid (pvpeL_bad hF)
    clear hF
    go_wp2_with fail
    go_ret2
    exact ⟨ret_ppL HP.out, Below.refl _ _⟩
  | true =>
    have HF := Lib.hid hF
    clear hF
    go_wp2_with fail
    by_cases hr : -9223372036854775808 ≤ spelt (sb s) ∧ spelt (sb s) ≤ 9223372036854775807
    · have HR := Lib.hid hr
      refine (Tryz.strconv_ParseInt_10_at64_ok s (by omega) (spelt (sb s)) (by rw [parse64 HF.out, if_pos hr]) _).mono ?_
      rintro e w1 ⟨rfl, hw⟩
      have HW := Lib.hid (belowL_bytes hw)
      clear hw hr
      by_cases hi : InR (spelt (sb s))
      · have HP := Lib.hid (pvpeL_in HF.out hi)
        have HI := Lib.hid hi
        clear hi
        go_wp2_with (go_at_call 209; (with_reducible refine (of_in _ _ HI.out).mono ?_); rintro e w' ⟨rfl, rfl⟩)
        go_ret2
        exact ⟨ret_ppL HP.out, HW.out⟩
      · have HP := Lib.hid (pvpeL_out HF.out hi)
        have HI := Lib.hid hi
        clear hi
        go_wp2_with (go_at_call 209; (with_reducible refine (of_out _ _ HI.out).mono ?_); rintro e w' ⟨rfl, rfl⟩)
        go_ret2
        exact ⟨ret_ppL HP.out, HW.out⟩
    · have HP := Lib.hid (pvpeL_out HF.out (fun hi => hr (by unfold InR at hi; omega)))
      refine (Tryz.strconv_ParseInt_10_at64_range_var s (by omega) (by rw [parse64 HF.out, if_neg hr]) tp p _ HV.out).mono ?_
      rintro e w1 ⟨N, rfl, _, _, hb⟩
      clear hr
      go_wp2_with fail
      go_ret2
      exact ⟨ret_ppL HP.out, hb⟩

/-- what the walks read of the program's own variables -/
structure EnvL (w : World) : Prop where
  tab : Lib.TabIs Tryz.prog w "internal/strconv.uint64pow10" .u64 Lib.pow10Tab
  err : ∃ tp p, w.var? Tryz.prog "strconv.ErrRange" = some #[.iface tp p]
theorem varL_lt {w : World} {n : String} {g : Nat} {cs : Array Value} (hg : Tryz.prog.globalNamed n = some g) (h : w.var? Tryz.prog n = some cs) : g < w.heap.size := by
  rcases Nat.lt_or_ge g w.heap.size with hlt | hge
  · exact hlt
  · exfalso
    unfold World.var? at h
    rw [hg] at h
    simp [Array.getElem?_eq_none hge] at h
theorem gPowL : Tryz.prog.globalNamed "internal/strconv.uint64pow10" = some 3 := by kernel_rfl
theorem gErrL : Tryz.prog.globalNamed "strconv.ErrRange" = some 7 := by kernel_rfl
theorem tabL_below {w w' : World} (h : Lib.TabIs Tryz.prog w "internal/strconv.uint64pow10" .u64 Lib.pow10Tab) (hb : Below w.heap.size w w') : Lib.TabIs Tryz.prog w' "internal/strconv.uint64pow10" .u64 Lib.pow10Tab :=
  var?_below hb gPowL (varL_lt gPowL h) h
theorem EnvL.below {w w' : World} (h : EnvL w) (hb : Below w.heap.size w w') : EnvL w' :=
  ⟨tabL_below h.tab hb, by obtain ⟨tp, p, hv⟩ := h.err; exact ⟨tp, p, var?_below hb gErrL (varL_lt gErrL hv) hv⟩⟩
theorem parseL_env (s : ByteArray) (w : World) (hs : s.size ≤ 16777216) (h : EnvL w) :
    Calls Tryz.prog 198 #[.string s] w fun e w' => e = .returned (.tuple #[.int .i64 (pv (sb s)), .int .i64 (pe (sb s))]) ∧ Below w.heap.size w w' := by
  obtain ⟨tp, p, hv⟩ := h.err
  exact parseL_any s w hs tp p hv

end Go.Proofs.YtmdkneollidkfaaGreatDoor.Fl
