/-
  Contracts: small.Parse, at texts of at most 100 bytes; the document's own Text.
-/
import Derived.Test.YtmlfooofgedmaaaDoorTextB
import Derived.Shelf.Strconv.ParseIntPublic10
import Derived.Lib.SmallJoins
import Derived.Laws.BytesArg
namespace Go.Proofs.YtmlfooofgedmaaaDoor.Fl
open Go.RowKit

theorem bs_mk (l : List UInt8) : bs ⟨l.toArray⟩ = l := by simp [bs]
theorem digB_trim (l : List UInt8) : digB (Lib.trimPrefix l [45]) = form l := by unfold digB form; rw [trim_body]
theorem trim_len (l : List UInt8) : (Lib.trimPrefix l [45]).length ≤ l.length := by
  rw [trim_body]; unfold body; split
  · rw [List.length_tail]; omega
  · exact Nat.le_refl _
theorem mk_size (l : List UInt8) : (⟨l.toArray⟩ : ByteArray).size = l.length := by simp [ByteArray.size]

theorem below_bytes {w w1 : World} (h : w1 = w ∨ ∃ t, w1 = Lib.bytesWorld w 5 t) : Below w.heap.size w w1 := by
  rcases h with rfl | ⟨t, rfl⟩
  · exact Below.refl _ _
  · exact Joins.below_bytesWorld _ _ _ _ (Nat.le_refl _)

set_option maxHeartbeats 1000000 in
theorem parse_any (s : ByteArray) (w : World) (hs : s.size ≤ 100) (tp : TypeId) (p : Value) (hvar : w.var? Tryd.prog "strconv.ErrRange" = some #[.iface tp p]) :
    Calls Tryd.prog 28 #[.string s] w fun e w' => e = .returned (.tuple #[.int .i64 (pv (bs s)), .int .i64 (pe (bs s))]) ∧ Below w.heap.size w w' := by
  have HV := Lib.hid hvar
  clear hvar
  go_enter Tryd.func28, Tryd.ntmps28
  go_wp2_with fail
  refine (Tryd.strings_TrimPrefix _ _ _).mono ?_
  rintro e w' ⟨rfl, rfl⟩
  go_wp2_with fail
  refine (digits_any _ _ (by rw [mk_size]; have h1 := trim_len s.data.toList; have h2 : s.data.toList.length = s.size := bs_len s; omega)).mono ?_
  rintro e w1 ⟨rfl, rfl⟩
  rw [bs_mk, digB_trim]
  cases hF : form (bs s) with
  | false =>
    have HP := Lib.hid (pvpe_bad hF)
    clear hF
    go_wp2_with fail
    go_ret2
    exact ⟨ret_pp HP.out, Below.refl _ _⟩
  | true =>
    have HF := Lib.hid hF
    clear hF
    go_wp2_with fail
    by_cases hr : -9223372036854775808 ≤ spelt (bs s) ∧ spelt (bs s) ≤ 9223372036854775807
    · have HR := Lib.hid hr
      refine (Tryd.strconv_ParseInt_10_at64_ok s (by omega) (spelt (bs s)) (by rw [parse64 HF.out, if_pos hr]) _).mono ?_
      rintro e w1 ⟨rfl, hw⟩
      have HW := Lib.hid (below_bytes hw)
      clear hw hr
      by_cases hi : InR (spelt (bs s))
      · have HP := Lib.hid (pvpe_in HF.out hi)
        have HI := Lib.hid hi
        clear hi
        go_wp2_with (go_at_call 27; (with_reducible refine (of_in _ _ HI.out).mono ?_); rintro e w' ⟨rfl, rfl⟩)
        go_ret2
        exact ⟨ret_pp HP.out, HW.out⟩
      · have HP := Lib.hid (pvpe_out HF.out hi)
        have HI := Lib.hid hi
        clear hi
        go_wp2_with (go_at_call 27; (with_reducible refine (of_out _ _ HI.out).mono ?_); rintro e w' ⟨rfl, rfl⟩)
        go_ret2
        exact ⟨ret_pp HP.out, HW.out⟩
    · have HP := Lib.hid (pvpe_out HF.out (fun hi => hr (by unfold InR at hi; omega)))
      refine (Tryd.strconv_ParseInt_10_at64_range_var s (by omega) (by rw [parse64 HF.out, if_neg hr]) tp p _ HV.out).mono ?_
      rintro e w1 ⟨N, rfl, _, _, hb⟩
      clear hr
      go_wp2_with fail
      go_ret2
      exact ⟨ret_pp HP.out, hb⟩

theorem one_byte (w : World) (u : Nat) (_hu : u < 10) (z : Int) (hz : z = 48 + (u : Int)) :
    (convert 22 9 (.slice (some ⟨w.heap.size, 0, none⟩) 1 1)).run Tryd.prog (w.alloc (.cells #[.int .u8 z] 5)) = .ok (.string ⟨#[UInt8.ofNat (48 + u)]⟩) (w.alloc (.cells #[.int .u8 z] 5)) := by
  have h := run_convert_bytes_arg (P := Tryd.prog) (w.alloc (.cells #[.int .u8 z] 5)) 22 5 Tryd.underlying22 Tryd.underlying5 w.heap.size 0 1 1 [z] rfl
    (fun i hi => by obtain rfl : i = 0 := by omega
                    exact cell_of_row _ _ _ _ _ _ (heap_alloc_new w _)) 9 Tryd.underlying9
  rw [h]
  subst hz
  rfl

theorem app_one (a : UInt8) (l : List UInt8) : (⟨#[a]⟩ ++ ⟨l.toArray⟩ : ByteArray) = ⟨(a :: l).toArray⟩ := by
  apply ByteArray.ext; simp [ByteArray.data_append]
theorem str_one {a b : UInt8} {l : List UInt8} (h : a = b) : Value.string (⟨#[a]⟩ ++ ⟨l.toArray⟩) = .string ⟨(b :: l).toArray⟩ := by rw [h, app_one]
theorem chr (u : Nat) : 48 + UInt8.ofNat u = UInt8.ofNat (48 + u) := by simp
theorem dec_len {n : Int} (h0 : -9223372036854775808 ≤ n) (h1 : n ≤ 9223372036854775807) : (Lib.decDigits n.natAbs).length ≤ 20 := by
  have h := itoa_len n h0 h1
  rw [← (itoa_parts n).1]
  unfold body; split
  · rw [List.length_tail]; omega
  · exact h
theorem dec_big {u : Nat} (h : 10 ≤ u) : Lib.decDigits u = Lib.decDigits (u / 10) ++ [UInt8.ofNat (48 + u % 10)] := by rw [Lib.decDigits, dif_neg (by omega)]
theorem dec_small {u : Nat} (h : u < 10) : Lib.decDigits u = [UInt8.ofNat (48 + u)] := by rw [Lib.decDigits, dif_pos h]

end Go.Proofs.YtmlfooofgedmaaaDoor.Fl
