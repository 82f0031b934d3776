/-
  Contracts of the document's own answers for layer 1, the calls without a loop; small.Text; the fixed fact.
-/
import Derived.Test.YtmlfooofgedmaaaDoorSmallB
import Derived.Test.YtmlfooofgedmaaaDoorShelf
import Derived.Lib.AppendIntMem
namespace Go.Proofs.YtmlfooofgedmaaaDoor.Fl
open Go.RowKit

theorem odd_or (x : Int) : x % 2 = 0 ∨ x % 2 = 1 := by omega
theorem wrapu_id {n : Int} (h0 : 0 ≤ n) (h1 : n ≤ 18446744073709551615) : IntKind.u64.wrap n = n := by rw [IntKind.wrap_u64]; omega
set_option maxHeartbeats 400000 in
theorem rnumber_yes (n : Int) (w : World) (h : InR n) :
    Calls Tryd.prog 55 #[.int .i64 n] w fun e w' => e = .returned (.bool true) ∧ w = w' := by
  have h0 := h.1
  have h1 := h.2
  clear h
  go_enter Tryd.func55, Tryd.ntmps55
  go_wp2
  go_ret
  exact ⟨rfl, rfl⟩
set_option maxHeartbeats 400000 in
theorem rnumber_no (n : Int) (w : World) (h : ¬ InR n) :
    Calls Tryd.prog 55 #[.int .i64 n] w fun e w' => e = .returned (.bool false) ∧ w = w' := by
  by_cases h0 : n < -4611686018427387904
  · clear h
    go_enter Tryd.func55, Tryd.ntmps55
    go_wp2
    go_ret
    exact ⟨by first | rfl | (simp; omega), rfl⟩
  · have h1 : 4611686018427387903 < n := by unfold InR at h; omega
    clear h
    go_enter Tryd.func55, Tryd.ntmps55
    go_wp2
    go_ret
    exact ⟨by first | rfl | (simp; omega), rfl⟩
theorem rnumber_any (n : Int) (w : World) :
    Calls Tryd.prog 55 #[.int .i64 n] w fun e w' => e = .returned (.bool (decide (InR n))) ∧ w = w' := by
  by_cases h : InR n
  · rw [decide_eq_true h]; exact rnumber_yes n w h
  · rw [decide_eq_false h]; exact rnumber_no n w h
theorem word_close (n : Int) : IntKind.u64.wrap (IntKind.u64.wrap (IntKind.u64.wrap n * 2) + 1) = wd n := by
  rw [IntKind.wrap_u64, IntKind.wrap_u64, IntKind.wrap_u64]; unfold wd; omega
set_option maxHeartbeats 400000 in
theorem rvalue_any (a : Int) (w : World) (h : IsW a) :
    Calls Tryd.prog 33 #[.int .u64 a] w fun e w' => e = .returned (.int .i64 (val a)) ∧ w = w' := by
  have h0 := h.1
  have h1 := h.2
  have H := Lib.hid h
  clear h
  by_cases hc : 4611686018427387904 ≤ a / 2
  · go_enter Tryd.func33, Tryd.ntmps33
    go_wp2
    go_ret
    exact ⟨ret_i64 (by have h := H.out; unfold IsW at h; unfold val; rw [if_neg (by omega)]; omega), rfl⟩
  · go_enter Tryd.func33, Tryd.ntmps33
    go_wp2
    go_ret
    exact ⟨ret_i64 (by unfold val; rw [if_pos (by omega)]), rfl⟩
/-! ### small.Text, the fixed fact -/
theorem text_any (n : Int) (w : World) (h0 : -9223372036854775808 ≤ n) (h1 : n ≤ 9223372036854775807) (htab : Lib.TabIs Tryd.prog w "internal/strconv.uint64pow10" .u64 Lib.pow10Tab) :
    Calls Tryd.prog 29 #[.int .i64 n] w fun e w' => e = .returned (.string ⟨(Lib.itoa n).toArray⟩) ∧ Below w.heap.size w w' := by
  go_enter Tryd.func29, Tryd.ntmps29
  go_wp2_with (go_at_call 48; refine (Tryd.strconv_FormatInt_10 _ h0 h1 _ htab).mono ?_; rintro e w' ⟨rfl, k, os, rfl⟩)
  go_ret
  exact ⟨rfl, Lib.below_grow _ _ (Nat.le_refl _) _ _⟩
theorem itoa_m7 : Lib.itoa (-7) = [45, 55] := by decide +kernel
theorem inR5 : InR 5 := by unfold InR; omega
theorem isW11 : IsW 11 := by unfold IsW; omega
theorem isW12 : IsW 12 := by unfold IsW; omega
theorem wd5 : wd 5 = 11 := by unfold wd; omega
theorem m7lo : (-9223372036854775808 : Int) ≤ -7 := by omega
theorem m7hi : (-7 : Int) ≤ 9223372036854775807 := by omega
theorem odd11 : (11 : Int) % 2 = 1 := by omega
theorem even12 : (12 : Int) % 2 = 0 := by omega
end Go.Proofs.YtmlfooofgedmaaaDoor.Fl
