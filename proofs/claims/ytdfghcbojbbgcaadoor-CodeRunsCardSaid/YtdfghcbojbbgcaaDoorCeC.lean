/-
  Text of what is encoded.
-/
import Derived.Test.YtdfghcbojbbgcaaDoorCeB
namespace Go.Proofs.YtdfghcbojbbgcaaDoor.Fl
open Go.RowKit

theorem isI_bd {op a b : Int} (h : isI op a b = true) : (-32768 ≤ a ∧ a < 65536) ∧ (-32768 ≤ b ∧ b < 65536) := by
  obtain ⟨k, rfl, hk⟩ := isI_op h
  obtain ⟨nmx, sa, la, sb, t, u, hrow, ⟨hsa, hsb⟩, hla, _⟩ := formsL_get2 hk
  have hI : hasC sa la a = true ∧ hasC sb 0 b = true := by
    unfold isI at h
    rw [if_pos ⟨by omega, by omega⟩, Int.toNat_natCast, hrow] at h
    simpa using h
  unfold hasC at hI
  simp only [Bool.and_eq_true, decide_eq_true_eq] at hI
  obtain ⟨⟨a1, a2⟩, b1, b2⟩ := hI
  have pa : ((256 ^ sa : Nat) : Int) ≤ 65536 := by
    obtain rfl | rfl | rfl : sa = 0 ∨ sa = 1 ∨ sa = 2 := by omega
    all_goals decide
  have pb : ((256 ^ sb : Nat) : Int) ≤ 65536 := by
    obtain rfl | rfl | rfl : sb = 0 ∨ sb = 1 ∨ sb = 2 := by omega
    all_goals decide
  refine ⟨⟨?_, ?_⟩, ?_, ?_⟩ <;> omega
theorem line_le (q : Nat) (x : Ins) (hq : (q : Int) ≤ 9223372036854775807) (ha : -9223372036854775808 ≤ x.2.1 ∧ x.2.1 ≤ 9223372036854775807) (hb : -9223372036854775808 ≤ x.2.2 ∧ x.2.2 ≤ 9223372036854775807) : (lineR q x).length ≤ 200 := by
  have h0 := Lib.itoa_length_le (q : Int) (by omega) hq
  have h1 := Lib.itoa_length_le x.2.1 ha.1 ha.2
  have h2 := Lib.itoa_length_le x.2.2 hb.1 hb.2
  have hj : ∀ ws : List (List UInt8), ws.length ≤ 4 → (∀ w ∈ ws, w.length ≤ 21) → (Lib.join ws [32]).length ≤ 199 := by
    intro ws hl h
    cases ws with
    | nil => exact Nat.zero_le _
    | cons v ws =>
      rw [Lib.join_cons, List.length_append]
      have t1 := tail_le ws (fun u hu => h u (List.mem_cons_of_mem _ hu))
      have t2 := h v (List.mem_cons_self ..)
      rw [List.length_cons] at hl
      omega
  unfold lineR
  rw [List.length_append]
  have := hj (wordsR q x) (by
    unfold wordsR
    split
    · split <;> split <;> simp
    · simp) (fun w hw => by
    unfold wordsR at hw
    split at hw
    · next r hr =>
      rw [List.mem_append, List.mem_append] at hw
      rcases hw with (hw | hw) | hw
      · simp only [List.mem_cons, List.not_mem_nil, or_false] at hw
        rcases hw with rfl | rfl
        · exact h0
        · exact nm_len hr
      · split at hw
        · obtain rfl := List.mem_singleton.1 hw
          exact h1
        · cases hw
      · split at hw
        · obtain rfl := List.mem_singleton.1 hw
          exact h2
        · cases hw
    · cases hw)
  show _ + 1 ≤ 200
  omega
def textR : Nat → List Ins → List UInt8
  | _, [] => []
  | q, x :: l => lineR q x ++ textR (q + (enc1 x).length) l
theorem ends_text : ∀ (q : Nat) (l : List Ins), ends (textR q l) = l.length
  | _, [] => rfl
  | q, x :: l => by rw [textR, ends_app, ends_line, ends_text, List.length_cons]; omega
end Go.Proofs.YtdfghcbojbbgcaaDoor.Fl

