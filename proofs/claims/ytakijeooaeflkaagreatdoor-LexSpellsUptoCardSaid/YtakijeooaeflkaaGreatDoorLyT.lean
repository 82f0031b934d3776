/-
  The document's number as text.
-/
import Derived.Test.YtakijeooaeflkaaGreatDoorLxN
namespace Go.Proofs.YtakijeooaeflkaaGreatDoor.Fl
open Go.RowKit

theorem amount_close1L {x : Int} (h0 : -9223372036854775808 ≤ x) (h : x < 0) : IntKind.u64.wrap (-(IntKind.u64.wrap x)) = (x.natAbs : Int) := by
  rw [IntKind.wrap_u64, IntKind.wrap_u64]; omega
theorem amount_close2L {x : Int} (h0 : x ≤ 9223372036854775807) (h : 0 ≤ x) : IntKind.u64.wrap x = (x.natAbs : Int) := by
  rw [IntKind.wrap_u64]; omega
set_option maxHeartbeats 400000 in
theorem amount_anyL (x : Int) (w : World) (h0 : -9223372036854775808 ≤ x) (h1 : x ≤ 9223372036854775807) :
    Calls Tryz.prog 57 #[.int .i64 x] w fun e w' => e = .returned (.int .u64 (x.natAbs : Int)) ∧ w = w' := by
  by_cases h : x < 0
  · go_enter Tryz.func57, Tryz.ntmps57
    go_wp2
    go_ret
    exact ⟨ret_u64 (by first | exact amount_close1L h0 h | (rw [IntKind.wrap_u64]; omega) | omega), rfl⟩
  · have hp : 0 ≤ x := by omega
    clear h
    go_enter Tryz.func57, Tryz.ntmps57
    go_wp2
    go_ret
    exact ⟨ret_u64 (by first | exact amount_close2L h1 hp | omega), rfl⟩

/-! ### the product by adding -/
theorem one_byteL (w : World) (u : Nat) (_hu : u < 10) (z : Int) (hz : z = 48 + (u : Int)) :
    (convert 92 9 (.slice (some ⟨w.heap.size, 0, none⟩) 1 1)).run Tryz.prog (w.alloc (.cells #[.int .u8 z] 5)) = .ok (.string ⟨#[UInt8.ofNat (48 + u)]⟩) (w.alloc (.cells #[.int .u8 z] 5)) := by
  have h := run_convert_bytes_arg (P := Tryz.prog) (w.alloc (.cells #[.int .u8 z] 5)) 92 5 Tryz.underlying92 Tryz.underlying5 w.heap.size 0 1 1 [z] rfl
    (fun i hi => by obtain rfl : i = 0 := by omega
                    exact cell_of_row _ _ _ _ _ _ (heap_alloc_new w _)) 9 Tryz.underlying9
  rw [h]
  subst hz
  rfl

theorem app_oneL (a : UInt8) (l : List UInt8) : (⟨#[a]⟩ ++ ⟨l.toArray⟩ : ByteArray) = ⟨(a :: l).toArray⟩ := by
  apply ByteArray.ext; simp [ByteArray.data_append]
theorem str_oneL {a b : UInt8} {l : List UInt8} (h : a = b) : Value.string (⟨#[a]⟩ ++ ⟨l.toArray⟩) = .string ⟨(b :: l).toArray⟩ := by rw [h, app_oneL]
theorem chrL (u : Nat) : 48 + UInt8.ofNat u = UInt8.ofNat (48 + u) := by simp
theorem dec_lenL {n : Int} (h0 : -9223372036854775808 ≤ n) (h1 : n ≤ 9223372036854775807) : (Lib.decDigits n.natAbs).length ≤ 20 := by
  have h := itoa_len n h0 h1
  rw [← (itoa_parts n).1]
  unfold body; split
  · rw [List.length_tail]; omega
  · exact h
theorem dec_bigL {u : Nat} (h : 10 ≤ u) : Lib.decDigits u = Lib.decDigits (u / 10) ++ [UInt8.ofNat (48 + u % 10)] := by rw [Lib.decDigits, dif_neg (by omega)]
theorem dec_smallL {u : Nat} (h : u < 10) : Lib.decDigits u = [UInt8.ofNat (48 + u)] := by rw [Lib.decDigits, dif_pos h]

set_option maxRecDepth 100000 in
set_option maxHeartbeats 1000000 in
theorem rtext_anyL (n : Int) (w : World) (h0 : -9223372036854775808 ≤ n) (h1 : n ≤ 9223372036854775807) :
    Calls Tryz.prog 27 #[.int .i64 n] w fun e w' => e = .returned (.string ⟨(Lib.itoa n).toArray⟩) ∧ Below w.heap.size w w' := by
  have HL := Lib.hid (dec_lenL h0 h1)
  go_enter Tryz.func27, Tryz.ntmps27
  go_wp2_with (go_at_call 57; (with_reducible refine (amount_anyL _ _ (by omega) (by omega)).mono ?_); rintro e w' ⟨rfl, rfl⟩)
  go_loopw [3, 4] (fun a b wr => ∃ (u : Nat) (l : List UInt8), a = .int .u64 u ∧ b = .string ⟨l.toArray⟩ ∧ u ≤ 9223372036854775808 ∧ Hid (Lib.decDigits n.natAbs = Lib.decDigits u ++ l) ∧ Below w.heap.size w wr) (fun a _ _ => (intOf a).toNat)
  case atStart => exact ⟨n.natAbs, [], rfl, rfl, by omega, Lib.hid (by simp), Below.refl _ _⟩
  case round =>
    obtain ⟨u, l, rfl, rfl, hu, HD, hb⟩ := hrel
    have hl : l.length ≤ 20 := by have a := HL.out; rw [HD.out, List.length_append] at a; omega
    by_cases hlt : 10 ≤ u
    · have hcv := one_byteL wr (u % 10) (by omega) (48 + (u : Int) % 10) (by omega)
      go_wp2
      refine ⟨⟨u / 10, UInt8.ofNat (48 + u % 10) :: l, by go_num, str_oneL (chrL _), by omega, Lib.hid (by rw [HD.out, dec_bigL hlt, List.append_assoc]; rfl), hb.alloc hb.size _⟩, by simp [intOf]; omega⟩
    · have hcv := one_byteL wr u (by omega) (48 + (u : Int)) rfl
      have HE := Lib.hid (show Lib.decDigits n.natAbs = UInt8.ofNat (48 + u) :: l by rw [HD.out, dec_smallL (by omega)]; rfl)
      by_cases hn : n < 0
      · go_wp2
        go_ret
        refine ⟨?_, hb.alloc hb.size _⟩
        have e : Lib.itoa n = 45 :: UInt8.ofNat (48 + u) :: l := by unfold Lib.itoa; rw [if_pos hn, HE.out]
        rw [e, ← app_oneL, ← app_oneL]
        first | rfl | (rw [← chrL]; rfl)
      · go_wp2
        go_ret
        refine ⟨?_, hb.alloc hb.size _⟩
        have e : Lib.itoa n = UInt8.ofNat (48 + u) :: l := by unfold Lib.itoa; rw [if_neg (by omega), show n.toNat = n.natAbs by omega, HE.out]
        rw [e, ← app_oneL]
        first | rfl | (rw [← chrL]; rfl)
end Go.Proofs.YtakijeooaeflkaaGreatDoor.Fl
