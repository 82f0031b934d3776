/-
  The document's numbers as text.
-/
import Derived.Test.YtghnpmhidcfghaaDoorCeH
import Derived.Laws.BytesArg
namespace Go.Proofs.YtghnpmhidcfghaaDoor.Fl
open Go.RowKit

theorem ret_u64C {a b : Int} (h : a = b) : Ending.returned (.int .u64 a) = .returned (.int .u64 b) := by rw [h]
theorem amountC (x : Int) (w : World) (h0 : -1000000 ≤ x) (h1 : x ≤ 1000000) :
    Calls Tryd.prog 36 #[.int .i64 x] w fun e w' => e = .returned (.int .u64 (x.natAbs : Int)) ∧ w = w' := by
  by_cases h : x < 0
  · go_enter Tryd.func36, Tryd.ntmps36
    go_wp2
    go_ret
    exact ⟨ret_u64C (by first | omega | (rw [IntKind.wrap_u64, IntKind.wrap_u64]; omega) | (rw [IntKind.wrap_u64]; omega)), rfl⟩
  · have hp : 0 ≤ x := by omega
    clear h
    go_enter Tryd.func36, Tryd.ntmps36
    go_wp2
    go_ret
    exact ⟨ret_u64C (by first | omega | (rw [IntKind.wrap_u64, IntKind.wrap_u64]; omega) | (rw [IntKind.wrap_u64]; omega)), rfl⟩
theorem one_byteC (w : World) (u : Nat) (_hu : u < 10) (z : Int) (hz : z = 48 + (u : Int)) :
    (convert 29 9 (.slice (some ⟨w.heap.size, 0, none⟩) 1 1)).run Tryd.prog (w.alloc (.cells #[.int .u8 z] 5)) = .ok (.string ⟨#[UInt8.ofNat (48 + u)]⟩) (w.alloc (.cells #[.int .u8 z] 5)) := by
  have h := run_convert_bytes_arg (P := Tryd.prog) (w.alloc (.cells #[.int .u8 z] 5)) 29 5 Tryd.underlying29 Tryd.underlying5 w.heap.size 0 1 1 [z] rfl
    (fun i hi => by obtain rfl : i = 0 := by omega
                    exact cell_of_row _ _ _ _ _ _ (heap_alloc_new w _)) 9 Tryd.underlying9
  rw [h]
  subst hz
  rfl
theorem app_oneC (a : UInt8) (l : List UInt8) : (⟨#[a]⟩ ++ ⟨l.toArray⟩ : ByteArray) = ⟨(a :: l).toArray⟩ := by
  apply ByteArray.ext; simp [ByteArray.data_append]
theorem str_oneC {a b : UInt8} {l : List UInt8} (h : a = b) : Value.string (⟨#[a]⟩ ++ ⟨l.toArray⟩) = .string ⟨(b :: l).toArray⟩ := by rw [h, app_oneC]
theorem chrC (u : Nat) : 48 + UInt8.ofNat u = UInt8.ofNat (48 + u) := by simp
theorem dec_bigC {u : Nat} (h : 10 ≤ u) : Lib.decDigits u = Lib.decDigits (u / 10) ++ [UInt8.ofNat (48 + u % 10)] := by rw [Lib.decDigits, dif_neg (by omega)]
theorem dec_smallC {u : Nat} (h : u < 10) : Lib.decDigits u = [UInt8.ofNat (48 + u)] := by rw [Lib.decDigits, dif_pos h]
set_option maxRecDepth 100000 in
set_option maxHeartbeats 1000000 in
theorem rtextC (n : Int) (w : World) (h0 : -1000000 ≤ n) (h1 : n ≤ 1000000) :
    Calls Tryd.prog 27 #[.int .i64 n] w fun e w' => e = .returned (.string ⟨(Lib.itoa n).toArray⟩) ∧ Below w.heap.size w w' := by
  have HL := Lib.hid (show (Lib.decDigits n.natAbs).length ≤ 21 by
    have h := Lib.itoa_length_le n (by omega) (by omega)
    unfold Lib.itoa at h
    split at h
    · rw [List.length_cons] at h; omega
    · rwa [show n.toNat = n.natAbs by omega] at h)
  go_enter Tryd.func27, Tryd.ntmps27
  go_wp2_with (go_at_call 36; (with_reducible refine (amountC _ _ (by omega) (by omega)).mono ?_); rintro e w' ⟨rfl, rfl⟩)
  go_loopw [3, 4] (fun a b wr => ∃ (u : Nat) (l : List UInt8), a = .int .u64 u ∧ b = .string ⟨l.toArray⟩ ∧ u ≤ 9223372036854775808 ∧ Hid (Lib.decDigits n.natAbs = Lib.decDigits u ++ l) ∧ Below w.heap.size w wr) (fun a _ _ => (intOf a).toNat)
  case atStart => exact ⟨n.natAbs, [], rfl, rfl, by omega, Lib.hid (by simp), Below.refl _ _⟩
  case round =>
    obtain ⟨u, l, rfl, rfl, hu, HD, hb⟩ := hrel
    have hl : l.length ≤ 21 := by have a := HL.out; rw [HD.out, List.length_append] at a; omega
    by_cases hlt : 10 ≤ u
    · have hcv := one_byteC wr (u % 10) (by omega) (48 + (u : Int) % 10) (by omega)
      go_wp2
      refine ⟨⟨u / 10, UInt8.ofNat (48 + u % 10) :: l, by go_num, str_oneC (chrC _), by omega, Lib.hid (by rw [HD.out, dec_bigC hlt, List.append_assoc]; rfl), hb.alloc hb.size _⟩, by simp [intOf]; omega⟩
    · have hcv := one_byteC wr u (by omega) (48 + (u : Int)) rfl
      have HE := Lib.hid (show Lib.decDigits n.natAbs = UInt8.ofNat (48 + u) :: l by rw [HD.out, dec_smallC (by omega)]; rfl)
      by_cases hn : n < 0
      · go_wp2
        go_ret
        refine ⟨?_, hb.alloc hb.size _⟩
        have e : Lib.itoa n = 45 :: UInt8.ofNat (48 + u) :: l := by unfold Lib.itoa; rw [if_pos hn, HE.out]
        rw [e, ← app_oneC, ← app_oneC]
        first | rfl | (rw [← chrC]; rfl)
      · go_wp2
        go_ret
        refine ⟨?_, hb.alloc hb.size _⟩
        have e : Lib.itoa n = UInt8.ofNat (48 + u) :: l := by unfold Lib.itoa; rw [if_neg (by omega), show n.toNat = n.natAbs by omega, HE.out]
        rw [e, ← app_oneC]
        first | rfl | (rw [← chrC]; rfl)
end Go.Proofs.YtghnpmhidcfghaaDoor.Fl

