/-
  Contracts of the checksum: the document's Crc, Sum.Add, Sum.Value, Crc.
-/
import Derived.Test.YthklbpcpmmpfmaaDoorProg
import Derived.Test.YthklbpcpmmpfmaaDoorMem
import Derived.Test.YthklbpcpmmpfmaaDoorMathC
import Derived.WalkSpells
import Derived.WalkLawsBesides
import Derived.Deep.QuietTactic
import Derived.BigQuiet
import Derived.Lib.Hide
namespace Go.Proofs.YthklbpcpmmpfmaaDoor.Fl
open Go.RowKit
attribute [local irreducible] crcBit crcBits crcByte crcAll compl upd

theorem take_snoc8 (xs : List UInt8) (k : Nat) (h : k < xs.length) : xs.take (k + 1) = xs.take k ++ [xs[k]] := List.take_succ_eq_append_getElem h
theorem crc_take (s : Nat) (xs : List UInt8) (k : Nat) (h : k < xs.length) : crcAll s (xs.take (k + 1)) = crcByte (crcAll s (xs.take k)) xs[k] := by rw [take_snoc8 xs k h, crcAll_snoc]
theorem byte_w {s : Nat} {c : UInt8} (h : s < 4294967296) : bits .xor .u32 (s : Int) (c.toNat : Int) = ((s ^^^ c.toNat : Nat) : Int) := u32_xor_nat _ _ h (by have := UInt8.toNat_lt c; omega)
theorem crcByte_eq (s : Nat) (c : UInt8) : crcByte s c = crcBits 8 (s ^^^ c.toNat) := by unfold crcByte; rfl

theorem bit_yes {t : Nat} (ht : t < 4294967296) (h : t % 2 = 1) : bits .xor .u32 ((t : Int) / 2) 3988292384 = (crcBit t : Nat) := by
  rw [show ((t : Int) / 2) = ((t / 2 : Nat) : Int) by omega, show (3988292384 : Int) = ((3988292384 : Nat) : Int) from rfl, u32_xor_nat _ _ (by omega) (by omega)]
  unfold crcBit; rw [if_pos h]
theorem bit_no {t : Nat} (h : ¬ t % 2 = 1) : ((t : Int) / 2) = (crcBit t : Nat) := by
  unfold crcBit; rw [if_neg h, Nat.xor_zero]; omega
theorem crcBits_succ (k s : Nat) : crcBits (k + 1) s = crcBits k (crcBit s) := by rw [crcBits]
theorem compl_zero : compl 0 = 4294967295 := by unfold compl; rfl
theorem crcBits_left {j t : Nat} (h : j < 8) : crcBits (8 - j) t = crcBits (8 - (j + 1)) (crcBit t) := by
  rw [show 8 - j = (8 - (j + 1)) + 1 by omega, crcBits_succ]
theorem and_one32 {t : Nat} (ht : t < 4294967296) (h : t % 2 = 1) : bits .and .u32 (t : Int) 1 = 1 := by
  rw [show (1 : Int) = ((1 : Nat) : Int) from rfl, u32_and_nat _ _ ht (by omega), nat_mask1, h]
theorem and_zero32 {t : Nat} (ht : t < 4294967296) (h : ¬ t % 2 = 1) : bits .and .u32 (t : Int) 1 = 0 := by
  rw [show (1 : Int) = ((1 : Nat) : Int) from rfl, u32_and_nat _ _ ht (by omega), nat_mask1, show t % 2 = 0 by omega]; rfl
theorem mask_yes : bits .and .u32 3988292384 4294967295 = 3988292384 := by decide
theorem mask_no : bits .and .u32 3988292384 0 = 0 := by decide
theorem bit_no' {t : Nat} (ht : t < 4294967296) (h : ¬ t % 2 = 1) : bits .xor .u32 ((t : Int) / 2) 0 = (crcBit t : Nat) := by
  rw [show ((t : Int) / 2) = ((t / 2 : Nat) : Int) by omega, show (0 : Int) = ((0 : Nat) : Int) from rfl, u32_xor_nat _ _ (by omega) (by omega)]
  unfold crcBit; rw [if_neg h]
theorem val_u32 {a b : Int} (h : a = b) : Value.int .u32 a = .int .u32 b := by rw [h]
theorem ret_u32 {a b : Int} (h : a = b) : Ending.returned (.int .u32 a) = .returned (.int .u32 b) := by rw [h]

set_option maxHeartbeats 2000000 in
theorem sum_add (xs : List UInt8) (c B g v : Nat) (A : Option Addr) (w : World) (hr : Rd w B A (cb xs)) (hn : xs.length ≤ 4096) (hv : v < 4294967296) (hc : w.cell? ⟨g, 0, none⟩ = some (.int .u32 (v : Int))) (hf : w.frozen? ⟨g, 0, none⟩ = false) :
    Calls Tryd.prog 84 #[.pointer (some ⟨g, 0, none⟩), .slice A xs.length c] w fun e w' => e = .returned (.tuple #[]) ∧ w.setCell ⟨g, 0, none⟩ (.int .u32 (upd v xs : Nat)) = w' := by
  have hcw := compl_w hv
  go_enter Tryd.func84, Tryd.ntmps84
  go_wp2_with fail
  go_loop [4, 14] (fun a i => ∃ k s : Nat, k ≤ xs.length ∧ i = .int .i64 k ∧ a = .int .u32 s ∧ s < 4294967296 ∧ Hid (s = crcAll (compl v) (xs.take k))) (fun _ i => xs.length - (intOf i).toNat)
  case atStart => exact ⟨0, compl v, Nat.zero_le _, rfl, rfl, compl_lt v, Lib.hid (by unfold crcAll; rfl)⟩
  case round =>
    obtain ⟨k, s, hk, rfl, rfl, hs, HS⟩ := hrel
    by_cases hlt : k < xs.length
    · obtain ⟨b, off, rfl, _, hcb⟩ := rdb_at hr hlt
      have HT := Lib.hid (crc_take (compl v) xs k hlt)
      have hbw := byte_w (c := xs[k]) hs
      have HB := Lib.hid (byte_xor_lt (c := xs[k]) hs)
      have hby : (xs[k].toNat : Int) ≤ 255 := by have := UInt8.toNat_lt xs[k]; omega
      have HE := Lib.hid (crcByte_eq s xs[k])
      go_wp2_with fail
      go_loop [4, 24] (fun a i => ∃ j t : Nat, j ≤ 8 ∧ i = .int .i64 j ∧ a = .int .u32 t ∧ t < 4294967296 ∧ Hid (crcBits (8 - j) t = crcByte s xs[k])) (fun _ i => 8 - (intOf i).toNat)
      case atStart => exact ⟨0, _, Nat.zero_le _, rfl, rfl, HB.out, Lib.hid HE.out.symm⟩
      case round =>
        obtain ⟨j, t, hj, rfl, rfl, ht, HJ⟩ := hrel
        by_cases hj8 : j < 8
        · have HC := Lib.hid (crcBits_left (t := t) hj8)
          have HLt := Lib.hid (crcBit_lt ht)
          by_cases hb : t % 2 = 1
          · have e1 := and_one32 ht hb
            have e2 := mask_yes
            have e3 := bit_yes ht hb
            clear hb
            go_wp2
            refine ⟨⟨j + 1, crcBit t, by omega, by go_num, by first | rfl | (trace_state; fail), HLt.out, Lib.hid (by rw [← HC.out]; exact HJ.out)⟩, by simp [intOf]; omega⟩
          · have e1 := and_zero32 ht hb
            have e2 := mask_no
            have e3 := bit_no' ht hb
            clear hb
            go_wp2
            refine ⟨⟨j + 1, crcBit t, by omega, by go_num, by first | rfl | (trace_state; fail), HLt.out, Lib.hid (by rw [← HC.out]; exact HJ.out)⟩, by simp [intOf]; omega⟩
        · obtain rfl : j = 8 := by omega
          go_wp2
          refine ⟨⟨k + 1, t, by omega, by go_num, rfl, ht, Lib.hid ?_⟩, by simp [intOf]; omega⟩
          have := HJ.out
          rw [HT.out, ← HS.out, ← this]
          unfold crcBits; rfl
    · have e : k = xs.length := by omega
      subst e
      have HW := Lib.hid (compl_w hs)
      go_wp2
      go_end0
      refine ⟨rfl, ?_⟩
      rw [HW.out, HS.out, List.take_length]
      unfold upd; rfl

theorem sum_value (g v : Nat) (w : World) (hc : w.cell? ⟨g, 0, none⟩ = some (.int .u32 (v : Int))) :
    Calls Tryd.prog 85 #[.pointer (some ⟨g, 0, none⟩)] w fun e w' => e = .returned (.int .u32 (v : Int)) ∧ w = w' := by
  go_enter Tryd.func85, Tryd.ntmps85
  go_wp2
  go_ret
  exact ⟨rfl, rfl⟩
theorem crc_any (xs : List UInt8) (c : Nat) (A : Option Addr) (w : World) (hr : Rd w w.heap.size A (cb xs)) (hn : xs.length ≤ 4096) :
    Calls Tryd.prog 45 #[.slice A xs.length c] w fun e w' => e = .returned (.int .u32 (upd 0 xs : Nat)) ∧ Below w.heap.size w w' := by
  go_enter Tryd.func45, Tryd.ntmps45
  go_wp2_with fail
  refine (sum_add xs c w.heap.size w.heap.size 0 A _ (hr.below ((Below.refl _ _).alloc (Nat.le_refl _) _) (Nat.le_refl _)) hn (by omega) (cell_of_row _ _ _ _ _ _ (heap_alloc_new w _)) (by simp)).mono ?_
  rintro e w' ⟨rfl, rfl⟩
  go_wp2_with fail
  refine (sum_value w.heap.size (upd 0 xs) _ (by simp)).mono ?_
  rintro e w' ⟨rfl, rfl⟩
  go_wp2_with fail
  go_ret
  exact ⟨rfl, (Below.refl _ _).alloc (Nat.le_refl _) _⟩
end Go.Proofs.YthklbpcpmmpfmaaDoor.Fl
