/-
  Contracts of the checksum: the document's Crc, Sum.Add, Sum.Value, Crc.
-/
import Derived.Test.YtlmelfakmllinaaProg
import Derived.Test.YtlmelfakmllinaaPMem
import Derived.Test.YtlmelfakmllinaaPMath
import Derived.WalkSpells
import Derived.WalkLawsBesides
import Derived.Deep.QuietTactic
import Derived.BigQuiet
import Derived.Lib.Hide
import Derived.Deep.OwnRows
import Derived.Lib.TrailingZeros
import Derived.Laws.Bits64b
import Derived.Deep.DeepCutAuto
import Derived.LoopTactic
namespace Go.Proofs.Ytlmelfakmllinaa.Fl
open Go.RowKit
attribute [local irreducible] crcBit crcBits crcByte crcAll compl upd

theorem take_snoc8 (xs : List UInt8) (k : Nat) (h : k < xs.length) : xs.take (k + 1) = xs.take k ++ [xs[k]] := List.take_succ_eq_append_getElem h
theorem crc_take (s : Nat) (xs : List UInt8) (k : Nat) (h : k < xs.length) : crcAll s (xs.take (k + 1)) = crcByte (crcAll s (xs.take k)) xs[k] := by rw [take_snoc8 xs k h, crcAll_snoc]
theorem byte_w {s : Nat} {c : UInt8} (h : s < 4294967296) : bits .xor .u32 (s : Int) (c.toNat : Int) = ((s ^^^ c.toNat : Nat) : Int) := u32_xor_nat _ _ h (by have := UInt8.toNat_lt c; omega)
theorem crcByte_eq (s : Nat) (c : UInt8) : crcByte s c = crcBits 8 (s ^^^ c.toNat) := by unfold crcByte; rfl

theorem bit_yes {t : Nat} (ht : t < 4294967296) (h : t % 2 = 1) : bits .xor .u32 ((t : Int) / 2) 3988292384 = (crcBit t : Nat) := by
  rw [show ((t : Int) / 2) = ((t / 2 : Nat) : Int) by omega, show (3988292384 : Int) = ((3988292384 : Nat) : Int) from rfl, u32_xor_nat _ _ (by omega) (by omega)]
  unfold crcBit; rw [if_pos h]
theorem bit_no {t : Nat} (h : ¬ t % 2 = 1) : ((t : Int) / 2) = (crcBit t : Nat) := by
  unfold crcBit; rw [if_neg h, Nat.xor_zero]; omega
theorem crcBits_succ (k s : Nat) : crcBits (k + 1) s = crcBits k (crcBit s) := by rw [crcBits]
theorem compl_zero : compl 0 = 4294967295 := by unfold compl; rfl
theorem crcBits_left {j t : Nat} (h : j < 8) : crcBits (8 - j) t = crcBits (8 - (j + 1)) (crcBit t) := by
  rw [show 8 - j = (8 - (j + 1)) + 1 by omega, crcBits_succ]
theorem and_one32 {t : Nat} (ht : t < 4294967296) (h : t % 2 = 1) : bits .and .u32 (t : Int) 1 = 1 := by
  rw [show (1 : Int) = ((1 : Nat) : Int) from rfl, u32_and_nat _ _ ht (by omega), nat_mask1, h]
theorem and_zero32 {t : Nat} (ht : t < 4294967296) (h : ¬ t % 2 = 1) : bits .and .u32 (t : Int) 1 = 0 := by
  rw [show (1 : Int) = ((1 : Nat) : Int) from rfl, u32_and_nat _ _ ht (by omega), nat_mask1, show t % 2 = 0 by omega]; rfl
theorem mask_yes : bits .and .u32 3988292384 4294967295 = 3988292384 := by decide
theorem mask_no : bits .and .u32 3988292384 0 = 0 := by decide
theorem bit_no' {t : Nat} (ht : t < 4294967296) (h : ¬ t % 2 = 1) : bits .xor .u32 ((t : Int) / 2) 0 = (crcBit t : Nat) := by
  rw [show ((t : Int) / 2) = ((t / 2 : Nat) : Int) by omega, show (0 : Int) = ((0 : Nat) : Int) from rfl, u32_xor_nat _ _ (by omega) (by omega)]
  unfold crcBit; rw [if_neg h]
theorem val_u32 {a b : Int} (h : a = b) : Value.int .u32 a = .int .u32 b := by rw [h]
theorem ret_u32 {a b : Int} (h : a = b) : Ending.returned (.int .u32 a) = .returned (.int .u32 b) := by rw [h]

set_option maxHeartbeats 2000000 in
theorem rcrc_any (xs : List UInt8) (c B : Nat) (A : Option Addr) (w : World) (hr : Rd w B A (cb xs)) (hn : xs.length ≤ 1000000) :
    Calls Try.prog 12 #[.slice A xs.length c] w fun e w' => e = .returned (.int .u32 (upd 0 xs : Nat)) ∧ w = w' := by
  go_enter Try.func12, Try.ntmps12
  go_wp2_with fail
  go_loop [3, 4] (fun a i => ∃ k s : Nat, k ≤ xs.length ∧ i = .int .i64 k ∧ a = .int .u32 s ∧ s < 4294967296 ∧ Hid (s = crcAll 4294967295 (xs.take k))) (fun _ i => xs.length - (intOf i).toNat)
  case atStart => exact ⟨0, 4294967295, Nat.zero_le _, rfl, rfl, by omega, Lib.hid (by unfold crcAll; rfl)⟩
  case round =>
    obtain ⟨k, s, hk, rfl, rfl, hs, HS⟩ := hrel
    by_cases hlt : k < xs.length
    · obtain ⟨b, off, rfl, _, hc⟩ := rdb_at hr hlt
      have HT := Lib.hid (crc_take 4294967295 xs k hlt)
      have hbw := byte_w (c := xs[k]) hs
      have HB := Lib.hid (byte_xor_lt (c := xs[k]) hs)
      have hby : (xs[k].toNat : Int) ≤ 255 := by have := UInt8.toNat_lt xs[k]; omega
      have HE := Lib.hid (crcByte_eq s xs[k])
      have HL := Lib.hid (crcByte_lt (c := xs[k]) hs)
      go_wp2_with fail
      go_loop [3, 5] (fun a i => ∃ j t : Nat, j ≤ 8 ∧ i = .int .i64 j ∧ a = .int .u32 t ∧ t < 4294967296 ∧ Hid (crcBits (8 - j) t = crcByte s xs[k])) (fun _ i => 8 - (intOf i).toNat)
      case atStart => exact ⟨0, _, Nat.zero_le _, rfl, rfl, HB.out, Lib.hid HE.out.symm⟩
      case round =>
        obtain ⟨j, t, hj, rfl, rfl, ht, HJ⟩ := hrel
        by_cases hj8 : j < 8
        · have HC := Lib.hid (crcBits_left (t := t) hj8)
          have HLt := Lib.hid (crcBit_lt ht)
          by_cases hb : t % 2 = 1
          · have HY := Lib.hid (bit_yes ht hb)
            have ho : ((t : Int) % 2 == 1) = true := by simp; omega
            clear hb
            go_wp2
            refine ⟨⟨j + 1, crcBit t, by omega, by go_num, val_u32 HY.out, HLt.out, Lib.hid (by rw [← HC.out]; exact HJ.out)⟩, by simp [intOf]; omega⟩
          · have HY := Lib.hid (bit_no hb)
            have ho : ((t : Int) % 2 == 1) = false := by simp; omega
            clear hb
            go_wp2
            refine ⟨⟨j + 1, crcBit t, by omega, by go_num, val_u32 HY.out, HLt.out, Lib.hid (by rw [← HC.out]; exact HJ.out)⟩, by simp [intOf]; omega⟩
        · obtain rfl : j = 8 := by omega
          go_wp2
          refine ⟨⟨k + 1, t, by omega, by go_num, rfl, ht, Lib.hid ?_⟩, by simp [intOf]; omega⟩
          have := HJ.out
          rw [HT.out, ← HS.out, ← this]
          unfold crcBits; rfl
    · have e : k = xs.length := by omega
      subst e
      have HW := Lib.hid (compl_w2 hs)
      go_wp2
      go_ret
      exact ⟨ret_u32 (by rw [HW.out, HS.out, List.take_length]; unfold upd; rw [compl_zero]), rfl⟩

set_option maxHeartbeats 2000000 in
theorem sum_add (xs : List UInt8) (c B g v : Nat) (A : Option Addr) (w : World) (hr : Rd w B A (cb xs)) (hn : xs.length ≤ 1000000) (hv : v < 4294967296) (hc : w.cell? ⟨g, 0, none⟩ = some (.int .u32 (v : Int))) (hf : w.frozen? ⟨g, 0, none⟩ = false) :
    Calls Try.prog 32 #[.pointer (some ⟨g, 0, none⟩), .slice A xs.length c] w fun e w' => e = .returned (.tuple #[]) ∧ w.setCell ⟨g, 0, none⟩ (.int .u32 (upd v xs : Nat)) = w' := by
  have hcw := compl_w hv
  go_enter Try.func32, Try.ntmps32
  go_wp2_with fail
  go_loop [4, 14] (fun a i => ∃ k s : Nat, k ≤ xs.length ∧ i = .int .i64 k ∧ a = .int .u32 s ∧ s < 4294967296 ∧ Hid (s = crcAll (compl v) (xs.take k))) (fun _ i => xs.length - (intOf i).toNat)
  case atStart => exact ⟨0, compl v, Nat.zero_le _, rfl, rfl, compl_lt v, Lib.hid (by unfold crcAll; rfl)⟩
  case round =>
    obtain ⟨k, s, hk, rfl, rfl, hs, HS⟩ := hrel
    by_cases hlt : k < xs.length
    · obtain ⟨b, off, rfl, _, hcb⟩ := rdb_at hr hlt
      have HT := Lib.hid (crc_take (compl v) xs k hlt)
      have hbw := byte_w (c := xs[k]) hs
      have HB := Lib.hid (byte_xor_lt (c := xs[k]) hs)
      have hby : (xs[k].toNat : Int) ≤ 255 := by have := UInt8.toNat_lt xs[k]; omega
      have HE := Lib.hid (crcByte_eq s xs[k])
      go_wp2_with fail
      go_loop [4, 24] (fun a i => ∃ j t : Nat, j ≤ 8 ∧ i = .int .i64 j ∧ a = .int .u32 t ∧ t < 4294967296 ∧ Hid (crcBits (8 - j) t = crcByte s xs[k])) (fun _ i => 8 - (intOf i).toNat)
      case atStart => exact ⟨0, _, Nat.zero_le _, rfl, rfl, HB.out, Lib.hid HE.out.symm⟩
      case round =>
        obtain ⟨j, t, hj, rfl, rfl, ht, HJ⟩ := hrel
        by_cases hj8 : j < 8
        · have HC := Lib.hid (crcBits_left (t := t) hj8)
          have HLt := Lib.hid (crcBit_lt ht)
          by_cases hb : t % 2 = 1
          · have e1 := and_one32 ht hb
            have e2 := mask_yes
            have e3 := bit_yes ht hb
            clear hb
            go_wp2
            refine ⟨⟨j + 1, crcBit t, by omega, by go_num, by first | rfl | (trace_state; fail), HLt.out, Lib.hid (by rw [← HC.out]; exact HJ.out)⟩, by simp [intOf]; omega⟩
          · have e1 := and_zero32 ht hb
            have e2 := mask_no
            have e3 := bit_no' ht hb
            clear hb
            go_wp2
            refine ⟨⟨j + 1, crcBit t, by omega, by go_num, by first | rfl | (trace_state; fail), HLt.out, Lib.hid (by rw [← HC.out]; exact HJ.out)⟩, by simp [intOf]; omega⟩
        · obtain rfl : j = 8 := by omega
          go_wp2
          refine ⟨⟨k + 1, t, by omega, by go_num, rfl, ht, Lib.hid ?_⟩, by simp [intOf]; omega⟩
          have := HJ.out
          rw [HT.out, ← HS.out, ← this]
          unfold crcBits; rfl
    · have e : k = xs.length := by omega
      subst e
      have HW := Lib.hid (compl_w hs)
      go_wp2
      go_end0
      refine ⟨rfl, ?_⟩
      rw [HW.out, HS.out, List.take_length]
      unfold upd; rfl

theorem sum_value (g v : Nat) (w : World) (hc : w.cell? ⟨g, 0, none⟩ = some (.int .u32 (v : Int))) :
    Calls Try.prog 33 #[.pointer (some ⟨g, 0, none⟩)] w fun e w' => e = .returned (.int .u32 (v : Int)) ∧ w = w' := by
  go_enter Try.func33, Try.ntmps33
  go_wp2
  go_ret
  exact ⟨rfl, rfl⟩
theorem crc_any (xs : List UInt8) (c : Nat) (A : Option Addr) (w : World) (hr : Rd w w.heap.size A (cb xs)) (hn : xs.length ≤ 1000000) :
    Calls Try.prog 25 #[.slice A xs.length c] w fun e w' => e = .returned (.int .u32 (upd 0 xs : Nat)) ∧ Below w.heap.size w w' := by
  go_enter Try.func25, Try.ntmps25
  go_wp2_with fail
  refine (sum_add xs c w.heap.size w.heap.size 0 A _ (hr.below ((Below.refl _ _).alloc (Nat.le_refl _) _) (Nat.le_refl _)) hn (by omega) (cell_of_row _ _ _ _ _ _ (heap_alloc_new w _)) (by simp)).mono ?_
  rintro e w' ⟨rfl, rfl⟩
  go_wp2_with fail
  refine (sum_value w.heap.size (upd 0 xs) _ (by simp)).mono ?_
  rintro e w' ⟨rfl, rfl⟩
  go_wp2_with fail
  go_ret
  exact ⟨rfl, (Below.refl _ _).alloc (Nat.le_refl _) _⟩
end Go.Proofs.Ytlmelfakmllinaa.Fl

/-
  Contracts of package pack's sets: NewBits, Size, may, Has, Set, below, list.
-/
namespace Go.Proofs.Ytlmelfakmllinaa.Fl
open Go.RowKit

def cw (ws : List Nat) : List Value := ws.map fun x : Nat => .int .u64 (x : Int)
theorem cw_len (ws : List Nat) : (cw ws).length = ws.length := by simp [cw]
theorem cw_at (ws : List Nat) (k : Nat) (h : k < ws.length) : (cw ws)[k]? = some (.int .u64 (ws[k] : Int)) := by simp [cw, h]
def bitAt (ws : List Nat) (i : Nat) : Bool := decide ((ws.getD (i / 64) 0) / 2 ^ (i % 64) % 2 = 1)
section
variable {w w' : World} {g g2 n : Nat} {ws : List Nat}
end
theorem below_alloc2' (w : World) (o1 o2 : Obj) : Below w.heap.size w ((w.alloc o1).alloc o2) := ((Below.refl _ _).alloc (Nat.le_refl _) _).alloc (by simp) _
theorem made_eq (m : Nat) : madeCells #[Value.int .u64 0] m = (cw (List.replicate m 0)).toArray := by
  apply Array.ext
  · rw [size_madeCells]; simp [cw]
  · intro i h1 h2
    simp [madeCells, cw, Nat.mod_one]

theorem bitAt_zero (m k : Nat) : bitAt (List.replicate m 0) k = false := by
  unfold bitAt
  have : (List.replicate m 0).getD (k / 64) 0 = 0 := by
    rw [List.getD_eq_getElem?_getD, List.getElem?_replicate]; split <;> rfl
  rw [this]; simp
theorem bit_w {x k : Nat} (hx : x < 18446744073709551616) : (bits BinOp.and IntKind.u64 ((x : Int) / 2 ^ k) 1 == 1) = decide (x / 2 ^ k % 2 = 1) := by
  have e : (x : Int) / 2 ^ k = ((x / 2 ^ k : Nat) : Int) := by simp
  have hl : x / 2 ^ k ≤ x := Nat.div_le_self _ _
  rw [e, show (1 : Int) = ((1 : Nat) : Int) from rfl, u64_and_nat _ _ (by omega) (by omega), nat_mask1, Bool.eq_iff_iff]
  simp only [beq_iff_eq, decide_eq_true_eq]
  omega
theorem bitAt_eq {ws : List Nat} {i : Nat} (h : i / 64 < ws.length) : bitAt ws i = decide (ws[i / 64] / 2 ^ (i % 64) % 2 = 1) := by
  unfold bitAt; rw [List.getD_eq_getElem?_getD, List.getElem?_eq_getElem h]; rfl
theorem ret_bool {a b : Bool} (h : a = b) : Ending.returned (.bool a) = .returned (.bool b) := by rw [h]
/-! ### Set -/
def flip (ws : List Nat) (i : Nat) : List Nat := ws.set (i / 64) (ws.getD (i / 64) 0 ^^^ 2 ^ (i % 64))
theorem two_lt {m : Nat} (h : m < 64) : 2 ^ m < 18446744073709551616 := by
  have : 2 ^ m ≤ 2 ^ 63 := Nat.pow_le_pow_right (by decide) (by omega)
  have e : (2 : Nat) ^ 63 = 9223372036854775808 := by decide
  omega
theorem flip_len (ws : List Nat) (i : Nat) : (flip ws i).length = ws.length := by unfold flip; simp
theorem flip_lt {ws : List Nat} (i : Nat) (h : ∀ x ∈ ws, x < 18446744073709551616) : ∀ x ∈ flip ws i, x < 18446744073709551616 := by
  intro x hx
  unfold flip at hx
  rcases List.mem_or_eq_of_mem_set hx with h1 | h1
  · exact h x h1
  · rw [h1]
    apply Nat.xor_lt_two_pow (n := 64)
    · rw [List.getD_eq_getElem?_getD]
      cases hg : ws[i / 64]? with
      | none => simp
      | some y => exact h y (List.mem_of_getElem? hg)
    · exact two_lt (by omega)
theorem bit_div (x k : Nat) : decide (x / 2 ^ k % 2 = 1) = x.testBit k := by
  rw [Nat.testBit_eq_decide_div_mod_eq]
theorem bitAt_flip {ws : List Nat} {i : Nat} (h : i / 64 < ws.length) (k : Nat) : bitAt (flip ws i) k = if k = i then !bitAt ws i else bitAt ws k := by
  unfold bitAt flip
  rw [bit_div, bit_div, bit_div]
  by_cases e : k / 64 = i / 64
  · have e1 : (ws.set (i / 64) (ws.getD (i / 64) 0 ^^^ 2 ^ (i % 64))).getD (k / 64) 0 = ws.getD (i / 64) 0 ^^^ 2 ^ (i % 64) := by
      rw [e, List.getD_eq_getElem?_getD, List.getElem?_set_self h]; rfl
    rw [e1, Nat.testBit_xor, Nat.testBit_two_pow, e]
    by_cases e2 : k = i
    · subst e2; simp
    · have : ¬ (i % 64 = k % 64) := by omega
      simp [e2, this]
  · have e1 : (ws.set (i / 64) (ws.getD (i / 64) 0 ^^^ 2 ^ (i % 64))).getD (k / 64) 0 = ws.getD (k / 64) 0 := by
      rw [List.getD_eq_getElem?_getD, List.getElem?_set_ne (fun h => e h.symm), ← List.getD_eq_getElem?_getD]
    rw [e1, if_neg (by rintro rfl; exact e rfl)]
theorem cast_two (m : Nat) : (2 : Int) ^ m = ((2 ^ m : Nat) : Int) := by simp
theorem wrap_two {m : Nat} (h : m < 64) : IntKind.u64.wrap (2 ^ m) = 2 ^ m := by
  have := two_lt h
  rw [cast_two, IntKind.wrap_u64]
  generalize (2 : Nat) ^ m = p at this ⊢
  omega
theorem wrap_two1 {m : Nat} (h : m < 64) : IntKind.u64.wrap (2 ^ m - 1) = ((2 ^ m - 1 : Nat) : Int) := by
  have := two_lt h
  have hp : 1 ≤ 2 ^ m := Nat.one_le_two_pow
  rw [cast_two, IntKind.wrap_u64]
  generalize (2 : Nat) ^ m = p at this hp ⊢
  omega
/-! ### Next -/
theorem tz_key {x a : Nat} (hx : x < 18446744073709551616) (hlow : x &&& (18446744073709551616 - x) = a) :
    IntKind.u64.wrap (bits BinOp.and IntKind.u64 (x : Int) (IntKind.u64.wrap (-(x : Int))) * 285870213051353865) / 288230376151711744 = ((a * 285870213051353865 % 18446744073709551616 / 288230376151711744 : Nat) : Int) := by
  by_cases h0 : x = 0
  · subst h0
    simp at hlow
    subst hlow
    decide
  · have e1 : IntKind.u64.wrap (-(x : Int)) = ((18446744073709551616 - x : Nat) : Int) := by rw [IntKind.wrap_u64]; omega
    rw [e1, u64_and_nat x _ hx (by omega), hlow, IntKind.wrap_u64]
    omega
end Go.Proofs.Ytlmelfakmllinaa.Fl

/-
  Contract of package pack's sets: Next.
-/
namespace Go.Proofs.Ytlmelfakmllinaa.Fl
open Go.RowKit

/-- r is the least number of the set from i on, or -1 -/
def IsNext (ws : List Nat) (n i : Nat) (r : Int) : Prop :=
  (r = -1 ∧ ∀ k, i ≤ k → bitAt ws k = false) ∨ ∃ k : Nat, r = k ∧ i ≤ k ∧ k < n ∧ bitAt ws k = true ∧ ∀ j, i ≤ j → j < k → bitAt ws j = false
/-- what the loop holds: word number a has been masked so that only numbers from m on are in x -/
structure NextInv (ws : List Nat) (m a x : Nat) : Prop where
  lo : ∀ k, m ≤ k → k < 64 * a → bitAt ws k = false
  wd : ∀ j, j < 64 → x.testBit j = (decide (m ≤ 64 * a + j) && bitAt ws (64 * a + j))
theorem bitAt_word {ws : List Nat} {a j : Nat} (ha : a < ws.length) (hj : j < 64) : bitAt ws (64 * a + j) = ws[a].testBit j := by
  unfold bitAt
  rw [bit_div, show (64 * a + j) / 64 = a by omega, show (64 * a + j) % 64 = j by omega, List.getD_eq_getElem?_getD, List.getElem?_eq_getElem ha]; rfl
theorem mask_bits (x m j : Nat) : ((x / 2 ^ m) * 2 ^ m).testBit j = (decide (m ≤ j) && x.testBit j) := by
  rw [Nat.testBit_mul_two_pow, Nat.testBit_div_two_pow]
  by_cases h : m ≤ j
  · simp [h, Nat.sub_add_cancel h]
  · simp [h]
theorem andNot_w {x m : Nat} (hx : x < 18446744073709551616) (hm : m < 64) : bits .andNot .u64 (x : Int) ((2 ^ m - 1 : Nat) : Int) = ((x / 2 ^ m * 2 ^ m : Nat) : Int) := by
  have h2 := two_lt hm
  have hp : 1 ≤ 2 ^ m := Nat.one_le_two_pow
  rw [u64_andNot_nat _ _ hx (by omega)]
  congr 1
  apply Nat.eq_of_testBit_eq
  intro j
  rw [mask_bits, Nat.testBit_and]
  have e : (18446744073709551615 - (2 ^ m - 1)) = 2 ^ 64 - ((2 ^ m - 1) + 1) := by
    have e64 : (2 : Nat) ^ 64 = 18446744073709551616 := by decide
    omega
  rw [e, Nat.testBit_two_pow_sub_succ (by have e64 : (2 : Nat) ^ 64 = 18446744073709551616 := by decide
                                          omega), Nat.testBit_two_pow_sub_one]
  by_cases h : m ≤ j
  · by_cases hj : j < 64
    · simp [h, hj, show ¬ j < m by omega]
    · have : x.testBit j = false := Nat.testBit_lt_two_pow (Nat.lt_of_lt_of_le hx (by
        have : (2 : Nat) ^ 64 ≤ 2 ^ j := Nat.pow_le_pow_right (by decide) (by omega)
        have e64 : (2 : Nat) ^ 64 = 18446744073709551616 := by decide
        omega))
      simp [this]
  · simp [h, show j < m by omega]
theorem next_start {ws : List Nat} {m : Nat} (h : m / 64 < ws.length) : NextInv ws m (m / 64) (ws[m / 64] / 2 ^ (m % 64) * 2 ^ (m % 64)) := by
  refine ⟨fun k h1 h2 => by omega, fun j hj => ?_⟩
  rw [mask_bits, bitAt_word h hj]
  congr 1
  rw [Bool.eq_iff_iff]; simp; omega
theorem next_step {ws : List Nat} {m a : Nat} (hm : m / 64 ≤ a) (h : NextInv ws m a 0) (ha : a + 1 < ws.length) : NextInv ws m (a + 1) ws[a + 1] := by
  refine ⟨fun k h1 h2 => ?_, fun j hj => ?_⟩
  · by_cases hk : k < 64 * a
    · exact h.lo k h1 hk
    · have := h.wd (k - 64 * a) (by omega)
      rw [show 64 * a + (k - 64 * a) = k by omega] at this
      simp [h1] at this
      exact this
  · rw [bitAt_word ha hj]; simp; omega
theorem next_end {ws : List Nat} {n m a : Nat} (h : NextInv ws m a 0) (ha : a + 1 = ws.length) (hl : ws.length = (n + 63) / 64) (ht : ∀ k, n ≤ k → bitAt ws k = false) : IsNext ws n m (-1) := by
  refine .inl ⟨rfl, fun k hk => ?_⟩
  by_cases h1 : k < 64 * a
  · exact h.lo k hk h1
  · by_cases h2 : k < 64 * (a + 1)
    · have := h.wd (k - 64 * a) (by omega)
      rw [show 64 * a + (k - 64 * a) = k by omega] at this
      simp [hk] at this
      exact this
    · exact ht k (by omega)
theorem ctz_bits {x : Nat} (hx : x < 18446744073709551616) (h0 : x ≠ 0) : Lib.ctz 64 x < 64 ∧ x.testBit (Lib.ctz 64 x) = true ∧ ∀ j, j < Lib.ctz 64 x → x.testBit j = false := by
  obtain ⟨m, hm, hk⟩ := Lib.ctzFrom_spec 64 x (by omega) hx
  have e : Lib.ctz 64 x = Lib.ctzFrom 64 x := by simp [Lib.ctz, h0]
  rw [e]
  generalize Lib.ctzFrom 64 x = c at hm hk
  refine ⟨hk, ?_, fun j hj => ?_⟩
  · rw [hm, Nat.mul_comm, Nat.testBit_mul_two_pow]; simp
  · rw [hm, Nat.mul_comm, Nat.testBit_mul_two_pow]; simp; omega
theorem next_found {ws : List Nat} {n m a x : Nat} (h : NextInv ws m a x) (hx : x < 18446744073709551616) (h0 : x ≠ 0) (ht : ∀ k, n ≤ k → bitAt ws k = false) : IsNext ws n m ((a : Int) * 64 + (Lib.ctz 64 x : Nat)) := by
  obtain ⟨h1, h2, h3⟩ := ctz_bits hx h0
  have hw := h.wd _ h1
  rw [h2] at hw
  have hw' : m ≤ 64 * a + Lib.ctz 64 x ∧ bitAt ws (64 * a + Lib.ctz 64 x) = true := by
    have := hw.symm; simpa using this
  refine .inr ⟨64 * a + Lib.ctz 64 x, by omega, hw'.1, ?_, hw'.2, fun j hj1 hj2 => ?_⟩
  · rcases Nat.lt_or_ge (64 * a + Lib.ctz 64 x) n with h | h
    · exact h
    · rw [ht _ h] at hw'; exact absurd hw'.2 (by decide)
  · by_cases hja : j < 64 * a
    · exact h.lo j hj1 hja
    · have h4 := h.wd (j - 64 * a) (by omega)
      rw [h3 _ (by omega), show 64 * a + (j - 64 * a) = j by omega] at h4
      simp [hj1] at h4
      exact h4

theorem vInt {k : IntKind} {a b : Int} (h : a = b) : Value.int k a = .int k b := by rw [h]
def NextPost (ws : List Nat) (n i : Nat) (w : World) (e : Ending) (w' : World) : Prop := ∃ (r : Int) (q : Nat), e = .returned (.int .i64 r) ∧ IsNext ws n i r ∧ w.drewN q = w'
end Go.Proofs.Ytlmelfakmllinaa.Fl

/-
  Contracts of math/bits.OnesCount64 and of package pack's Bits.Below: counting.
-/
namespace Go.Proofs.Ytlmelfakmllinaa.Fl
open Go.RowKit

/-- how many numbers below n have it -/
def cnt (f : Nat → Bool) : Nat → Nat
  | 0 => 0
  | n + 1 => cnt f n + (f n).toNat
theorem cnt_le (f : Nat → Bool) (n : Nat) : cnt f n ≤ n := by
  induction n with
  | zero => exact Nat.le_refl _
  | succ n ih => unfold cnt; cases f n <;> simp [Bool.toNat] <;> omega
theorem cnt_congr {f g : Nat → Bool} (n : Nat) (h : ∀ j, j < n → f j = g j) : cnt f n = cnt g n := by
  induction n with
  | zero => rfl
  | succ n ih => simp only [cnt]; rw [ih (fun j hj => h j (by omega)), h n (by omega)]
theorem cnt_add (f : Nat → Bool) (a b : Nat) : cnt f (a + b) = cnt f a + cnt (fun j => f (a + j)) b := by
  induction b with
  | zero => rfl
  | succ b ih => rw [← Nat.add_assoc]; simp only [cnt]; rw [ih, Nat.add_assoc]
theorem cnt_none (n : Nat) : cnt (fun _ => false) n = 0 := by
  induction n with
  | zero => rfl
  | succ n ih => simp [cnt, ih]
theorem cnt_front (f : Nat → Bool) (n : Nat) : cnt f (n + 1) = (f 0).toNat + cnt (fun j => f (j + 1)) n := by
  rw [Nat.add_comm n, cnt_add]
  simp only [cnt, Nat.zero_add, Nat.add_comm 1]
theorem total_cnt (x n : Nat) : total (bitl x n) = cnt x.testBit n := by
  induction n generalizing x with
  | zero => rfl
  | succ n ih =>
    rw [cnt_front]
    show x % 2 + total (bitl (x / 2) n) = _
    rw [ih]
    have h0 : (x.testBit 0).toNat = x % 2 := by
      rw [Nat.testBit_zero]
      rcases Nat.mod_two_eq_zero_or_one x with h | h <;> simp [h]
    rw [h0]
    congr 1
    exact cnt_congr n fun j _ => by rw [Nat.testBit_succ]
theorem pop_cnt (x : Nat) : pop x = cnt x.testBit 64 := total_cnt x 64
theorem pop_mask (x m : Nat) (hm : m ≤ 64) : pop (x &&& (2 ^ m - 1)) = cnt x.testBit m := by
  rw [pop_cnt, show (64 : Nat) = m + (64 - m) by omega, cnt_add]
  have h1 : cnt (x &&& (2 ^ m - 1)).testBit m = cnt x.testBit m := cnt_congr m fun j hj => by
    rw [Nat.testBit_and, Nat.testBit_two_pow_sub_one]; simp [hj]
  have h2 : cnt (fun j => (x &&& (2 ^ m - 1)).testBit (m + j)) (64 - m) = 0 := by
    rw [cnt_congr (g := fun _ => false) _ fun j _ => by rw [Nat.testBit_and, Nat.testBit_two_pow_sub_one]; simp]
    exact cnt_none _
  rw [h1, h2]; rfl
theorem nat_u64_and {a b : Nat} (ha : a < 18446744073709551616) (hb : b < 18446744073709551616) {z : Nat} (h : a &&& b = z) : bits .and .u64 (a : Int) (b : Int) = (z : Int) := by rw [u64_and_nat _ _ ha hb, h]
theorem w_u64 {n : Nat} (h : n < 18446744073709551616) : IntKind.u64.wrap (n : Int) = (n : Int) := by rw [IntKind.wrap_u64]; omega
theorem step_two {x m d : Nat} {x1 : Nat} (hx : x < 18446744073709551616) (hm : m < 18446744073709551616) (h : (x / d &&& m) + (x &&& m) = x1) (h1 : x1 < 18446744073709551616) :
    IntKind.u64.wrap (bits .and .u64 ((x : Int) / (d : Int)) (m : Int) + bits .and .u64 (x : Int) (m : Int)) = (x1 : Int) := by
  have hd : x / d ≤ x := Nat.div_le_self _ _
  rw [show (x : Int) / (d : Int) = ((x / d : Nat) : Int) by simp, u64_and_nat _ _ (by omega) hm, u64_and_nat _ _ hx hm, ← Int.natCast_add, h]
  exact w_u64 h1
theorem step_sum {x d y : Nat} (h : x + x / d = y) (h1 : y < 18446744073709551616) : IntKind.u64.wrap ((x : Int) + (x : Int) / (d : Int)) = (y : Int) := by
  rw [show (x : Int) / (d : Int) = ((x / d : Nat) : Int) by simp, ← Int.natCast_add, h]
  exact w_u64 h1
theorem step_sum' {x d y : Nat} (h : x / d + x = y) (h1 : y < 18446744073709551616) : IntKind.u64.wrap ((x : Int) / (d : Int) + (x : Int)) = (y : Int) := by
  rw [show (x : Int) / (d : Int) = ((x / d : Nat) : Int) by simp, ← Int.natCast_add, h]
  exact w_u64 h1
theorem i64_and127 {t : Nat} (h : t < 18446744073709551616) : bits .and .i64 (wrap64 (t : Int)) 127 = ((t % 128 : Nat) : Int) := by
  rw [and_i64, show u 127 = 2 ^ 7 - 1 from rfl, Nat.and_two_pow_sub_one_eq_mod]
  unfold wrap64 u
  omega
/-! ### Bits.Below -/
theorem retP_i64' {a b : Int} (h : a = b) : Ending.returned (.int .i64 a) = .returned (.int .i64 b) := by rw [h]
theorem val_i64 {a b : Int} (h : a = b) : Value.int .i64 a = .int .i64 b := by rw [h]
theorem cnt_word {ws : List Nat} {a : Nat} (ha : a < ws.length) (m : Nat) (hm : m ≤ 64) : cnt (bitAt ws) (64 * a + m) = cnt (bitAt ws) (64 * a) + cnt ws[a].testBit m := by
  rw [cnt_add]
  congr 1
  exact cnt_congr m fun j hj => bitAt_word ha (by omega)
theorem cnt_zero (f : Nat → Bool) : cnt f 0 = 0 := rfl
theorem two64 {m : Nat} (h : m < 64) : 2 ^ m < 18446744073709551616 := two_lt h
attribute [local irreducible] cnt pop
def BelowPost (ws : List Nat) (i : Nat) (w : World) (e : Ending) (w' : World) : Prop := ∃ q : Nat, e = .returned (.int .i64 (cnt (bitAt ws) i : Nat)) ∧ w.drewN q = w'
end Go.Proofs.Ytlmelfakmllinaa.Fl
