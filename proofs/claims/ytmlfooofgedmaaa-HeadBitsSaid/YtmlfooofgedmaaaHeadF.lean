/-
  Contract of the document's Unpack.
-/
import Derived.Test.YtmlfooofgedmaaaHeadE
namespace Go.Proofs.Ytmlfooofgedmaaa.Fl
open Go.RowKit

theorem rz_parts {b : Int} (h0 : 0 ≤ b) : b % 4294967296 = zS b ∧ b / 4294967296 % 16 = zK b ∧ (b / 4294967296 / 16 % 2 == 1) = zM b ∧ b / 4294967296 / 16 / 2 % 8 = (zGap b.toNat : Nat) ∧ b / 4294967296 / 16 / 2 / 8 = zH b := by
  obtain ⟨n, rfl⟩ := Int.eq_ofNat_of_zero_le h0
  unfold zS zK zM zH zSize zKind zMark zHash zGap
  simp only [Int.toNat_natCast]
  have h2 : n / 68719476736 = n / 4294967296 / 16 := by rw [Nat.div_div_eq_div_mul]
  have h3 : n / 137438953472 = n / 4294967296 / 32 := by rw [Nat.div_div_eq_div_mul]
  have h4 : n / 1099511627776 = n / 4294967296 / 256 := by rw [Nat.div_div_eq_div_mul]
  simp only [h2, h3, h4]
  have e : ((n : Int) / 4294967296) = ((n / 4294967296 : Nat) : Int) := by omega
  rw [e]
  generalize n / 4294967296 = y
  refine ⟨by omega, by omega, ?_, by omega, by omega⟩
  rw [Bool.eq_iff_iff]
  simp only [beq_iff_eq, decide_eq_true_eq]
  omega
set_option maxHeartbeats 4000000 in
theorem runpack_yes (a b : Int) (w : World) (a0 : 0 ≤ a) (b0 : 0 ≤ b) (b1 : b ≤ 18446744073709551615) (hE : hErr a (zK b) (zS b) (zH b) = 0) (hG : zGap b.toNat = 0) :
    Calls Try.prog 16 #[.agg #[.int .u64 a, .int .u64 b]] w fun e w' => e = .returned (.tuple #[.agg #[.int .u64 a, .int .i64 (zK b), .int .i64 (zS b), .int .u32 (zH b), .bool (zM b)], .bool true]) ∧ Below w.heap.size w w' := by
  obtain ⟨e1, e2, e3, e4, e5⟩ := rz_parts b0
  obtain ⟨⟨x0, x1⟩, ⟨s0, s1⟩, z1, ⟨k0, k1⟩⟩ := hErr_ok hE
  have z0 := (zH_bd b1).1
  rw [hG] at e4
  have HO : Hid (a % 2 = 0) := Lib.hid (by omega)
  have hz : (a == 0) = false := by simp [x0]
  clear hE hG b1 x0 x1
  generalize zK b = K at *
  generalize zS b = S at *
  generalize zH b = H at *
  generalize zM b = M at *
  go_enter Try.func16, Try.ntmps16
  go_wp2_with (go_at_call 31; (with_reducible refine (ris_even _ _ a0 HO.out).mono ?_); rintro e w' ⟨rfl, rfl⟩)
  exact bodyPost_ret (v := .tuple #[.agg #[.int .u64 a, .int .i64 K, .int .i64 S, .int .u32 H, .bool M], .bool true]) (by simp [results, Try.results16, go_sem]) rfl ⟨rfl, hbelow2 _ _ _⟩
set_option maxHeartbeats 4000000 in
theorem runpack_gap (a b : Int) (w : World) (a0 : 0 ≤ a) (b0 : 0 ≤ b) (b1 : b ≤ 18446744073709551615) (hG : zGap b.toNat ≠ 0) :
    Calls Try.prog 16 #[.agg #[.int .u64 a, .int .u64 b]] w fun e w' => e = .returned (.tuple #[.agg #[.int .u64 0, .int .i64 0, .int .i64 0, .int .u32 0, .bool false], .bool false]) ∧ Below w.heap.size w w' := by
  obtain ⟨e1, e2, e3, e4, e5⟩ := rz_parts b0
  obtain ⟨z0, z1⟩ := zH_bd b1
  have k0 := (zK_bd b).1
  have s0 := (zS_bd b).1
  have hne : (((zGap b.toNat : Nat) : Int) != 0) = true := by simp [hG]
  clear hG
  generalize ((zGap b.toNat : Nat) : Int) = G at e4 hne
  clear b1
  generalize zK b = K at *
  generalize zS b = S at *
  generalize zH b = H at *
  generalize zM b = M at *
  go_enter Try.func16, Try.ntmps16
  go_wp2_with fail
  exact bodyPost_ret (v := .tuple #[.agg #[.int .u64 0, .int .i64 0, .int .i64 0, .int .u32 0, .bool false], .bool false]) (by simp [results, Try.results16, go_sem]) rfl ⟨rfl, hbelow2 _ _ _⟩
set_option maxHeartbeats 4000000 in
theorem runpack_size (a b : Int) (w : World) (a0 : 0 ≤ a) (b0 : 0 ≤ b) (b1 : b ≤ 18446744073709551615) (hG : zGap b.toNat = 0) (hs : 1048576 < zS b) :
    Calls Try.prog 16 #[.agg #[.int .u64 a, .int .u64 b]] w fun e w' => e = .returned (.tuple #[.agg #[.int .u64 0, .int .i64 0, .int .i64 0, .int .u32 0, .bool false], .bool false]) ∧ Below w.heap.size w w' := by
  obtain ⟨e1, e2, e3, e4, e5⟩ := rz_parts b0
  obtain ⟨z0, z1⟩ := zH_bd b1
  have k0 := (zK_bd b).1
  have s0 := (zS_bd b).1
  rw [hG] at e4
  clear hG
  clear b1
  generalize zK b = K at *
  generalize zS b = S at *
  generalize zH b = H at *
  generalize zM b = M at *
  go_enter Try.func16, Try.ntmps16
  go_wp2_with fail
  exact bodyPost_ret (v := .tuple #[.agg #[.int .u64 0, .int .i64 0, .int .i64 0, .int .u32 0, .bool false], .bool false]) (by simp [results, Try.results16, go_sem]) rfl ⟨rfl, hbelow2 _ _ _⟩
set_option maxHeartbeats 4000000 in
theorem runpack_kind (a b : Int) (w : World) (a0 : 0 ≤ a) (b0 : 0 ≤ b) (b1 : b ≤ 18446744073709551615) (hG : zGap b.toNat = 0) (hs : zS b ≤ 1048576) (hk : 2 < zK b) :
    Calls Try.prog 16 #[.agg #[.int .u64 a, .int .u64 b]] w fun e w' => e = .returned (.tuple #[.agg #[.int .u64 0, .int .i64 0, .int .i64 0, .int .u32 0, .bool false], .bool false]) ∧ Below w.heap.size w w' := by
  obtain ⟨e1, e2, e3, e4, e5⟩ := rz_parts b0
  obtain ⟨z0, z1⟩ := zH_bd b1
  have k0 := (zK_bd b).1
  have s0 := (zS_bd b).1
  rw [hG] at e4
  clear hG
  clear b1
  generalize zK b = K at *
  generalize zS b = S at *
  generalize zH b = H at *
  generalize zM b = M at *
  go_enter Try.func16, Try.ntmps16
  go_wp2_with fail
  exact bodyPost_ret (v := .tuple #[.agg #[.int .u64 0, .int .i64 0, .int .i64 0, .int .u32 0, .bool false], .bool false]) (by simp [results, Try.results16, go_sem]) rfl ⟨rfl, hbelow2 _ _ _⟩
set_option maxHeartbeats 4000000 in
theorem runpack_zero (a b : Int) (w : World) (a0 : 0 ≤ a) (b0 : 0 ≤ b) (b1 : b ≤ 18446744073709551615) (hG : zGap b.toNat = 0) (hs : zS b ≤ 1048576) (hk : zK b ≤ 2) (ha : (a == 0) = true) :
    Calls Try.prog 16 #[.agg #[.int .u64 a, .int .u64 b]] w fun e w' => e = .returned (.tuple #[.agg #[.int .u64 0, .int .i64 0, .int .i64 0, .int .u32 0, .bool false], .bool false]) ∧ Below w.heap.size w w' := by
  obtain ⟨e1, e2, e3, e4, e5⟩ := rz_parts b0
  obtain ⟨z0, z1⟩ := zH_bd b1
  have k0 := (zK_bd b).1
  have s0 := (zS_bd b).1
  rw [hG] at e4
  clear hG
  clear b1
  generalize zK b = K at *
  generalize zS b = S at *
  generalize zH b = H at *
  generalize zM b = M at *
  go_enter Try.func16, Try.ntmps16
  go_wp2_with fail
  exact bodyPost_ret (v := .tuple #[.agg #[.int .u64 0, .int .i64 0, .int .i64 0, .int .u32 0, .bool false], .bool false]) (by simp [results, Try.results16, go_sem]) rfl ⟨rfl, hbelow2 _ _ _⟩
set_option maxHeartbeats 4000000 in
theorem runpack_odd (a b : Int) (w : World) (a0 : 0 ≤ a) (b0 : 0 ≤ b) (b1 : b ≤ 18446744073709551615) (hG : zGap b.toNat = 0) (hs : zS b ≤ 1048576) (hk : zK b ≤ 2) (ha : (a == 0) = false) (HO : Hid (a % 2 = 1)) :
    Calls Try.prog 16 #[.agg #[.int .u64 a, .int .u64 b]] w fun e w' => e = .returned (.tuple #[.agg #[.int .u64 0, .int .i64 0, .int .i64 0, .int .u32 0, .bool false], .bool false]) ∧ Below w.heap.size w w' := by
  obtain ⟨e1, e2, e3, e4, e5⟩ := rz_parts b0
  obtain ⟨z0, z1⟩ := zH_bd b1
  have k0 := (zK_bd b).1
  have s0 := (zS_bd b).1
  rw [hG] at e4
  clear hG
  clear b1
  generalize zK b = K at *
  generalize zS b = S at *
  generalize zH b = H at *
  generalize zM b = M at *
  go_enter Try.func16, Try.ntmps16
  go_wp2_with (go_at_call 31; (with_reducible refine (ris_odd _ _ a0 HO.out).mono ?_); rintro e w' ⟨rfl, rfl⟩)
  exact bodyPost_ret (v := .tuple #[.agg #[.int .u64 0, .int .i64 0, .int .i64 0, .int .u32 0, .bool false], .bool false]) (by simp [results, Try.results16, go_sem]) rfl ⟨rfl, hbelow2 _ _ _⟩
theorem runpack_no (a b : Int) (w : World) (a0 : 0 ≤ a) (b0 : 0 ≤ b) (b1 : b ≤ 18446744073709551615) (hE : ¬ (hErr a (zK b) (zS b) (zH b) = 0 ∧ zGap b.toNat = 0)) :
    Calls Try.prog 16 #[.agg #[.int .u64 a, .int .u64 b]] w fun e w' => e = .returned (.tuple #[.agg #[.int .u64 0, .int .i64 0, .int .i64 0, .int .u32 0, .bool false], .bool false]) ∧ Below w.heap.size w w' := by
  by_cases hG : zGap b.toNat = 0
  · by_cases hs : 1048576 < zS b
    · exact runpack_size a b w a0 b0 b1 hG hs
    · by_cases hk : 2 < zK b
      · exact runpack_kind a b w a0 b0 b1 hG (by omega) hk
      · by_cases ha : a = 0
        · exact runpack_zero a b w a0 b0 b1 hG (by omega) (by omega) (by simp [ha])
        · by_cases ho : a % 2 = 1
          · exact runpack_odd a b w a0 b0 b1 hG (by omega) (by omega) (by simp [ha]) (Lib.hid ho)
          · exfalso
            refine hE ⟨hErr_mk ha ho ?_ ?_ ?_ ?_ ?_, hG⟩
            · exact (zS_bd b).1
            · omega
            · exact (zH_bd b1).2
            · exact (zK_bd b).1
            · omega
  · exact runpack_gap a b w a0 b0 b1 hG
theorem unpack_no (a b : Int) (w : World) (a0 : 0 ≤ a) (a1 : a ≤ 18446744073709551615) (b0 : 0 ≤ b) (b1 : b ≤ 18446744073709551615) (hE : ¬ (hErr a (zK b) (zS b) (zH b) = 0 ∧ zGap b.toNat = 0)) :
    Calls Try.prog 15 #[.agg #[.int .u64 a, .int .u64 b]] w fun e w' => e = .returned (.tuple #[.agg #[.int .u64 0, .int .i64 0, .int .i64 0, .int .u32 0, .bool false], .int .i64 3]) ∧ Below w.heap.size w w' := by
  by_cases h : hErr a (zK b) (zS b) (zH b) = 0
  · exact unpack_gap a b w a0 a1 b0 b1 h fun hG => hE ⟨h, hG⟩
  · exact unpack_bad a b w a0 a1 b0 b1 h
end Go.Proofs.Ytmlfooofgedmaaa.Fl
