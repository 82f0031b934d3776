/-
  Contracts of package pack's numbers: number, Get; the document's Get.
-/
import Derived.Test.YtdcehjdngjafoaaDoorAwP
namespace Go.Proofs.YtdcehjdngjafoaaDoor.Fl
open Go.RowKit

/-- the number of bytes, the lowest first -/
def leNat : List UInt8 → Nat
  | [] => 0
  | c :: cs => c.toNat + 256 * leNat cs
theorem leNat_lt (xs : List UInt8) : leNat xs < 256 ^ xs.length := by
  induction xs with
  | nil => simp [leNat]
  | cons c cs ih =>
    have hc := UInt8.toNat_lt c
    simp only [leNat, List.length_cons, Nat.pow_succ]
    omega
theorem leNat_snoc (xs : List UInt8) (c : UInt8) : leNat (xs ++ [c]) = leNat xs + c.toNat * 256 ^ xs.length := by
  induction xs with
  | nil => simp [leNat]
  | cons a ts ih =>
    simp only [List.cons_append, leNat, ih, List.length_cons, Nat.pow_succ, Nat.mul_add]
    rw [← Nat.add_assoc, Nat.mul_left_comm, Nat.mul_comm 256 (256 ^ ts.length)]
theorem pow256 {k : Nat} (h : k ≤ 8) : 256 ^ k ≤ 18446744073709551616 := by
  have : 256 ^ k ≤ 256 ^ 8 := Nat.pow_le_pow_right (by decide) h
  omega
theorem byte_mul_lt {k c : Nat} (h : k < 8) (hc : c < 256) : c * 256 ^ k < 18446744073709551616 := by
  have h1 := pow256 (k := k + 1) (by omega)
  rw [Nat.pow_succ] at h1
  have hp : 0 < 256 ^ k := Nat.pow_pos (by decide)
  have : c * 256 ^ k < 256 * 256 ^ k := Nat.mul_lt_mul_of_pos_right hc hp
  omega
theorem or_byte {s k : Nat} {c : UInt8} (h : k < 8) (hs : s < 256 ^ k) : bits .or .u64 (s : Int) (IntKind.u64.wrap ((c.toNat : Int) * 2 ^ (8 * k))) = ((s + c.toNat * 256 ^ k : Nat) : Int) := by
  have hc := UInt8.toNat_lt c
  have hm := byte_mul_lt h (by omega : c.toNat < 256)
  have hp := pow256 (k := k) (by omega)
  have e : IntKind.u64.wrap ((c.toNat : Int) * 2 ^ (8 * k)) = ((c.toNat * 256 ^ k : Nat) : Int) := by
    rw [pow_mul_cast, ← Int.natCast_mul, IntKind.wrap_u64]
    generalize c.toNat * 256 ^ k = z at hm
    omega
  rw [e, u64_or_nat _ _ (by omega) hm]
  congr 1
  rw [← pow8] at hs ⊢
  rw [Nat.or_comm, Nat.mul_comm, ← Nat.two_pow_add_eq_or_of_lt hs]
  omega
theorem num_step {xs : List UInt8} {k : Nat} (hk : k < xs.length) : leNat (xs.take (k + 1)) = leNat (xs.take k) + xs[k].toNat * 256 ^ k := by
  rw [List.take_succ_eq_append_getElem hk, leNat_snoc, List.length_take, Nat.min_eq_left (Nat.le_of_lt hk)]
theorem take_lt (xs : List UInt8) {k : Nat} (h : k ≤ xs.length) : leNat (xs.take k) < 256 ^ k := by
  have := leNat_lt (xs.take k)
  rwa [List.length_take, Nat.min_eq_left h] at this
set_option maxHeartbeats 1000000 in
theorem number_any (xs : List UInt8) (c B : Nat) (A : Option Addr) (w : World) (hr : Rd w B A (cb xs)) (hn : xs.length ≤ 8) :
    Calls Tryd.prog 98 #[.slice A xs.length c] w fun e w' => e = .returned (.int .u64 (leNat xs : Nat)) ∧ w = w' := by
  go_enter Tryd.func98, Tryd.ntmps98
  go_wp2_with fail
  go_loop [3, 7] (fun a i => ∃ k s : Nat, k ≤ xs.length ∧ i = .int .i64 k ∧ a = .int .u64 s ∧ Hid (s = leNat (xs.take k))) (fun _ i => xs.length - (intOf i).toNat)
  case atStart => exact ⟨0, 0, Nat.zero_le _, rfl, rfl, Lib.hid (by simp [leNat])⟩
  case round =>
    obtain ⟨k, s, hk, rfl, rfl, HS⟩ := hrel
    by_cases hlt : k < xs.length
    · obtain ⟨b, off, rfl, _, hc⟩ := rdb_at hr hlt
      have hor := or_byte (s := s) (c := xs[k]) (by omega : k < 8) (by rw [HS.out]; exact take_lt xs hk)
      have HT := Lib.hid (show s + xs[k].toNat * 256 ^ k = leNat (xs.take (k + 1)) by rw [num_step hlt, HS.out])
      generalize s + xs[k].toNat * 256 ^ k = t at hor HT
      clear HS
      have hby : (xs[k].toNat : Int) ≤ 255 := by have := UInt8.toNat_lt xs[k]; omega
      go_wp2_with fail
      go_round
      case rel => exact ⟨k + 1, t, by omega, by simp, rfl, HT⟩
      case measure => simp [intOf]; omega
    · have e : k = xs.length := by omega
      have HE := Lib.hid (show s = leNat xs by rw [HS.out, e, List.take_length])
      subst e
      go_wp2_with fail
      go_ret
      exact ⟨by rw [HE.out]; rfl, rfl⟩

def resNum (xs : List UInt8) (m : Nat) : Nat := if xs.length < m then 0 else leNat (xs.take m)
def errNum (xs : List UInt8) (m : Nat) : Nat := if xs.length < m then 4 else 0
set_option maxHeartbeats 1000000 in
theorem get_any (xs : List UInt8) (c B : Nat) (A : Option Addr) (n : Int) (w : World) (hr : Rd w B A (cb xs)) (hc : xs.length ≤ c) :
    Calls Tryd.prog 45 #[.slice A xs.length c, .int .i64 n] w fun e w' => e = .returned (.tuple #[.int .u64 (resNum xs (min n.toNat 8) : Nat), .int .i64 (errNum xs (min n.toNat 8) : Nat)]) ∧ w = w' := by
  have HC : Calls Tryd.prog 96 #[.int .i64 n] w (fun e w'' => e = .returned (.int .i64 (min n.toNat 8 : Nat)) ∧ w = w'') := byteCount_any n w
  have hm8 : min n.toNat 8 ≤ 8 := by omega
  generalize min n.toNat 8 = m at HC hm8
  by_cases hlt : xs.length < m
  · go_enter Tryd.func45, Tryd.ntmps45
    go_wp2_with (go_at_call 96; (with_reducible refine HC.mono ?_); rintro e w' ⟨rfl, rfl⟩)
    go_ret2
    exact ⟨by unfold resNum errNum; rw [if_pos hlt, if_pos hlt]; rfl, rfl⟩
  · have hN := number_any (xs.take m) c B A w (by rw [← cb_take]; exact hr.take_ m) (by rw [List.length_take]; omega)
    rw [List.length_take, Nat.min_eq_left (by omega)] at hN
    have HE := Lib.hid (show resNum xs m = leNat (xs.take m) ∧ errNum xs m = 0 from ⟨if_neg hlt, if_neg hlt⟩)
    go_enter Tryd.func45, Tryd.ntmps45
    go_wp2_with (first
      | (go_at_call 96; (with_reducible refine HC.mono ?_); rintro e w' ⟨rfl, rfl⟩)
      | (go_at_call 98; (with_reducible refine hN.mono ?_); rintro e w' ⟨rfl, rfl⟩))
    all_goals go_ret2
    all_goals exact ⟨by rw [HE.out.1, HE.out.2]; rfl, rfl⟩

theorem leNat_drop {xs : List UInt8} {m j : Nat} (h : j < m) (hm : m ≤ xs.length) : leNat ((xs.take m).drop j) = (xs[j]'(by omega)).toNat + 256 * leNat ((xs.take m).drop (j + 1)) := by
  rw [List.drop_eq_getElem_cons (by rw [List.length_take]; omega)]
  simp [leNat]
theorem leNat_drop_lt (xs : List UInt8) (m j : Nat) (hm : m ≤ 8) : leNat ((xs.take m).drop (j + 1)) < 256 ^ 7 ∨ m ≤ j := by
  rcases Nat.lt_or_ge j m with h | h
  · have h1 := leNat_lt ((xs.take m).drop (j + 1))
    have h2 : 256 ^ ((xs.take m).drop (j + 1)).length ≤ 256 ^ 7 := Nat.pow_le_pow_right (by decide) (by simp; omega)
    exact .inl (Nat.lt_of_lt_of_le h1 h2)
  · exact .inr h
set_option maxHeartbeats 1000000 in
theorem rget_any (xs : List UInt8) (c B : Nat) (A : Option Addr) (n : Int) (w : World) (hr : Rd w B A (cb xs)) :
    Calls Tryd.prog 46 #[.slice A xs.length c, .int .i64 n] w fun e w' => e = .returned (.tuple #[.int .u64 (resNum xs (min n.toNat 8) : Nat), .bool (decide (errNum xs (min n.toNat 8) = 0))]) ∧ w = w' := by
  have HC : Calls Tryd.prog 99 #[.int .i64 n] w (fun e w'' => e = .returned (.int .i64 (min n.toNat 8 : Nat)) ∧ w = w'') := rclip_any n w
  have hm8 : min n.toNat 8 ≤ 8 := by omega
  generalize min n.toNat 8 = m at HC hm8
  by_cases hlt : xs.length < m
  · go_enter Tryd.func46, Tryd.ntmps46
    go_wp2_with (go_at_call 99; (with_reducible refine HC.mono ?_); rintro e w' ⟨rfl, rfl⟩)
    go_ret2
    exact ⟨by unfold resNum errNum; rw [if_pos hlt, if_pos hlt]; rfl, rfl⟩
  · have HE := Lib.hid (show resNum xs m = leNat (xs.take m) ∧ decide (errNum xs m = 0) = true from ⟨if_neg hlt, by unfold errNum; rw [if_neg hlt]; rfl⟩)
    go_enter Tryd.func46, Tryd.ntmps46
    go_wp2_with (go_at_call 99; (with_reducible refine HC.mono ?_); rintro e w' ⟨rfl, rfl⟩)
    go_loop [6, 7] (fun a i => ∃ j s : Nat, j ≤ m ∧ i = .int .i64 ((j : Int) - 1) ∧ a = .int .u64 s ∧ Hid (s = leNat ((xs.take m).drop j))) (fun _ i => (intOf i + 1).toNat)
    case atStart => exact ⟨m, 0, Nat.le_refl _, rfl, rfl, Lib.hid (by rw [List.drop_eq_nil_of_le (by simp; omega)]; rfl)⟩
    case round =>
      obtain ⟨j, s, hj, rfl, rfl, HS⟩ := hrel
      rcases Nat.eq_zero_or_pos j with h0 | h0
      · subst h0
        have HS2 := Lib.hid (show s = leNat (xs.take m) by rw [HS.out, List.drop_zero])
        go_wp2_with fail
        go_ret2
        exact ⟨by rw [HE.out.1, HE.out.2, HS2.out]; rfl, rfl⟩
      · obtain ⟨i, rfl⟩ : ∃ i, j = i + 1 := ⟨j - 1, by omega⟩
        have hi : i < xs.length := by omega
        obtain ⟨b, off, rfl, _, hcell⟩ := rdb_at hr hi
        have hs7 : s < 256 ^ 7 := by
          rcases leNat_drop_lt xs m i hm8 with h | h
          · rw [HS.out]; exact h
          · omega
        have hby : (xs[i].toNat : Int) ≤ 255 := by have := UInt8.toNat_lt xs[i]; omega
        have HT := Lib.hid (show s * 256 + xs[i].toNat = leNat ((xs.take m).drop i) by rw [leNat_drop (by omega) (by omega), HS.out]; omega)
        rw [show 256 ^ 7 = 72057594037927936 from rfl] at hs7
        go_wp2_with fail
        go_round
        case rel => exact ⟨i, s * 256 + xs[i].toNat, by omega, rfl, by simp, HT⟩
        case measure => simp [intOf]
end Go.Proofs.YtdcehjdngjafoaaDoor.Fl
