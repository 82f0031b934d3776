/-
  Contracts of package head: Pack, where nothing is wrong; Cells; Unpack.
-/
import Derived.Test.YtahmljjjdoaahaaDoorPHead
namespace Go.Proofs.YtahmljjjdoaahaaDoor.Fl
open Go.RowKit

def pkI (kind size hash : Int) (mark : Bool) : Int := (pk kind.toNat size.toNat hash.toNat mark : Nat)
theorem pk_w {kind size hash : Int} (k0 : 0 ≤ kind) (k1 : kind ≤ 2) (s0 : 0 ≤ size) (s1 : size ≤ 1048576) (z0 : 0 ≤ hash) (z1 : hash < 16777216) :
    bits .or .u64 (bits .or .u64 size (kind * 4294967296)) (hash * 1099511627776) = pkI kind size hash false := by
  obtain ⟨k, rfl⟩ := Int.eq_ofNat_of_zero_le k0
  obtain ⟨s, rfl⟩ := Int.eq_ofNat_of_zero_le s0
  obtain ⟨z, rfl⟩ := Int.eq_ofNat_of_zero_le z0
  have e1 : (k : Int) * 4294967296 = ((k * 4294967296 : Nat) : Int) := by omega
  have e2 : (z : Int) * 1099511627776 = ((z * 1099511627776 : Nat) : Int) := by omega
  rw [e1, e2, u64_or_nat _ _ (by omega) (by omega), or_kind (by omega), u64_or_nat _ _ (by omega) (by omega), or_hash (by omega) (by omega)]
  rfl
theorem pk_w2 {kind size hash : Int} (k0 : 0 ≤ kind) (k1 : kind ≤ 2) (s0 : 0 ≤ size) (s1 : size ≤ 1048576) (z0 : 0 ≤ hash) (z1 : hash < 16777216) :
    bits .or .u64 (bits .or .u64 (bits .or .u64 size (kind * 4294967296)) (hash * 1099511627776)) 68719476736 = pkI kind size hash true := by
  rw [pk_w k0 k1 s0 s1 z0 z1]
  unfold pkI
  have hl := pk_lt (kind := kind.toNat) (size := size.toNat) (hash := hash.toNat) (mark := false) (by omega) (by omega) (by omega)
  rw [show (68719476736 : Int) = ((68719476736 : Nat) : Int) from rfl, u64_or_nat _ _ hl (by omega), or_mark (by omega) (by omega)]
theorem pkI_lt {kind size hash : Int} (mark : Bool) (k0 : 0 ≤ kind) (k1 : kind ≤ 2) (s0 : 0 ≤ size) (s1 : size ≤ 1048576) (z0 : 0 ≤ hash) (z1 : hash < 16777216) : 0 ≤ pkI kind size hash mark ∧ pkI kind size hash mark < 18446744073709551616 := by
  have := pk_lt (kind := kind.toNat) (size := size.toNat) (hash := hash.toNat) (mark := mark) (by omega) (by omega) (by omega)
  unfold pkI; omega
set_option maxHeartbeats 1000000 in
theorem pack_yes (cl kind size hash : Int) (mark : Bool) (w : World) (c0 : 0 ≤ cl) (c1 : cl ≤ 18446744073709551615) (z0 : 0 ≤ hash) (hE : hErr cl kind size hash = 0) :
    Calls Tryd.prog 34 #[.agg #[.int .u64 cl, .int .i64 kind, .int .i64 size, .int .u32 hash, .bool mark]] w fun e w' => e = .returned (.tuple #[.agg #[.int .u64 cl, .int .u64 (pkI kind size hash mark)], .int .i64 0]) ∧ Below w.heap.size w w' := by
  have hw := fun w' => wrong_any cl kind size hash mark w' c0 c1
  rw [hE] at hw
  obtain ⟨_, ⟨s0, s1⟩, h0, ⟨k0, k1⟩⟩ := hErr_ok hE
  have H1 := Lib.hid (pk_w k0 k1 s0 s1 z0 h0)
  have H2 := Lib.hid (pk_w2 k0 k1 s0 s1 z0 h0)
  clear hE c1
  cases mark
  all_goals
    go_enter Tryd.func34, Tryd.ntmps34
    go_wp2_with fail
    refine (hw _).mono ?_
    rintro e w1 ⟨rfl, hb⟩
    obtain ⟨hc, hf⟩ := bcell hb
    have hs := hb.size
    simp at hs
    have hbw : Below w.heap.size w w1 := (((Below.refl _ _).alloc (Nat.le_refl _) _).alloc (by simp) _).trans (hb.mono (by simp; omega))
    go_wp2_with fail
  · exact bodyPost_ret (v := .tuple #[.agg #[.int .u64 cl, .int .u64 (pkI kind size hash false)], .int .i64 0]) (by rw [H1.out]; simp [results, Tryd.results34, go_sem, hc]) rfl ⟨rfl, (hbw.setCell (by simp) _).setCell (by simp) _⟩
  · exact bodyPost_ret (v := .tuple #[.agg #[.int .u64 cl, .int .u64 (pkI kind size hash true)], .int .i64 0]) (by rw [H2.out]; simp [results, Tryd.results34, go_sem, hc]) rfl ⟨rfl, (hbw.setCell (by simp) _).setCell (by simp) _⟩

/-- Pack, whatever the head -/
def pkW (cl kind size hash : Int) (mark : Bool) : Int := if hErr cl kind size hash = 0 then pkI kind size hash mark else 0
def pkC (cl kind size hash : Int) : Int := if hErr cl kind size hash = 0 then cl else 0
theorem pack_any (cl kind size hash : Int) (mark : Bool) (w : World) (c0 : 0 ≤ cl) (c1 : cl ≤ 18446744073709551615) (z0 : 0 ≤ hash) :
    Calls Tryd.prog 34 #[.agg #[.int .u64 cl, .int .i64 kind, .int .i64 size, .int .u32 hash, .bool mark]] w fun e w' => e = .returned (.tuple #[.agg #[.int .u64 (pkC cl kind size hash), .int .u64 (pkW cl kind size hash mark)], .int .i64 (hErr cl kind size hash)]) ∧ Below w.heap.size w w' := by
  unfold pkW pkC
  by_cases hE : hErr cl kind size hash = 0
  · rw [if_pos hE, if_pos hE, hE]; exact pack_yes cl kind size hash mark w c0 c1 z0 hE
  · rw [if_neg hE, if_neg hE]; exact pack_no cl kind size hash mark w c0 c1 hE

/-! ### Cells -/
def cellsI (cl kind size hash : Int) : Int := if hErr cl kind size hash = 0 then if kind = 2 then (size + 7) / 8 else size else 0
theorem cells_any (cl kind size hash : Int) (mark : Bool) (w : World) (c0 : 0 ≤ cl) (c1 : cl ≤ 18446744073709551615) :
    Calls Tryd.prog 35 #[.agg #[.int .u64 cl, .int .i64 kind, .int .i64 size, .int .u32 hash, .bool mark]] w fun e w' => e = .returned (.int .i64 (cellsI cl kind size hash)) ∧ Below w.heap.size w w' := by
  have hw := fun w' => wrong_any cl kind size hash mark w' c0 c1
  unfold cellsI
  by_cases hE : hErr cl kind size hash = 0
  · rw [if_pos hE]
    rw [hE] at hw
    obtain ⟨_, ⟨s0, s1⟩, h0, ⟨k0, k1⟩⟩ := hErr_ok hE
    clear hE c1
    by_cases hk : kind = 2
    · have hk' : (kind == 2) = true := by simp [hk]
      rw [if_pos hk]
      clear hk
      go_enter Tryd.func35, Tryd.ntmps35
      go_wp2_with fail
      refine (hw _).mono ?_
      rintro e w1 ⟨rfl, hb⟩
      obtain ⟨hc, hf⟩ := bcell hb
      have hs := hb.size
      simp at hs
      have hbw : Below w.heap.size w w1 := ((Below.refl _ _).alloc (Nat.le_refl _) _).trans (hb.mono (by simp))
      go_wp2_with fail
      go_ret
      exact ⟨retI (by omega), hbw⟩
    · have hk' : (kind == 2) = false := by simp [hk]
      rw [if_neg hk]
      clear hk
      go_enter Tryd.func35, Tryd.ntmps35
      go_wp2_with fail
      refine (hw _).mono ?_
      rintro e w1 ⟨rfl, hb⟩
      obtain ⟨hc, hf⟩ := bcell hb
      have hs := hb.size
      simp at hs
      have hbw : Below w.heap.size w w1 := ((Below.refl _ _).alloc (Nat.le_refl _) _).trans (hb.mono (by simp))
      go_wp2_with fail
      go_ret
      exact ⟨rfl, hbw⟩
  · rw [if_neg hE]
    have hne : (hErr cl kind size hash != 0) = true := by simp [hE]
    generalize hErr cl kind size hash = E at hw hne
    clear hE c1
    go_enter Tryd.func35, Tryd.ntmps35
    go_wp2_with fail
    refine (hw _).mono ?_
    rintro e w1 ⟨rfl, hb⟩
    have hbw : Below w.heap.size w w1 := ((Below.refl _ _).alloc (Nat.le_refl _) _).trans (hb.mono (by simp))
    go_wp2_with fail
    go_ret
    exact ⟨rfl, hbw⟩

/-! ### Unpack -/
def zK (b : Int) : Int := (zKind b.toNat : Nat)
def zS (b : Int) : Int := (zSize b.toNat : Nat)
def zH (b : Int) : Int := (zHash b.toNat : Nat)
def zM (b : Int) : Bool := zMark b.toNat
def Fine (a b : Int) : Prop := hErr a (zK b) (zS b) (zH b) = 0 ∧ zGap b.toNat = 0
theorem and_mask {b : Nat} (m : Nat) (h : b < 18446744073709551616) (hm : m ≤ 64) : bits .and .u64 (b : Int) ((2 ^ m - 1 : Nat) : Int) = ((b % 2 ^ m : Nat) : Int) := by
  have hp : 2 ^ m ≤ 2 ^ 64 := Nat.pow_le_pow_right (by decide) hm
  have e64 : (2 : Nat) ^ 64 = 18446744073709551616 := by decide
  have h1 : 1 ≤ 2 ^ m := Nat.one_le_two_pow
  rw [u64_and_nat _ _ h (by omega), Nat.and_two_pow_sub_one_eq_mod]
theorem w_kind {b : Int} (h0 : 0 ≤ b) (h1 : b ≤ 18446744073709551615) : bits .and .u64 (b / 4294967296) 15 = zK b := by
  obtain ⟨n, rfl⟩ := Int.eq_ofNat_of_zero_le h0
  have := and_mask (b := n / 4294967296) 4 (by omega) (by omega)
  rw [show (n : Int) / 4294967296 = ((n / 4294967296 : Nat) : Int) by omega]
  exact this
theorem w_size {b : Int} (h0 : 0 ≤ b) (h1 : b ≤ 18446744073709551615) : bits .and .u64 b 4294967295 = zS b := by
  obtain ⟨n, rfl⟩ := Int.eq_ofNat_of_zero_le h0
  exact and_mask (b := n) 32 (by omega) (by omega)
theorem w_hash {b : Int} (h0 : 0 ≤ b) : b / 1099511627776 = zH b := by
  obtain ⟨n, rfl⟩ := Int.eq_ofNat_of_zero_le h0
  unfold zH zHash
  rw [Int.toNat_natCast]; omega
theorem w_mark {b : Int} (h0 : 0 ≤ b) (h1 : b ≤ 18446744073709551615) : (bits .and .u64 (b / 68719476736) 1 == 1) = zM b := by
  rw [and1 (by omega) (by omega)]
  obtain ⟨n, rfl⟩ := Int.eq_ofNat_of_zero_le h0
  unfold zM zMark
  rw [Int.toNat_natCast, Bool.eq_iff_iff]
  simp only [beq_iff_eq, decide_eq_true_eq]
  omega
theorem zK_bd (b : Int) : 0 ≤ zK b ∧ zK b ≤ 15 := by unfold zK zKind; omega
theorem zS_bd (b : Int) : 0 ≤ zS b ∧ zS b ≤ 4294967295 := by unfold zS zSize; omega
theorem zH_bd {b : Int} (h1 : b ≤ 18446744073709551615) : 0 ≤ zH b ∧ zH b < 16777216 := by unfold zH zHash; omega
theorem pkI_back {b : Int} (h0 : 0 ≤ b) : pkI (zK b) (zS b) (zH b) (zM b) = b ↔ zGap b.toNat = 0 := by
  obtain ⟨n, rfl⟩ := Int.eq_ofNat_of_zero_le h0
  unfold pkI zK zS zH zM
  simp only [Int.toNat_natCast]
  constructor
  · intro h
    exact pk_gap (by exact_mod_cast h)
  · intro h
    rw [pk_back h]
theorem eq_pair (a b c d : Int) (w : World) : (Op.equalIn 10000 92 (.agg #[.int .u64 a, .int .u64 b]) (.agg #[.int .u64 c, .int .u64 d])).run Tryd.prog w = .ok (a == c && b == d) w := by
  have u3 := Tryd.underlying38
  have a3 := Tryd.isAgg38
  have z3 := Tryd.sizeOf38
  rw [show (10000 : Nat) = 9999 + 1 from rfl, Op.equalIn]
  simp only [Sem.run_bind, run_underlying Tryd.underlying92, Result.andThen_ok]
  simp only [Std.Legacy.Range.forIn_eq_forIn_range', Std.Legacy.Range.size, Nat.sub_zero, Nat.add_sub_cancel, Nat.div_one, List.range'_succ, List.range'_zero, List.forIn_cons, List.forIn_nil]
  go_simp
  by_cases h1 : a = c <;> by_cases h2 : b = d <;> simp [h1, h2]
set_option maxHeartbeats 1000000 in
theorem unpack_yes (a b : Int) (w : World) (a0 : 0 ≤ a) (a1 : a ≤ 18446744073709551615) (b0 : 0 ≤ b) (b1 : b ≤ 18446744073709551615) (hE : hErr a (zK b) (zS b) (zH b) = 0) (hG : zGap b.toNat = 0) :
    Calls Tryd.prog 48 #[.agg #[.int .u64 a, .int .u64 b]] w fun e w' => e = .returned (.tuple #[.agg #[.int .u64 a, .int .i64 (zK b), .int .i64 (zS b), .int .u32 (zH b), .bool (zM b)], .int .i64 0]) ∧ Below w.heap.size w w' := by
  have hp := fun w' => pack_yes a (zK b) (zS b) (zH b) (zM b) w' a0 a1 (zH_bd b1).1 hE
  rw [(pkI_back b0).2 hG] at hp
  have e1 := w_kind b0 b1
  have e2 := w_size b0 b1
  have e3 := w_hash b0
  have e4 := w_mark b0 b1
  have k := zK_bd b
  have s := zS_bd b
  have z := zH_bd b1
  clear hE hG
  generalize zK b = K at *
  generalize zS b = S at *
  generalize zH b = H at *
  generalize zM b = M at *
  obtain ⟨k0, k1⟩ := k
  obtain ⟨s0, s1⟩ := s
  obtain ⟨z0, z1⟩ := z
  clear a1 b1
  have hq := eq_pair a b a b
  rw [show (a == a && b == b) = true by simp] at hq
  go_enter Tryd.func48, Tryd.ntmps48
  go_wp2_with fail
  refine (hp _).mono ?_
  rintro e w1 ⟨rfl, hb⟩
  obtain ⟨hc, hf⟩ := bcell hb
  have hs := hb.size
  simp at hs
  have hz0 : w.heap.size < w1.heap.size := by omega
  have hz1 : w.heap.size + 1 < w1.heap.size := by omega
  have hz2 : w.heap.size + 1 + 1 < w1.heap.size := by omega
  have hbw : Below w.heap.size w w1 := ((((Below.refl _ _).alloc (Nat.le_refl _) _).alloc (by simp) _).alloc (by simp; omega) _).trans (hb.mono (by simp; omega))
  go_wp2_with fail
  exact bodyPost_ret (v := .tuple #[.agg #[.int .u64 a, .int .i64 K, .int .i64 S, .int .u32 H, .bool M], .int .i64 0]) (by simp [results, Tryd.results48, go_sem, hc, hz1]) rfl ⟨rfl, (((((hbw.setCell (by simp) _).setCell (by simp) _).setCell (by simp) _).setCell (by simp) _).setCell (by simp) _).alloc (by simp; omega) _⟩
set_option maxHeartbeats 1000000 in
theorem unpack_bad (a b : Int) (w : World) (a0 : 0 ≤ a) (a1 : a ≤ 18446744073709551615) (b0 : 0 ≤ b) (b1 : b ≤ 18446744073709551615) (hE : hErr a (zK b) (zS b) (zH b) ≠ 0) :
    Calls Tryd.prog 48 #[.agg #[.int .u64 a, .int .u64 b]] w fun e w' => e = .returned (.tuple #[.agg #[.int .u64 0, .int .i64 0, .int .i64 0, .int .u32 0, .bool false], .int .i64 3]) ∧ Below w.heap.size w w' := by
  have hp := fun w' => pack_no a (zK b) (zS b) (zH b) (zM b) w' a0 a1 hE
  have hne : (hErr a (zK b) (zS b) (zH b) != 0) = true := by simp [hE]
  clear hE
  generalize hErr a (zK b) (zS b) (zH b) = E at hp hne
  have e1 := w_kind b0 b1
  have e2 := w_size b0 b1
  have e3 := w_hash b0
  have e4 := w_mark b0 b1
  have k := zK_bd b
  have s := zS_bd b
  have z := zH_bd b1
  generalize zK b = K at *
  generalize zS b = S at *
  generalize zH b = H at *
  generalize zM b = M at *
  obtain ⟨k0, k1⟩ := k
  obtain ⟨s0, s1⟩ := s
  obtain ⟨z0, z1⟩ := z
  clear a1 b1
  go_enter Tryd.func48, Tryd.ntmps48
  go_wp2_with fail
  refine (hp _).mono ?_
  rintro e w1 ⟨rfl, hb⟩
  obtain ⟨hc, hf⟩ := bcell hb
  have hs := hb.size
  simp at hs
  have hz0 : w.heap.size < w1.heap.size := by omega
  have hz1 : w.heap.size + 1 < w1.heap.size := by omega
  have hz2 : w.heap.size + 1 + 1 < w1.heap.size := by omega
  have hbw : Below w.heap.size w w1 := ((((Below.refl _ _).alloc (Nat.le_refl _) _).alloc (by simp) _).alloc (by simp; omega) _).trans (hb.mono (by simp; omega))
  go_wp2_with fail
  exact bodyPost_ret (v := .tuple #[.agg #[.int .u64 0, .int .i64 0, .int .i64 0, .int .u32 0, .bool false], .int .i64 3]) (by simp [results, Tryd.results48, go_sem, hc, hz1]) rfl ⟨rfl, (((((hbw.setCell (by simp) _).setCell (by simp) _).setCell (by simp) _).setCell (by simp) _).setCell (by simp) _).alloc (by simp; omega) _⟩
set_option maxHeartbeats 1000000 in
theorem unpack_gap (a b : Int) (w : World) (a0 : 0 ≤ a) (a1 : a ≤ 18446744073709551615) (b0 : 0 ≤ b) (b1 : b ≤ 18446744073709551615) (hE : hErr a (zK b) (zS b) (zH b) = 0) (hG : zGap b.toNat ≠ 0) :
    Calls Tryd.prog 48 #[.agg #[.int .u64 a, .int .u64 b]] w fun e w' => e = .returned (.tuple #[.agg #[.int .u64 0, .int .i64 0, .int .i64 0, .int .u32 0, .bool false], .int .i64 3]) ∧ Below w.heap.size w w' := by
  have hp := fun w' => pack_yes a (zK b) (zS b) (zH b) (zM b) w' a0 a1 (zH_bd b1).1 hE
  have hne : (pkI (zK b) (zS b) (zH b) (zM b) == b) = false := by
    rw [beq_eq_false_iff_ne]
    exact fun e => hG ((pkI_back b0).1 e)
  have hq := eq_pair a (pkI (zK b) (zS b) (zH b) (zM b)) a b
  rw [show (a == a && pkI (zK b) (zS b) (zH b) (zM b) == b) = false by rw [hne]; simp] at hq
  clear hne
  generalize pkI (zK b) (zS b) (zH b) (zM b) = X at hp hq
  have e1 := w_kind b0 b1
  have e2 := w_size b0 b1
  have e3 := w_hash b0
  have e4 := w_mark b0 b1
  have k := zK_bd b
  have s := zS_bd b
  have z := zH_bd b1
  clear hE hG
  generalize zK b = K at *
  generalize zS b = S at *
  generalize zH b = H at *
  generalize zM b = M at *
  obtain ⟨k0, k1⟩ := k
  obtain ⟨s0, s1⟩ := s
  obtain ⟨z0, z1⟩ := z
  clear a1 b1
  go_enter Tryd.func48, Tryd.ntmps48
  go_wp2_with fail
  refine (hp _).mono ?_
  rintro e w1 ⟨rfl, hb⟩
  obtain ⟨hc, hf⟩ := bcell hb
  have hs := hb.size
  simp at hs
  have hz0 : w.heap.size < w1.heap.size := by omega
  have hz1 : w.heap.size + 1 < w1.heap.size := by omega
  have hz2 : w.heap.size + 1 + 1 < w1.heap.size := by omega
  have hbw : Below w.heap.size w w1 := ((((Below.refl _ _).alloc (Nat.le_refl _) _).alloc (by simp) _).alloc (by simp; omega) _).trans (hb.mono (by simp; omega))
  go_wp2_with fail
  exact bodyPost_ret (v := .tuple #[.agg #[.int .u64 0, .int .i64 0, .int .i64 0, .int .u32 0, .bool false], .int .i64 3]) (by simp [results, Tryd.results48, go_sem, hc, hz1]) rfl ⟨rfl, (((((hbw.setCell (by simp) _).setCell (by simp) _).setCell (by simp) _).setCell (by simp) _).setCell (by simp) _).alloc (by simp; omega) _⟩
end Go.Proofs.YtahmljjjdoaahaaDoor.Fl
