/-
  Contracts of the checksum: the document's Crc, Sum.Add, Sum.Value, Crc.
-/
import Derived.Test.YtahmljjjdoaahaaDoorProg
import Derived.Test.YtahmljjjdoaahaaDoorPMem
import Derived.Test.YtahmljjjdoaahaaDoorPMath
import Derived.WalkSpells
import Derived.WalkLawsBesides
import Derived.Deep.QuietTactic
import Derived.BigQuiet
import Derived.Lib.Hide
import Derived.Deep.OwnRows
import Derived.Lib.TrailingZeros
import Derived.Laws.Bits64b
import Derived.Deep.DeepCutAuto
import Derived.LoopTactic
namespace Go.Proofs.YtahmljjjdoaahaaDoor.Fl
open Go.RowKit
attribute [local irreducible] crcBit crcBits crcByte crcAll compl upd

theorem take_snoc8 (xs : List UInt8) (k : Nat) (h : k < xs.length) : xs.take (k + 1) = xs.take k ++ [xs[k]] := List.take_succ_eq_append_getElem h
theorem crc_take (s : Nat) (xs : List UInt8) (k : Nat) (h : k < xs.length) : crcAll s (xs.take (k + 1)) = crcByte (crcAll s (xs.take k)) xs[k] := by rw [take_snoc8 xs k h, crcAll_snoc]
theorem byte_w {s : Nat} {c : UInt8} (h : s < 4294967296) : bits .xor .u32 (s : Int) (c.toNat : Int) = ((s ^^^ c.toNat : Nat) : Int) := u32_xor_nat _ _ h (by have := UInt8.toNat_lt c; omega)
theorem crcByte_eq (s : Nat) (c : UInt8) : crcByte s c = crcBits 8 (s ^^^ c.toNat) := by unfold crcByte; rfl

theorem bit_yes {t : Nat} (ht : t < 4294967296) (h : t % 2 = 1) : bits .xor .u32 ((t : Int) / 2) 3988292384 = (crcBit t : Nat) := by
  rw [show ((t : Int) / 2) = ((t / 2 : Nat) : Int) by omega, show (3988292384 : Int) = ((3988292384 : Nat) : Int) from rfl, u32_xor_nat _ _ (by omega) (by omega)]
  unfold crcBit; rw [if_pos h]
theorem bit_no {t : Nat} (h : ¬ t % 2 = 1) : ((t : Int) / 2) = (crcBit t : Nat) := by
  unfold crcBit; rw [if_neg h, Nat.xor_zero]; omega
theorem crcBits_succ (k s : Nat) : crcBits (k + 1) s = crcBits k (crcBit s) := by rw [crcBits]
theorem compl_zero : compl 0 = 4294967295 := by unfold compl; rfl
theorem crcBits_left {j t : Nat} (h : j < 8) : crcBits (8 - j) t = crcBits (8 - (j + 1)) (crcBit t) := by
  rw [show 8 - j = (8 - (j + 1)) + 1 by omega, crcBits_succ]
theorem and_one32 {t : Nat} (ht : t < 4294967296) (h : t % 2 = 1) : bits .and .u32 (t : Int) 1 = 1 := by
  rw [show (1 : Int) = ((1 : Nat) : Int) from rfl, u32_and_nat _ _ ht (by omega), nat_mask1, h]
theorem and_zero32 {t : Nat} (ht : t < 4294967296) (h : ¬ t % 2 = 1) : bits .and .u32 (t : Int) 1 = 0 := by
  rw [show (1 : Int) = ((1 : Nat) : Int) from rfl, u32_and_nat _ _ ht (by omega), nat_mask1, show t % 2 = 0 by omega]; rfl
theorem mask_yes : bits .and .u32 3988292384 4294967295 = 3988292384 := by decide
theorem mask_no : bits .and .u32 3988292384 0 = 0 := by decide
theorem bit_no' {t : Nat} (ht : t < 4294967296) (h : ¬ t % 2 = 1) : bits .xor .u32 ((t : Int) / 2) 0 = (crcBit t : Nat) := by
  rw [show ((t : Int) / 2) = ((t / 2 : Nat) : Int) by omega, show (0 : Int) = ((0 : Nat) : Int) from rfl, u32_xor_nat _ _ (by omega) (by omega)]
  unfold crcBit; rw [if_neg h]
theorem val_u32 {a b : Int} (h : a = b) : Value.int .u32 a = .int .u32 b := by rw [h]
theorem ret_u32 {a b : Int} (h : a = b) : Ending.returned (.int .u32 a) = .returned (.int .u32 b) := by rw [h]

end Go.Proofs.YtahmljjjdoaahaaDoor.Fl

/-
  Contracts of package pack's sets: NewBits, Size, may, Has, Set, below, list.
-/
namespace Go.Proofs.YtahmljjjdoaahaaDoor.Fl
open Go.RowKit

def cw (ws : List Nat) : List Value := ws.map fun x : Nat => .int .u64 (x : Int)
theorem cw_len (ws : List Nat) : (cw ws).length = ws.length := by simp [cw]
theorem cw_at (ws : List Nat) (k : Nat) (h : k < ws.length) : (cw ws)[k]? = some (.int .u64 (ws[k] : Int)) := by simp [cw, h]
def bitAt (ws : List Nat) (i : Nat) : Bool := decide ((ws.getD (i / 64) 0) / 2 ^ (i % 64) % 2 = 1)
/-- a set's two blocks: the head, and its words (with whatever room behind) -/
structure BitsAt (w : World) (g g2 n : Nat) (ws : List Nat) : Prop where
  hd : ∃ c : Nat, w.heap[g]? = some (.cells #[.int .i64 (n : Int), .slice (some ⟨g2, 0, none⟩) ws.length c] 124 (0, 0))
  wd : ∃ cur : Array Value, w.heap[g2]? = some (.cells cur 37 (0, 0)) ∧ cur.toList.take ws.length = cw ws
  len : ws.length = (n + 63) / 64
  lt : ∀ x ∈ ws, x < 18446744073709551616
  top : ∀ k, n ≤ k → bitAt ws k = false
  small : n ≤ 16777216
section
variable {w w' : World} {g g2 n : Nat} {ws : List Nat}
theorem BitsAt.c0 (h : BitsAt w g g2 n ws) : w.cell? ⟨g, 0, none⟩ = some (.int .i64 (n : Int)) := by
  obtain ⟨c, hc⟩ := h.hd
  exact cell_of_row _ _ _ _ _ _ hc
theorem BitsAt.c1 (h : BitsAt w g g2 n ws) : ∃ c : Nat, w.cell? ⟨g, 1, none⟩ = some (.slice (some ⟨g2, 0, none⟩) ws.length c) := by
  obtain ⟨c, hc⟩ := h.hd
  exact ⟨c, cell_of_row _ _ _ _ _ _ hc⟩
theorem BitsAt.cw_ (h : BitsAt w g g2 n ws) {k : Nat} (hk : k < ws.length) : w.cell? ⟨g2, k, none⟩ = some (.int .u64 (ws[k] : Int)) := by
  obtain ⟨cur, hc, ht⟩ := h.wd
  have := cell_of_row _ g2 k _ _ _ hc
  rw [this, ← cw_at ws k hk, ← ht, List.getElem?_take, if_pos hk]; simp
theorem BitsAt.free (h : BitsAt w g g2 n ws) (k : Nat) : w.frozen? ⟨g2, k, none⟩ = false := by
  obtain ⟨cur, hc, _⟩ := h.wd
  simp [World.frozen?, hc]
theorem BitsAt.gl (h : BitsAt w g g2 n ws) : g < w.heap.size := by
  rcases Nat.lt_or_ge g w.heap.size with h1 | h1
  · exact h1
  · obtain ⟨c, hc⟩ := h.hd; rw [Array.getElem?_eq_none h1] at hc; cases hc
theorem BitsAt.gl2 (h : BitsAt w g g2 n ws) : g2 < w.heap.size := by
  rcases Nat.lt_or_ge g2 w.heap.size with h1 | h1
  · exact h1
  · obtain ⟨cur, hc, _⟩ := h.wd; rw [Array.getElem?_eq_none h1] at hc; cases hc
theorem BitsAt.at_ (h : BitsAt w g g2 n ws) (h1 : w'.heap[g]? = w.heap[g]?) (h2 : w'.heap[g2]? = w.heap[g2]?) : BitsAt w' g g2 n ws :=
  ⟨by obtain ⟨c, hc⟩ := h.hd; exact ⟨c, h1.trans hc⟩, by obtain ⟨cur, hc, ht⟩ := h.wd; exact ⟨cur, h2.trans hc, ht⟩, h.len, h.lt, h.top, h.small⟩
theorem BitsAt.below {B : Nat} (h : BitsAt w g g2 n ws) (hb : Below B w w') (h1 : g < B) (h2 : g2 < B) : BitsAt w' g g2 n ws := h.at_ (hb.block g h1) (hb.block g2 h2)
theorem BitsAt.ne (h : BitsAt w g g2 n ws) : g ≠ g2 := by
  rintro rfl
  obtain ⟨c, h1⟩ := h.hd
  obtain ⟨cur, h2, _⟩ := h.wd
  rw [h2] at h1
  injection h1 with h1
  injection h1 with _ h2 _
  exact absurd h2 (by decide)
theorem BitsAt.idx (h : BitsAt w g g2 n ws) {i : Nat} (hi : i < n) : i / 64 < ws.length := by rw [h.len]; omega
end
theorem below_alloc2' (w : World) (o1 o2 : Obj) : Below w.heap.size w ((w.alloc o1).alloc o2) := ((Below.refl _ _).alloc (Nat.le_refl _) _).alloc (by simp) _
theorem u64info : (Tryd.prog.info? 37).map (fun i => (i.zero, i.size, i.bytes)) = some (some (.int .u64 0), 1, 8) := by kernel_rfl
theorem made_eq (m : Nat) : madeCells #[Value.int .u64 0] m = (cw (List.replicate m 0)).toArray := by
  apply Array.ext
  · rw [size_madeCells]; simp [cw]
  · intro i h1 h2
    simp [madeCells, cw, Nat.mod_one]

theorem bitAt_zero (m k : Nat) : bitAt (List.replicate m 0) k = false := by
  unfold bitAt
  have : (List.replicate m 0).getD (k / 64) 0 = 0 := by
    rw [List.getD_eq_getElem?_getD, List.getElem?_replicate]; split <;> rfl
  rw [this]; simp
def NewPost (w : World) (n : Nat) (e : Ending) (w' : World) : Prop := ∃ g g2, e = .returned (.pointer (some ⟨g, 0, none⟩)) ∧ w.heap.size ≤ g ∧ w.heap.size ≤ g2 ∧ BitsAt w' g g2 n (List.replicate ((n + 63) / 64) 0) ∧ Below w.heap.size w w'
set_option maxHeartbeats 1000000 in
theorem newBits_nat (n : Nat) (hn : n ≤ 16777216) (w : World) :
    Calls Tryd.prog 33 #[.int .i64 n] w (NewPost w n) := by
  have hm : ((n : Int) + 64 - 1) / 64 = (((n + 63) / 64 : Nat) : Int) := by omega
  have hmk := run_make_row' (P := Tryd.prog) 23 37 (.int .u64 0) 8 Tryd.underlying23 u64info rfl .i64 .i64 ((n + 63) / 64) (by omega) (by omega) w
  rw [← hm, made_eq] at hmk
  clear hm
  go_enter Tryd.func33, Tryd.ntmps33
  go_wp2_with fail
  go_ret
  refine ⟨w.heap.size + 1, w.heap.size, rfl, by omega, Nat.le_refl _, ⟨⟨(n + 63) / 64, ?_⟩, ⟨(cw (List.replicate ((n + 63) / 64) 0)).toArray, ?_, by rw [List.take_of_length_le (by simp [cw])]⟩, by simp, ?_, fun k _ => bitAt_zero _ k, hn⟩, below_alloc2' w _ _⟩
  · rw [List.length_replicate]
    have := heap_alloc_new (w.alloc (.cells (cw (List.replicate ((n + 63) / 64) 0)).toArray 37)) (.cells #[.int .i64 (n : Int), .slice (some ⟨w.heap.size, 0, none⟩) ((n + 63) / 64) ((n + 63) / 64)] 124)
    simpa using this
  · exact (Below.heap_alloc _ _ _ (by simp)).trans (heap_alloc_new w _)
  · intro x hx
    rw [List.eq_of_mem_replicate hx]; omega

theorem size_any (g g2 n : Nat) (ws : List Nat) (w : World) (h : BitsAt w g g2 n ws) :
    Calls Tryd.prog 69 #[.pointer (some ⟨g, 0, none⟩)] w fun e w' => e = .returned (.int .i64 (n : Int)) ∧ w = w' := by
  have c0 := h.c0
  go_enter Tryd.func69, Tryd.ntmps69
  go_wp2
  go_ret
  exact ⟨rfl, rfl⟩
theorem may_yes (g g2 n i : Nat) (ws : List Nat) (w : World) (h : BitsAt w g g2 n ws) (hi : i < n) :
    Calls Tryd.prog 58 #[.pointer (some ⟨g, 0, none⟩), .int .i64 (i : Int)] w fun e w' => e = .returned (.bool true) ∧ w = w' := by
  have h0 : (i : Int) < (n : Int) := by omega
  go_enter Tryd.func58, Tryd.ntmps58
  go_wp2_with (go_at_call 69; (with_reducible refine (size_any _ _ _ _ _ h).mono ?_); rintro e w' ⟨rfl, rfl⟩)
  go_ret
  exact ⟨by first | rfl | (simp; omega), rfl⟩
theorem may_no (g g2 n : Nat) (i : Int) (ws : List Nat) (w : World) (h : BitsAt w g g2 n ws) (hi : i < 0 ∨ (n : Int) ≤ i) :
    Calls Tryd.prog 58 #[.pointer (some ⟨g, 0, none⟩), .int .i64 i] w fun e w' => e = .returned (.bool false) ∧ w = w' := by
  by_cases h0 : i < 0
  · clear hi
    go_enter Tryd.func58, Tryd.ntmps58
    go_wp2_with (go_at_call 69; (with_reducible refine (size_any _ _ _ _ _ h).mono ?_); rintro e w' ⟨rfl, rfl⟩)
    go_ret
    exact ⟨by first | rfl | (simp; omega), rfl⟩
  · have h1 : (n : Int) ≤ i := by omega
    have h2 : 0 ≤ i := by omega
    clear hi h0
    go_enter Tryd.func58, Tryd.ntmps58
    go_wp2_with (go_at_call 69; (with_reducible refine (size_any _ _ _ _ _ h).mono ?_); rintro e w' ⟨rfl, rfl⟩)
    go_ret
    exact ⟨by first | rfl | (simp; omega), rfl⟩
theorem bit_w {x k : Nat} (hx : x < 18446744073709551616) : (bits BinOp.and IntKind.u64 ((x : Int) / 2 ^ k) 1 == 1) = decide (x / 2 ^ k % 2 = 1) := by
  have e : (x : Int) / 2 ^ k = ((x / 2 ^ k : Nat) : Int) := by simp
  have hl : x / 2 ^ k ≤ x := Nat.div_le_self _ _
  rw [e, show (1 : Int) = ((1 : Nat) : Int) from rfl, u64_and_nat _ _ (by omega) (by omega), nat_mask1, Bool.eq_iff_iff]
  simp only [beq_iff_eq, decide_eq_true_eq]
  omega
theorem BitsAt.word {w : World} {g g2 n : Nat} {ws : List Nat} (h : BitsAt w g g2 n ws) {k : Nat} (hk : k < ws.length) : ws[k] < 18446744073709551616 := h.lt _ (List.getElem_mem hk)
theorem bitAt_eq {ws : List Nat} {i : Nat} (h : i / 64 < ws.length) : bitAt ws i = decide (ws[i / 64] / 2 ^ (i % 64) % 2 = 1) := by
  unfold bitAt; rw [List.getD_eq_getElem?_getD, List.getElem?_eq_getElem h]; rfl
theorem ret_bool {a b : Bool} (h : a = b) : Ending.returned (.bool a) = .returned (.bool b) := by rw [h]
set_option maxHeartbeats 1000000 in
theorem has_in (g g2 n i : Nat) (ws : List Nat) (w : World) (h : BitsAt w g g2 n ws) (hi : i < n) :
    Calls Tryd.prog 47 #[.pointer (some ⟨g, 0, none⟩), .int .i64 (i : Int)] w fun e w' => e = .returned (.bool (bitAt ws i)) ∧ w = w' := by
  obtain ⟨cc, c1⟩ := h.c1
  have hix := h.idx hi
  have c2 := h.cw_ hix
  have hs := h.small
  have HR := Lib.hid ((bit_w (k := i % 64) (h.word hix)).trans (bitAt_eq hix).symm)
  go_enter Tryd.func47, Tryd.ntmps47
  go_wp2_with (go_at_call 58; (with_reducible refine (may_yes _ _ _ _ _ _ h hi).mono ?_); rintro e w' ⟨rfl, rfl⟩)
  go_ret
  exact ⟨ret_bool HR.out, rfl⟩
set_option maxHeartbeats 1000000 in
theorem has_out (g g2 n : Nat) (i : Int) (ws : List Nat) (w : World) (h : BitsAt w g g2 n ws) (hi : i < 0 ∨ (n : Int) ≤ i) :
    Calls Tryd.prog 47 #[.pointer (some ⟨g, 0, none⟩), .int .i64 i] w fun e w' => e = .returned (.bool false) ∧ w = w' := by
  have HI := Lib.hid hi
  clear hi
  go_enter Tryd.func47, Tryd.ntmps47
  go_wp2_with (go_at_call 58; (with_reducible refine (may_no _ _ _ _ _ _ h HI.out).mono ?_); rintro e w' ⟨rfl, rfl⟩)
  go_ret
  exact ⟨rfl, rfl⟩

/-! ### Set -/
def flip (ws : List Nat) (i : Nat) : List Nat := ws.set (i / 64) (ws.getD (i / 64) 0 ^^^ 2 ^ (i % 64))
theorem two_lt {m : Nat} (h : m < 64) : 2 ^ m < 18446744073709551616 := by
  have : 2 ^ m ≤ 2 ^ 63 := Nat.pow_le_pow_right (by decide) (by omega)
  have e : (2 : Nat) ^ 63 = 9223372036854775808 := by decide
  omega
theorem flip_len (ws : List Nat) (i : Nat) : (flip ws i).length = ws.length := by unfold flip; simp
theorem flip_lt {ws : List Nat} (i : Nat) (h : ∀ x ∈ ws, x < 18446744073709551616) : ∀ x ∈ flip ws i, x < 18446744073709551616 := by
  intro x hx
  unfold flip at hx
  rcases List.mem_or_eq_of_mem_set hx with h1 | h1
  · exact h x h1
  · rw [h1]
    apply Nat.xor_lt_two_pow (n := 64)
    · rw [List.getD_eq_getElem?_getD]
      cases hg : ws[i / 64]? with
      | none => simp
      | some y => exact h y (List.mem_of_getElem? hg)
    · exact two_lt (by omega)
theorem bit_div (x k : Nat) : decide (x / 2 ^ k % 2 = 1) = x.testBit k := by
  rw [Nat.testBit_eq_decide_div_mod_eq]
theorem bitAt_flip {ws : List Nat} {i : Nat} (h : i / 64 < ws.length) (k : Nat) : bitAt (flip ws i) k = if k = i then !bitAt ws i else bitAt ws k := by
  unfold bitAt flip
  rw [bit_div, bit_div, bit_div]
  by_cases e : k / 64 = i / 64
  · have e1 : (ws.set (i / 64) (ws.getD (i / 64) 0 ^^^ 2 ^ (i % 64))).getD (k / 64) 0 = ws.getD (i / 64) 0 ^^^ 2 ^ (i % 64) := by
      rw [e, List.getD_eq_getElem?_getD, List.getElem?_set_self h]; rfl
    rw [e1, Nat.testBit_xor, Nat.testBit_two_pow, e]
    by_cases e2 : k = i
    · subst e2; simp
    · have : ¬ (i % 64 = k % 64) := by omega
      simp [e2, this]
  · have e1 : (ws.set (i / 64) (ws.getD (i / 64) 0 ^^^ 2 ^ (i % 64))).getD (k / 64) 0 = ws.getD (k / 64) 0 := by
      rw [List.getD_eq_getElem?_getD, List.getElem?_set_ne (fun h => e h.symm), ← List.getD_eq_getElem?_getD]
    rw [e1, if_neg (by rintro rfl; exact e rfl)]
theorem BitsAt.flipped {w : World} {g g2 n : Nat} {ws : List Nat} (h : BitsAt w g g2 n ws) {i : Nat} (hi : i < n) {v : Int} (hv : v = ((ws.getD (i / 64) 0 ^^^ 2 ^ (i % 64) : Nat) : Int)) : BitsAt (w.setCell ⟨g2, i / 64, none⟩ (.int .u64 v)) g g2 n (flip ws i) := by
  subst hv
  refine ⟨?_, ?_, by rw [flip_len]; exact h.len, flip_lt i h.lt, fun k hk => ?_, h.small⟩
  · obtain ⟨c, hc⟩ := h.hd
    exact ⟨c, by rw [flip_len]; exact (Below.heap_setCell w ⟨g2, i / 64, none⟩ _ g h.ne).trans hc⟩
  · obtain ⟨cur, hc, ht⟩ := h.wd
    refine ⟨cur.setIfInBounds (i / 64) (.int .u64 ((ws.getD (i / 64) 0 ^^^ 2 ^ (i % 64) : Nat) : Int)), ?_, ?_⟩
    · simp [World.setCell, Array.getElem?_modify, hc]
    · rw [flip_len, Array.toList_setIfInBounds, List.take_set, ht]
      simp [cw, flip, List.map_set]
  · rw [bitAt_flip (h.idx hi), if_neg (by omega)]; exact h.top k hk

theorem cast_two (m : Nat) : (2 : Int) ^ m = ((2 ^ m : Nat) : Int) := by simp
theorem wrap_two {m : Nat} (h : m < 64) : IntKind.u64.wrap (2 ^ m) = 2 ^ m := by
  have := two_lt h
  rw [cast_two, IntKind.wrap_u64]
  generalize (2 : Nat) ^ m = p at this ⊢
  omega
theorem wrap_two1 {m : Nat} (h : m < 64) : IntKind.u64.wrap (2 ^ m - 1) = ((2 ^ m - 1 : Nat) : Int) := by
  have := two_lt h
  have hp : 1 ≤ 2 ^ m := Nat.one_le_two_pow
  rw [cast_two, IntKind.wrap_u64]
  generalize (2 : Nat) ^ m = p at this hp ⊢
  omega
theorem flip_w {w : World} {g g2 n : Nat} {ws : List Nat} (h : BitsAt w g g2 n ws) {i : Nat} (hi : i < n) : bits .xor .u64 ((ws[i / 64]'(h.idx hi) : Nat) : Int) (2 ^ (i % 64)) = ((ws.getD (i / 64) 0 ^^^ 2 ^ (i % 64) : Nat) : Int) := by
  rw [cast_two, u64_xor_nat _ _ (h.word (h.idx hi)) (two_lt (by omega)), List.getD_eq_getElem?_getD, List.getElem?_eq_getElem (h.idx hi)]; rfl
theorem BitsAt.drew {w : World} {g g2 n : Nat} {ws : List Nat} (h : BitsAt w g g2 n ws) : BitsAt w.drew g g2 n ws := h.at_ rfl rfl
def SetPost (w : World) (g g2 n : Nat) (ws' : List Nat) (r : Bool) (e : Ending) (w' : World) : Prop := e = .returned (.bool r) ∧ BitsAt w' g g2 n ws' ∧ (∀ B, B ≤ g2 → Below B w w') ∧ w'.heap.size = w.heap.size ∧ ∀ k, k ≠ g2 → w'.heap[k]? = w.heap[k]?
set_option maxHeartbeats 1000000 in
theorem set_out (g g2 n : Nat) (i : Int) (on : Bool) (ws : List Nat) (w : World) (h : BitsAt w g g2 n ws) (hi : i < 0 ∨ (n : Int) ≤ i) :
    Calls Tryd.prog 38 #[.pointer (some ⟨g, 0, none⟩), .int .i64 i, .bool on] w (SetPost w g g2 n ws false) := by
  have HI := Lib.hid hi
  clear hi
  go_enter Tryd.func38, Tryd.ntmps38
  go_wp2_with (go_at_call 58; (with_reducible refine (may_no _ _ _ _ _ _ h HI.out).mono ?_); rintro e w' ⟨rfl, rfl⟩)
  go_ret
  exact ⟨rfl, h, fun B _ => Below.refl _ _, rfl, fun _ _ => rfl⟩
set_option maxHeartbeats 1000000 in
theorem set_same (g g2 n i : Nat) (on : Bool) (ws : List Nat) (w : World) (h : BitsAt w g g2 n ws) (hi : i < n) (hs : bitAt ws i = on) :
    Calls Tryd.prog 38 #[.pointer (some ⟨g, 0, none⟩), .int .i64 (i : Int), .bool on] w (SetPost w g g2 n ws false) := by
  subst hs
  go_enter Tryd.func38, Tryd.ntmps38
  go_wp2_with (first | (go_at_call 58; (with_reducible refine (may_yes _ _ _ _ _ _ h hi).mono ?_); rintro e w' ⟨rfl, rfl⟩) | (go_at_call 47; (with_reducible refine (has_in _ _ _ _ _ _ h hi).mono ?_); rintro e w' ⟨rfl, rfl⟩))
  go_ret
  exact ⟨rfl, h, fun B _ => Below.refl _ _, rfl, fun _ _ => rfl⟩
set_option maxHeartbeats 1000000 in
theorem set_flip (g g2 n i : Nat) (on : Bool) (ws : List Nat) (w : World) (h : BitsAt w g g2 n ws) (hi : i < n) (hs : bitAt ws i = !on) :
    Calls Tryd.prog 38 #[.pointer (some ⟨g, 0, none⟩), .int .i64 (i : Int), .bool on] w (SetPost w g g2 n (flip ws i) true) := by
  obtain ⟨cc, c1⟩ := h.c1
  have hix := h.idx hi
  have c2 := h.cw_ hix
  have hfr := h.free (i / 64)
  have hsm := h.small
  have hw : IntKind.u64.wrap (2 ^ (i % 64)) = 2 ^ (i % 64) := wrap_two (by omega)
  have HF := Lib.hid (flip_w h hi)
  have HS := Lib.hid hs
  clear hs
  go_enter Tryd.func38, Tryd.ntmps38
  go_wp2_with (first | (go_at_call 58; (with_reducible refine (may_yes _ _ _ _ _ _ h hi).mono ?_); rintro e w' ⟨rfl, rfl⟩) | (go_at_call 47; (with_reducible refine (has_in _ _ _ _ _ _ h hi).mono ?_); rintro e w' ⟨rfl, rfl⟩; rw [HS.out]))
  go_region
  all_goals go_wp2
  all_goals go_ret
  all_goals exact ⟨rfl, h.drew.flipped hi HF.out, fun B hB => ((Below.refl _ _).drew).setCell hB _, by simp [World.setCell], fun k hk => Below.heap_setCell w.drew ⟨g2, i / 64, none⟩ _ k hk⟩
theorem below_in (i : Nat) (w : World) (hi : i ≤ 16777216) :
    Calls Tryd.prog 72 #[.int .i64 (i : Int)] w fun e w' => e = .returned (.int .u64 ((2 ^ (i % 64) - 1 : Nat) : Int)) ∧ w = w' := by
  have hw : IntKind.u64.wrap (2 ^ (i % 64)) = 2 ^ (i % 64) := wrap_two (by omega)
  have hw2 : IntKind.u64.wrap (2 ^ (i % 64) - 1) = ((2 ^ (i % 64) - 1 : Nat) : Int) := wrap_two1 (by omega)
  go_enter Tryd.func72, Tryd.ntmps72
  go_wp2
  go_ret
  exact ⟨rfl, rfl⟩

/-! ### Next -/
/-- what the walks read of the program's own table -/
def EnvB (w : World) : Prop := ∀ j, j < 64 → w.cell? ⟨0, j, none⟩ = some (.int .u8 ((Lib.deBruijn64tab.getD j 0 : Nat) : Int))
theorem EnvB.lt {w : World} (h : EnvB w) : 0 < w.heap.size := by
  have h0 := h 0 (by omega)
  rcases Nat.lt_or_ge 0 w.heap.size with h1 | h1
  · exact h1
  · exfalso
    unfold World.cell? at h0
    simp [Array.getElem?_eq_none h1] at h0
theorem EnvB.below {w w' : World} (h : EnvB w) (hb : Below w.heap.size w w') : EnvB w' := fun j hj => (hb.cell (p := ⟨0, j, none⟩) h.lt).trans (h j hj)
theorem tz_key {x a : Nat} (hx : x < 18446744073709551616) (hlow : x &&& (18446744073709551616 - x) = a) :
    IntKind.u64.wrap (bits BinOp.and IntKind.u64 (x : Int) (IntKind.u64.wrap (-(x : Int))) * 285870213051353865) / 288230376151711744 = ((a * 285870213051353865 % 18446744073709551616 / 288230376151711744 : Nat) : Int) := by
  by_cases h0 : x = 0
  · subst h0
    simp at hlow
    subst hlow
    decide
  · have e1 : IntKind.u64.wrap (-(x : Int)) = ((18446744073709551616 - x : Nat) : Int) := by rw [IntKind.wrap_u64]; omega
    rw [e1, u64_and_nat x _ hx (by omega), hlow, IntKind.wrap_u64]
    omega
theorem tz_core (x k idx : Nat) (w : World) (hz : ((x : Int) == 0) = false)
    (key : IntKind.u64.wrap (bits BinOp.and IntKind.u64 (x : Int) (IntKind.u64.wrap (-(x : Int))) * 285870213051353865) / 288230376151711744 = (idx : Int))
    (hi : idx < 64) (_hk : k < 64) (hcell : w.cell? ⟨0, idx, none⟩ = some (.int .u8 (k : Int))) :
    Calls Tryd.prog 73 #[.int .u64 (x : Int)] w fun e w' => e = .returned (.int .i64 (k : Int)) ∧ w = w' := by
  go_enter Tryd.func73, Tryd.ntmps73
  go_wp2_with (simp only [key])
  go_ret
  exact ⟨rfl, rfl⟩
theorem tz_any (x : Nat) (w : World) (hx : x < 18446744073709551616) (h0 : x ≠ 0) (he : EnvB w) :
    Calls Tryd.prog 73 #[.int .u64 (x : Int)] w fun e w' => e = .returned (.int .i64 (Lib.ctz 64 x : Nat)) ∧ w = w' := by
  obtain ⟨hlow, hk⟩ := Lib.lowest_bit 64 x h0 hx
  obtain ⟨hi, htab⟩ := Lib.deBruijn64_at _ hk
  have hcell := he _ hi
  rw [htab] at hcell
  exact tz_core x _ _ w (by simp; omega) (tz_key hx hlow) hi hk hcell
end Go.Proofs.YtahmljjjdoaahaaDoor.Fl

/-
  Contract of package pack's sets: Next.
-/
namespace Go.Proofs.YtahmljjjdoaahaaDoor.Fl
open Go.RowKit

/-- r is the least number of the set from i on, or -1 -/
def IsNext (ws : List Nat) (n i : Nat) (r : Int) : Prop :=
  (r = -1 ∧ ∀ k, i ≤ k → bitAt ws k = false) ∨ ∃ k : Nat, r = k ∧ i ≤ k ∧ k < n ∧ bitAt ws k = true ∧ ∀ j, i ≤ j → j < k → bitAt ws j = false
/-- what the loop holds: word number a has been masked so that only numbers from m on are in x -/
structure NextInv (ws : List Nat) (m a x : Nat) : Prop where
  lo : ∀ k, m ≤ k → k < 64 * a → bitAt ws k = false
  wd : ∀ j, j < 64 → x.testBit j = (decide (m ≤ 64 * a + j) && bitAt ws (64 * a + j))
theorem bitAt_word {ws : List Nat} {a j : Nat} (ha : a < ws.length) (hj : j < 64) : bitAt ws (64 * a + j) = ws[a].testBit j := by
  unfold bitAt
  rw [bit_div, show (64 * a + j) / 64 = a by omega, show (64 * a + j) % 64 = j by omega, List.getD_eq_getElem?_getD, List.getElem?_eq_getElem ha]; rfl
theorem mask_bits (x m j : Nat) : ((x / 2 ^ m) * 2 ^ m).testBit j = (decide (m ≤ j) && x.testBit j) := by
  rw [Nat.testBit_mul_two_pow, Nat.testBit_div_two_pow]
  by_cases h : m ≤ j
  · simp [h, Nat.sub_add_cancel h]
  · simp [h]
theorem andNot_w {x m : Nat} (hx : x < 18446744073709551616) (hm : m < 64) : bits .andNot .u64 (x : Int) ((2 ^ m - 1 : Nat) : Int) = ((x / 2 ^ m * 2 ^ m : Nat) : Int) := by
  have h2 := two_lt hm
  have hp : 1 ≤ 2 ^ m := Nat.one_le_two_pow
  rw [u64_andNot_nat _ _ hx (by omega)]
  congr 1
  apply Nat.eq_of_testBit_eq
  intro j
  rw [mask_bits, Nat.testBit_and]
  have e : (18446744073709551615 - (2 ^ m - 1)) = 2 ^ 64 - ((2 ^ m - 1) + 1) := by
    have e64 : (2 : Nat) ^ 64 = 18446744073709551616 := by decide
    omega
  rw [e, Nat.testBit_two_pow_sub_succ (by have e64 : (2 : Nat) ^ 64 = 18446744073709551616 := by decide
                                          omega), Nat.testBit_two_pow_sub_one]
  by_cases h : m ≤ j
  · by_cases hj : j < 64
    · simp [h, hj, show ¬ j < m by omega]
    · have : x.testBit j = false := Nat.testBit_lt_two_pow (Nat.lt_of_lt_of_le hx (by
        have : (2 : Nat) ^ 64 ≤ 2 ^ j := Nat.pow_le_pow_right (by decide) (by omega)
        have e64 : (2 : Nat) ^ 64 = 18446744073709551616 := by decide
        omega))
      simp [this]
  · simp [h, show j < m by omega]
theorem next_start {ws : List Nat} {m : Nat} (h : m / 64 < ws.length) : NextInv ws m (m / 64) (ws[m / 64] / 2 ^ (m % 64) * 2 ^ (m % 64)) := by
  refine ⟨fun k h1 h2 => by omega, fun j hj => ?_⟩
  rw [mask_bits, bitAt_word h hj]
  congr 1
  rw [Bool.eq_iff_iff]; simp; omega
theorem next_step {ws : List Nat} {m a : Nat} (hm : m / 64 ≤ a) (h : NextInv ws m a 0) (ha : a + 1 < ws.length) : NextInv ws m (a + 1) ws[a + 1] := by
  refine ⟨fun k h1 h2 => ?_, fun j hj => ?_⟩
  · by_cases hk : k < 64 * a
    · exact h.lo k h1 hk
    · have := h.wd (k - 64 * a) (by omega)
      rw [show 64 * a + (k - 64 * a) = k by omega] at this
      simp [h1] at this
      exact this
  · rw [bitAt_word ha hj]; simp; omega
theorem next_end {ws : List Nat} {n m a : Nat} (h : NextInv ws m a 0) (ha : a + 1 = ws.length) (hl : ws.length = (n + 63) / 64) (ht : ∀ k, n ≤ k → bitAt ws k = false) : IsNext ws n m (-1) := by
  refine .inl ⟨rfl, fun k hk => ?_⟩
  by_cases h1 : k < 64 * a
  · exact h.lo k hk h1
  · by_cases h2 : k < 64 * (a + 1)
    · have := h.wd (k - 64 * a) (by omega)
      rw [show 64 * a + (k - 64 * a) = k by omega] at this
      simp [hk] at this
      exact this
    · exact ht k (by omega)
theorem ctz_bits {x : Nat} (hx : x < 18446744073709551616) (h0 : x ≠ 0) : Lib.ctz 64 x < 64 ∧ x.testBit (Lib.ctz 64 x) = true ∧ ∀ j, j < Lib.ctz 64 x → x.testBit j = false := by
  obtain ⟨m, hm, hk⟩ := Lib.ctzFrom_spec 64 x (by omega) hx
  have e : Lib.ctz 64 x = Lib.ctzFrom 64 x := by simp [Lib.ctz, h0]
  rw [e]
  generalize Lib.ctzFrom 64 x = c at hm hk
  refine ⟨hk, ?_, fun j hj => ?_⟩
  · rw [hm, Nat.mul_comm, Nat.testBit_mul_two_pow]; simp
  · rw [hm, Nat.mul_comm, Nat.testBit_mul_two_pow]; simp; omega
theorem next_found {ws : List Nat} {n m a x : Nat} (h : NextInv ws m a x) (hx : x < 18446744073709551616) (h0 : x ≠ 0) (ht : ∀ k, n ≤ k → bitAt ws k = false) : IsNext ws n m ((a : Int) * 64 + (Lib.ctz 64 x : Nat)) := by
  obtain ⟨h1, h2, h3⟩ := ctz_bits hx h0
  have hw := h.wd _ h1
  rw [h2] at hw
  have hw' : m ≤ 64 * a + Lib.ctz 64 x ∧ bitAt ws (64 * a + Lib.ctz 64 x) = true := by
    have := hw.symm; simpa using this
  refine .inr ⟨64 * a + Lib.ctz 64 x, by omega, hw'.1, ?_, hw'.2, fun j hj1 hj2 => ?_⟩
  · rcases Nat.lt_or_ge (64 * a + Lib.ctz 64 x) n with h | h
    · exact h
    · rw [ht _ h] at hw'; exact absurd hw'.2 (by decide)
  · by_cases hja : j < 64 * a
    · exact h.lo j hj1 hja
    · have h4 := h.wd (j - 64 * a) (by omega)
      rw [h3 _ (by omega), show 64 * a + (j - 64 * a) = j by omega] at h4
      simp [hj1] at h4
      exact h4

theorem below_q (i : Nat) (w : World) (hi : i ≤ 16777216) :
    Calls Tryd.prog 72 #[.int .i64 (i : Int)] w fun e w' => e = .returned (.int .u64 ((2 ^ (i % 64) - 1 : Nat) : Int)) ∧ w' = w := (below_in i w hi).mono fun _ _ ⟨h1, h2⟩ => ⟨h1, h2.symm⟩
theorem BitsAt.drewN {w : World} {g g2 n : Nat} {ws : List Nat} (h : BitsAt w g g2 n ws) (q : Nat) : BitsAt (w.drewN q) g g2 n ws := h.at_ rfl rfl
theorem EnvB.drewN {w : World} (h : EnvB w) (q : Nat) : EnvB (w.drewN q) := fun j hj => h j hj
theorem vInt {k : IntKind} {a b : Int} (h : a = b) : Value.int k a = .int k b := by rw [h]
def NextPost (ws : List Nat) (n i : Nat) (w : World) (e : Ending) (w' : World) : Prop := ∃ (r : Int) (q : Nat), e = .returned (.int .i64 r) ∧ IsNext ws n i r ∧ w.drewN q = w'
set_option maxHeartbeats 1000000 in
theorem next_any (g g2 n m : Nat) (z : Int) (ws : List Nat) (w : World) (h : BitsAt w g g2 n ws) (he : EnvB w) (hz : max z 0 = (m : Int)) :
    Calls Tryd.prog 66 #[.pointer (some ⟨g, 0, none⟩), .int .i64 z] w (NextPost ws n m w) := by
  have HZ := Lib.hid hz
  clear hz
  by_cases hm : m < n
  · obtain ⟨cc, c1⟩ := h.c1
    have hix := h.idx hm
    have c2 := h.cw_ hix
    have hs := h.small
    have hl : ws.length ≤ 262144 := by have := h.len; omega
    have ha := andNot_w (h.word hix) (m := m % 64) (by omega)
    have HI := Lib.hid (next_start hix)
    have hxl : ws[m / 64] / 2 ^ (m % 64) * 2 ^ (m % 64) < 18446744073709551616 := Nat.lt_of_le_of_lt (Nat.div_mul_le_self _ _) (h.word hix)
    have HX := Lib.hid hxl
    clear hxl
    generalize ws[m / 64] / 2 ^ (m % 64) * 2 ^ (m % 64) = x0 at ha HI HX
    go_enter Tryd.func66, Tryd.ntmps66
    go_upto_region 1 with (fail)
    go_cut [1] (fun v wx => v = .int .i64 (m : Int) ∧ w = wx)
    case first =>
      go_wp2_with fail
      all_goals go_meet
      all_goals exact ⟨vInt (by have := HZ.out; omega), rfl⟩
    case rest =>
     obtain ⟨rfl, rfl⟩ := hcut
     go_wp2_with (go_at_call 58; (with_reducible refine (may_yes _ _ _ m _ _ h hm).mono ?_); rintro e w' ⟨rfl, rfl⟩)
     go_quiet ((go_at_call 72; exact Calls.quiet_of_same (below_q m _ (by omega))))
     go_wp2_with fail
     go_loopw [5, 6] (fun c d wr => ∃ (a x q : Nat), c = .int .i64 (a : Int) ∧ d = .int .u64 (x : Int) ∧ Hid (a < ws.length ∧ m / 64 ≤ a ∧ x < 18446744073709551616) ∧ Hid (NextInv ws m a x) ∧ w.drewN q = wr) (fun c _ _ => ws.length - (intOf c).toNat)
     case atStart => exact ⟨m / 64, x0, nq, by simp, rfl, Lib.hid ⟨hix, Nat.le_refl _, HX.out⟩, HI, rfl⟩
     case round =>
       obtain ⟨a, x, q, rfl, rfl, HB, HV, rfl⟩ := hrel
       have hal := HB.out.1
       have c1' : (w.drewN q).cell? ⟨g, 1, none⟩ = _ := c1
       by_cases hx : x = 0
       · subst hx
         by_cases hl2 : a + 1 = ws.length
         · have HE := Lib.hid (next_end HV.out hl2 h.len h.top)
           go_wp2_with fail
           go_ret
           exact ⟨_, _, rfl, HE.out, rfl⟩
         · have hc := h.cw_ (k := a + 1) (by omega)
           have hc' : (w.drewN q).cell? ⟨g2, a + 1, none⟩ = _ := hc
           have HS := Lib.hid (next_step HB.out.2.1 HV.out (by omega))
           go_wp2_with fail
           go_roundw
           case rel => exact ⟨a + 1, ws[a + 1], q, by simp, rfl, Lib.hid ⟨by omega, by have := HB.out.2.1; omega, h.word (by omega)⟩, HS, rfl⟩
           case measure => simp [intOf]; omega
       · have HF := Lib.hid (next_found HV.out HB.out.2.2 hx h.top)
         have hxl := HB.out.2.2
         have hct : Lib.ctz 64 x < 64 := (ctz_bits hxl hx).1
         go_wp2_with (go_at_call 73; (with_reducible refine (tz_any x _ hxl hx (he.drewN q)).mono ?_); rintro e w' ⟨rfl, rfl⟩)
         go_ret
         exact ⟨_, _, rfl, HF.out, rfl⟩
  · have HN := Lib.hid (show (m : Int) < 0 ∨ (n : Int) ≤ (m : Int) by omega)
    have HR := Lib.hid (show IsNext ws n m (-1) from .inl ⟨rfl, fun k hk => h.top k (by omega)⟩)
    clear hm
    go_enter Tryd.func66, Tryd.ntmps66
    go_upto_region 1 with (fail)
    go_cut [1] (fun v wx => v = .int .i64 (m : Int) ∧ w = wx)
    case first =>
      go_wp2_with fail
      all_goals go_meet
      all_goals exact ⟨vInt (by have := HZ.out; omega), rfl⟩
    case rest =>
     obtain ⟨rfl, rfl⟩ := hcut
     go_wp2_with (go_at_call 58; (with_reducible refine (may_no _ _ _ (m : Int) _ _ h HN.out).mono ?_); rintro e w' ⟨rfl, rfl⟩)
     go_ret
     exact ⟨_, 0, rfl, HR.out, rfl⟩
theorem next_nat (g g2 n m : Nat) (ws : List Nat) (w : World) (h : BitsAt w g g2 n ws) (he : EnvB w) :
    Calls Tryd.prog 66 #[.pointer (some ⟨g, 0, none⟩), .int .i64 (m : Int)] w (NextPost ws n m w) := next_any g g2 n m _ ws w h he (by omega)
end Go.Proofs.YtahmljjjdoaahaaDoor.Fl

/-
  Contracts of math/bits.OnesCount64 and of package pack's Bits.Below: counting.
-/
namespace Go.Proofs.YtahmljjjdoaahaaDoor.Fl
open Go.RowKit

/-- how many numbers below n have it -/
def cnt (f : Nat → Bool) : Nat → Nat
  | 0 => 0
  | n + 1 => cnt f n + (f n).toNat
theorem cnt_le (f : Nat → Bool) (n : Nat) : cnt f n ≤ n := by
  induction n with
  | zero => exact Nat.le_refl _
  | succ n ih => unfold cnt; cases f n <;> simp [Bool.toNat] <;> omega
theorem cnt_congr {f g : Nat → Bool} (n : Nat) (h : ∀ j, j < n → f j = g j) : cnt f n = cnt g n := by
  induction n with
  | zero => rfl
  | succ n ih => simp only [cnt]; rw [ih (fun j hj => h j (by omega)), h n (by omega)]
theorem cnt_add (f : Nat → Bool) (a b : Nat) : cnt f (a + b) = cnt f a + cnt (fun j => f (a + j)) b := by
  induction b with
  | zero => rfl
  | succ b ih => rw [← Nat.add_assoc]; simp only [cnt]; rw [ih, Nat.add_assoc]
theorem cnt_none (n : Nat) : cnt (fun _ => false) n = 0 := by
  induction n with
  | zero => rfl
  | succ n ih => simp [cnt, ih]
theorem cnt_front (f : Nat → Bool) (n : Nat) : cnt f (n + 1) = (f 0).toNat + cnt (fun j => f (j + 1)) n := by
  rw [Nat.add_comm n, cnt_add]
  simp only [cnt, Nat.zero_add, Nat.add_comm 1]
theorem total_cnt (x n : Nat) : total (bitl x n) = cnt x.testBit n := by
  induction n generalizing x with
  | zero => rfl
  | succ n ih =>
    rw [cnt_front]
    show x % 2 + total (bitl (x / 2) n) = _
    rw [ih]
    have h0 : (x.testBit 0).toNat = x % 2 := by
      rw [Nat.testBit_zero]
      rcases Nat.mod_two_eq_zero_or_one x with h | h <;> simp [h]
    rw [h0]
    congr 1
    exact cnt_congr n fun j _ => by rw [Nat.testBit_succ]
theorem pop_cnt (x : Nat) : pop x = cnt x.testBit 64 := total_cnt x 64
theorem pop_mask (x m : Nat) (hm : m ≤ 64) : pop (x &&& (2 ^ m - 1)) = cnt x.testBit m := by
  rw [pop_cnt, show (64 : Nat) = m + (64 - m) by omega, cnt_add]
  have h1 : cnt (x &&& (2 ^ m - 1)).testBit m = cnt x.testBit m := cnt_congr m fun j hj => by
    rw [Nat.testBit_and, Nat.testBit_two_pow_sub_one]; simp [hj]
  have h2 : cnt (fun j => (x &&& (2 ^ m - 1)).testBit (m + j)) (64 - m) = 0 := by
    rw [cnt_congr (g := fun _ => false) _ fun j _ => by rw [Nat.testBit_and, Nat.testBit_two_pow_sub_one]; simp]
    exact cnt_none _
  rw [h1, h2]; rfl
theorem nat_u64_and {a b : Nat} (ha : a < 18446744073709551616) (hb : b < 18446744073709551616) {z : Nat} (h : a &&& b = z) : bits .and .u64 (a : Int) (b : Int) = (z : Int) := by rw [u64_and_nat _ _ ha hb, h]
theorem w_u64 {n : Nat} (h : n < 18446744073709551616) : IntKind.u64.wrap (n : Int) = (n : Int) := by rw [IntKind.wrap_u64]; omega
theorem step_two {x m d : Nat} {x1 : Nat} (hx : x < 18446744073709551616) (hm : m < 18446744073709551616) (h : (x / d &&& m) + (x &&& m) = x1) (h1 : x1 < 18446744073709551616) :
    IntKind.u64.wrap (bits .and .u64 ((x : Int) / (d : Int)) (m : Int) + bits .and .u64 (x : Int) (m : Int)) = (x1 : Int) := by
  have hd : x / d ≤ x := Nat.div_le_self _ _
  rw [show (x : Int) / (d : Int) = ((x / d : Nat) : Int) by simp, u64_and_nat _ _ (by omega) hm, u64_and_nat _ _ hx hm, ← Int.natCast_add, h]
  exact w_u64 h1
theorem step_sum {x d y : Nat} (h : x + x / d = y) (h1 : y < 18446744073709551616) : IntKind.u64.wrap ((x : Int) + (x : Int) / (d : Int)) = (y : Int) := by
  rw [show (x : Int) / (d : Int) = ((x / d : Nat) : Int) by simp, ← Int.natCast_add, h]
  exact w_u64 h1
theorem step_sum' {x d y : Nat} (h : x / d + x = y) (h1 : y < 18446744073709551616) : IntKind.u64.wrap ((x : Int) / (d : Int) + (x : Int)) = (y : Int) := by
  rw [show (x : Int) / (d : Int) = ((x / d : Nat) : Int) by simp, ← Int.natCast_add, h]
  exact w_u64 h1
theorem i64_and127 {t : Nat} (h : t < 18446744073709551616) : bits .and .i64 (wrap64 (t : Int)) 127 = ((t % 128 : Nat) : Int) := by
  rw [and_i64, show u 127 = 2 ^ 7 - 1 from rfl, Nat.and_two_pow_sub_one_eq_mod]
  unfold wrap64 u
  omega
/-! ### Bits.Below -/
theorem retP_i64' {a b : Int} (h : a = b) : Ending.returned (.int .i64 a) = .returned (.int .i64 b) := by rw [h]
theorem val_i64 {a b : Int} (h : a = b) : Value.int .i64 a = .int .i64 b := by rw [h]
theorem cnt_word {ws : List Nat} {a : Nat} (ha : a < ws.length) (m : Nat) (hm : m ≤ 64) : cnt (bitAt ws) (64 * a + m) = cnt (bitAt ws) (64 * a) + cnt ws[a].testBit m := by
  rw [cnt_add]
  congr 1
  exact cnt_congr m fun j hj => bitAt_word ha (by omega)
theorem cnt_zero (f : Nat → Bool) : cnt f 0 = 0 := rfl
theorem two64 {m : Nat} (h : m < 64) : 2 ^ m < 18446744073709551616 := two_lt h
attribute [local irreducible] cnt pop
def BelowPost (ws : List Nat) (i : Nat) (w : World) (e : Ending) (w' : World) : Prop := ∃ q : Nat, e = .returned (.int .i64 (cnt (bitAt ws) i : Nat)) ∧ w.drewN q = w'
end Go.Proofs.YtahmljjjdoaahaaDoor.Fl
