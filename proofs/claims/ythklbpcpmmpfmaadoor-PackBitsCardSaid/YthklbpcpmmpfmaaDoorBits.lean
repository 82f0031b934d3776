/-
  Contracts of package pack's sets: NewBits, Size, may, Has, Set, below, list.
-/
import Derived.Test.YthklbpcpmmpfmaaDoorCrc
import Derived.Deep.OwnRows
import Derived.Lib.TrailingZeros
import Derived.Laws.Bits64b
namespace Go.Proofs.YthklbpcpmmpfmaaDoor.Fl
open Go.RowKit

def cw (ws : List Nat) : List Value := ws.map fun x : Nat => .int .u64 (x : Int)
theorem cw_len (ws : List Nat) : (cw ws).length = ws.length := by simp [cw]
theorem cw_at (ws : List Nat) (k : Nat) (h : k < ws.length) : (cw ws)[k]? = some (.int .u64 (ws[k] : Int)) := by simp [cw, h]
def bitAt (ws : List Nat) (i : Nat) : Bool := decide ((ws.getD (i / 64) 0) / 2 ^ (i % 64) % 2 = 1)
/-- a set's two blocks: the head, and its words (with whatever room behind) -/
structure BitsAt (w : World) (g g2 n : Nat) (ws : List Nat) : Prop where
  hd : ∃ c : Nat, w.heap[g]? = some (.cells #[.int .i64 (n : Int), .slice (some ⟨g2, 0, none⟩) ws.length c] 43 (0, 0))
  wd : ∃ cur : Array Value, w.heap[g2]? = some (.cells cur 48 (0, 0)) ∧ cur.toList.take ws.length = cw ws
  len : ws.length = (n + 63) / 64
  lt : ∀ x ∈ ws, x < 18446744073709551616
  top : ∀ k, n ≤ k → bitAt ws k = false
  small : n ≤ 16777216
section
variable {w w' : World} {g g2 n : Nat} {ws : List Nat}
theorem BitsAt.c0 (h : BitsAt w g g2 n ws) : w.cell? ⟨g, 0, none⟩ = some (.int .i64 (n : Int)) := by
  obtain ⟨c, hc⟩ := h.hd
  exact cell_of_row _ _ _ _ _ _ hc
theorem BitsAt.c1 (h : BitsAt w g g2 n ws) : ∃ c : Nat, w.cell? ⟨g, 1, none⟩ = some (.slice (some ⟨g2, 0, none⟩) ws.length c) := by
  obtain ⟨c, hc⟩ := h.hd
  exact ⟨c, cell_of_row _ _ _ _ _ _ hc⟩
theorem BitsAt.cw_ (h : BitsAt w g g2 n ws) {k : Nat} (hk : k < ws.length) : w.cell? ⟨g2, k, none⟩ = some (.int .u64 (ws[k] : Int)) := by
  obtain ⟨cur, hc, ht⟩ := h.wd
  have := cell_of_row _ g2 k _ _ _ hc
  rw [this, ← cw_at ws k hk, ← ht, List.getElem?_take, if_pos hk]; simp
theorem BitsAt.free (h : BitsAt w g g2 n ws) (k : Nat) : w.frozen? ⟨g2, k, none⟩ = false := by
  obtain ⟨cur, hc, _⟩ := h.wd
  simp [World.frozen?, hc]
theorem BitsAt.gl (h : BitsAt w g g2 n ws) : g < w.heap.size := by
  rcases Nat.lt_or_ge g w.heap.size with h1 | h1
  · exact h1
  · obtain ⟨c, hc⟩ := h.hd; rw [Array.getElem?_eq_none h1] at hc; cases hc
theorem BitsAt.gl2 (h : BitsAt w g g2 n ws) : g2 < w.heap.size := by
  rcases Nat.lt_or_ge g2 w.heap.size with h1 | h1
  · exact h1
  · obtain ⟨cur, hc, _⟩ := h.wd; rw [Array.getElem?_eq_none h1] at hc; cases hc
theorem BitsAt.at_ (h : BitsAt w g g2 n ws) (h1 : w'.heap[g]? = w.heap[g]?) (h2 : w'.heap[g2]? = w.heap[g2]?) : BitsAt w' g g2 n ws :=
  ⟨by obtain ⟨c, hc⟩ := h.hd; exact ⟨c, h1.trans hc⟩, by obtain ⟨cur, hc, ht⟩ := h.wd; exact ⟨cur, h2.trans hc, ht⟩, h.len, h.lt, h.top, h.small⟩
theorem BitsAt.below {B : Nat} (h : BitsAt w g g2 n ws) (hb : Below B w w') (h1 : g < B) (h2 : g2 < B) : BitsAt w' g g2 n ws := h.at_ (hb.block g h1) (hb.block g2 h2)
theorem BitsAt.ne (h : BitsAt w g g2 n ws) : g ≠ g2 := by
  rintro rfl
  obtain ⟨c, h1⟩ := h.hd
  obtain ⟨cur, h2, _⟩ := h.wd
  rw [h2] at h1
  injection h1 with h1
  injection h1 with _ h2 _
  exact absurd h2 (by decide)
theorem BitsAt.idx (h : BitsAt w g g2 n ws) {i : Nat} (hi : i < n) : i / 64 < ws.length := by rw [h.len]; omega
end
theorem below_alloc2' (w : World) (o1 o2 : Obj) : Below w.heap.size w ((w.alloc o1).alloc o2) := ((Below.refl _ _).alloc (Nat.le_refl _) _).alloc (by simp) _
theorem u64info : (Tryd.prog.info? 48).map (fun i => (i.zero, i.size, i.bytes)) = some (some (.int .u64 0), 1, 8) := by kernel_rfl
theorem made_eq (m : Nat) : madeCells #[Value.int .u64 0] m = (cw (List.replicate m 0)).toArray := by
  apply Array.ext
  · rw [size_madeCells]; simp [cw]
  · intro i h1 h2
    simp [madeCells, cw, Nat.mod_one]

theorem bitAt_zero (m k : Nat) : bitAt (List.replicate m 0) k = false := by
  unfold bitAt
  have : (List.replicate m 0).getD (k / 64) 0 = 0 := by
    rw [List.getD_eq_getElem?_getD, List.getElem?_replicate]; split <;> rfl
  rw [this]; simp
def NewPost (w : World) (n : Nat) (e : Ending) (w' : World) : Prop := ∃ g g2, e = .returned (.pointer (some ⟨g, 0, none⟩)) ∧ w.heap.size ≤ g ∧ w.heap.size ≤ g2 ∧ BitsAt w' g g2 n (List.replicate ((n + 63) / 64) 0) ∧ Below w.heap.size w w'
set_option maxHeartbeats 1000000 in
theorem newBits_nat (n : Nat) (hn : n ≤ 16777216) (w : World) :
    Calls Tryd.prog 10 #[.int .i64 n] w (NewPost w n) := by
  have hm : ((n : Int) + 64 - 1) / 64 = (((n + 63) / 64 : Nat) : Int) := by omega
  have hmk := run_make_row' (P := Tryd.prog) 41 48 (.int .u64 0) 8 Tryd.underlying41 u64info rfl .i64 .i64 ((n + 63) / 64) (by omega) (by omega) w
  rw [← hm, made_eq] at hmk
  clear hm
  go_enter Tryd.func10, Tryd.ntmps10
  go_wp2_with fail
  go_ret
  refine ⟨w.heap.size + 1, w.heap.size, rfl, by omega, Nat.le_refl _, ⟨⟨(n + 63) / 64, ?_⟩, ⟨(cw (List.replicate ((n + 63) / 64) 0)).toArray, ?_, by rw [List.take_of_length_le (by simp [cw])]⟩, by simp, ?_, fun k _ => bitAt_zero _ k, hn⟩, below_alloc2' w _ _⟩
  · rw [List.length_replicate]
    have := heap_alloc_new (w.alloc (.cells (cw (List.replicate ((n + 63) / 64) 0)).toArray 48)) (.cells #[.int .i64 (n : Int), .slice (some ⟨w.heap.size, 0, none⟩) ((n + 63) / 64) ((n + 63) / 64)] 43)
    simpa using this
  · exact (Below.heap_alloc _ _ _ (by simp)).trans (heap_alloc_new w _)
  · intro x hx
    rw [List.eq_of_mem_replicate hx]; omega

theorem size_any (g g2 n : Nat) (ws : List Nat) (w : World) (h : BitsAt w g g2 n ws) :
    Calls Tryd.prog 12 #[.pointer (some ⟨g, 0, none⟩)] w fun e w' => e = .returned (.int .i64 (n : Int)) ∧ w = w' := by
  have c0 := h.c0
  go_enter Tryd.func12, Tryd.ntmps12
  go_wp2
  go_ret
  exact ⟨rfl, rfl⟩
theorem may_yes (g g2 n i : Nat) (ws : List Nat) (w : World) (h : BitsAt w g g2 n ws) (hi : i < n) :
    Calls Tryd.prog 47 #[.pointer (some ⟨g, 0, none⟩), .int .i64 (i : Int)] w fun e w' => e = .returned (.bool true) ∧ w = w' := by
  have h0 : (i : Int) < (n : Int) := by omega
  go_enter Tryd.func47, Tryd.ntmps47
  go_wp2_with (go_at_call 12; (with_reducible refine (size_any _ _ _ _ _ h).mono ?_); rintro e w' ⟨rfl, rfl⟩)
  go_ret
  exact ⟨by first | rfl | (simp; omega), rfl⟩
theorem may_no (g g2 n : Nat) (i : Int) (ws : List Nat) (w : World) (h : BitsAt w g g2 n ws) (hi : i < 0 ∨ (n : Int) ≤ i) :
    Calls Tryd.prog 47 #[.pointer (some ⟨g, 0, none⟩), .int .i64 i] w fun e w' => e = .returned (.bool false) ∧ w = w' := by
  by_cases h0 : i < 0
  · clear hi
    go_enter Tryd.func47, Tryd.ntmps47
    go_wp2_with (go_at_call 12; (with_reducible refine (size_any _ _ _ _ _ h).mono ?_); rintro e w' ⟨rfl, rfl⟩)
    go_ret
    exact ⟨by first | rfl | (simp; omega), rfl⟩
  · have h1 : (n : Int) ≤ i := by omega
    have h2 : 0 ≤ i := by omega
    clear hi h0
    go_enter Tryd.func47, Tryd.ntmps47
    go_wp2_with (go_at_call 12; (with_reducible refine (size_any _ _ _ _ _ h).mono ?_); rintro e w' ⟨rfl, rfl⟩)
    go_ret
    exact ⟨by first | rfl | (simp; omega), rfl⟩
theorem bit_w {x k : Nat} (hx : x < 18446744073709551616) : (bits BinOp.and IntKind.u64 ((x : Int) / 2 ^ k) 1 == 1) = decide (x / 2 ^ k % 2 = 1) := by
  have e : (x : Int) / 2 ^ k = ((x / 2 ^ k : Nat) : Int) := by simp
  have hl : x / 2 ^ k ≤ x := Nat.div_le_self _ _
  rw [e, show (1 : Int) = ((1 : Nat) : Int) from rfl, u64_and_nat _ _ (by omega) (by omega), nat_mask1, Bool.eq_iff_iff]
  simp only [beq_iff_eq, decide_eq_true_eq]
  omega
theorem BitsAt.word {w : World} {g g2 n : Nat} {ws : List Nat} (h : BitsAt w g g2 n ws) {k : Nat} (hk : k < ws.length) : ws[k] < 18446744073709551616 := h.lt _ (List.getElem_mem hk)
theorem bitAt_eq {ws : List Nat} {i : Nat} (h : i / 64 < ws.length) : bitAt ws i = decide (ws[i / 64] / 2 ^ (i % 64) % 2 = 1) := by
  unfold bitAt; rw [List.getD_eq_getElem?_getD, List.getElem?_eq_getElem h]; rfl
theorem ret_bool {a b : Bool} (h : a = b) : Ending.returned (.bool a) = .returned (.bool b) := by rw [h]
set_option maxHeartbeats 1000000 in
theorem has_in (g g2 n i : Nat) (ws : List Nat) (w : World) (h : BitsAt w g g2 n ws) (hi : i < n) :
    Calls Tryd.prog 15 #[.pointer (some ⟨g, 0, none⟩), .int .i64 (i : Int)] w fun e w' => e = .returned (.bool (bitAt ws i)) ∧ w = w' := by
  obtain ⟨cc, c1⟩ := h.c1
  have hix := h.idx hi
  have c2 := h.cw_ hix
  have hs := h.small
  have HR := Lib.hid ((bit_w (k := i % 64) (h.word hix)).trans (bitAt_eq hix).symm)
  go_enter Tryd.func15, Tryd.ntmps15
  go_wp2_with (go_at_call 47; (with_reducible refine (may_yes _ _ _ _ _ _ h hi).mono ?_); rintro e w' ⟨rfl, rfl⟩)
  go_ret
  exact ⟨ret_bool HR.out, rfl⟩
set_option maxHeartbeats 1000000 in
theorem has_out (g g2 n : Nat) (i : Int) (ws : List Nat) (w : World) (h : BitsAt w g g2 n ws) (hi : i < 0 ∨ (n : Int) ≤ i) :
    Calls Tryd.prog 15 #[.pointer (some ⟨g, 0, none⟩), .int .i64 i] w fun e w' => e = .returned (.bool false) ∧ w = w' := by
  have HI := Lib.hid hi
  clear hi
  go_enter Tryd.func15, Tryd.ntmps15
  go_wp2_with (go_at_call 47; (with_reducible refine (may_no _ _ _ _ _ _ h HI.out).mono ?_); rintro e w' ⟨rfl, rfl⟩)
  go_ret
  exact ⟨rfl, rfl⟩

/-! ### Set -/
def flip (ws : List Nat) (i : Nat) : List Nat := ws.set (i / 64) (ws.getD (i / 64) 0 ^^^ 2 ^ (i % 64))
theorem two_lt {m : Nat} (h : m < 64) : 2 ^ m < 18446744073709551616 := by
  have : 2 ^ m ≤ 2 ^ 63 := Nat.pow_le_pow_right (by decide) (by omega)
  have e : (2 : Nat) ^ 63 = 9223372036854775808 := by decide
  omega
theorem flip_len (ws : List Nat) (i : Nat) : (flip ws i).length = ws.length := by unfold flip; simp
theorem flip_lt {ws : List Nat} (i : Nat) (h : ∀ x ∈ ws, x < 18446744073709551616) : ∀ x ∈ flip ws i, x < 18446744073709551616 := by
  intro x hx
  unfold flip at hx
  rcases List.mem_or_eq_of_mem_set hx with h1 | h1
  · exact h x h1
  · rw [h1]
    apply Nat.xor_lt_two_pow (n := 64)
    · rw [List.getD_eq_getElem?_getD]
      cases hg : ws[i / 64]? with
      | none => simp
      | some y => exact h y (List.mem_of_getElem? hg)
    · exact two_lt (by omega)
theorem bit_div (x k : Nat) : decide (x / 2 ^ k % 2 = 1) = x.testBit k := by
  rw [Nat.testBit_eq_decide_div_mod_eq]
theorem bitAt_flip {ws : List Nat} {i : Nat} (h : i / 64 < ws.length) (k : Nat) : bitAt (flip ws i) k = if k = i then !bitAt ws i else bitAt ws k := by
  unfold bitAt flip
  rw [bit_div, bit_div, bit_div]
  by_cases e : k / 64 = i / 64
  · have e1 : (ws.set (i / 64) (ws.getD (i / 64) 0 ^^^ 2 ^ (i % 64))).getD (k / 64) 0 = ws.getD (i / 64) 0 ^^^ 2 ^ (i % 64) := by
      rw [e, List.getD_eq_getElem?_getD, List.getElem?_set_self h]; rfl
    rw [e1, Nat.testBit_xor, Nat.testBit_two_pow, e]
    by_cases e2 : k = i
    · subst e2; simp
    · have : ¬ (i % 64 = k % 64) := by omega
      simp [e2, this]
  · have e1 : (ws.set (i / 64) (ws.getD (i / 64) 0 ^^^ 2 ^ (i % 64))).getD (k / 64) 0 = ws.getD (k / 64) 0 := by
      rw [List.getD_eq_getElem?_getD, List.getElem?_set_ne (fun h => e h.symm), ← List.getD_eq_getElem?_getD]
    rw [e1, if_neg (by rintro rfl; exact e rfl)]
theorem BitsAt.flipped {w : World} {g g2 n : Nat} {ws : List Nat} (h : BitsAt w g g2 n ws) {i : Nat} (hi : i < n) {v : Int} (hv : v = ((ws.getD (i / 64) 0 ^^^ 2 ^ (i % 64) : Nat) : Int)) : BitsAt (w.setCell ⟨g2, i / 64, none⟩ (.int .u64 v)) g g2 n (flip ws i) := by
  subst hv
  refine ⟨?_, ?_, by rw [flip_len]; exact h.len, flip_lt i h.lt, fun k hk => ?_, h.small⟩
  · obtain ⟨c, hc⟩ := h.hd
    exact ⟨c, by rw [flip_len]; exact (Below.heap_setCell w ⟨g2, i / 64, none⟩ _ g h.ne).trans hc⟩
  · obtain ⟨cur, hc, ht⟩ := h.wd
    refine ⟨cur.setIfInBounds (i / 64) (.int .u64 ((ws.getD (i / 64) 0 ^^^ 2 ^ (i % 64) : Nat) : Int)), ?_, ?_⟩
    · simp [World.setCell, Array.getElem?_modify, hc]
    · rw [flip_len, Array.toList_setIfInBounds, List.take_set, ht]
      simp [cw, flip, List.map_set]
  · rw [bitAt_flip (h.idx hi), if_neg (by omega)]; exact h.top k hk

theorem cast_two (m : Nat) : (2 : Int) ^ m = ((2 ^ m : Nat) : Int) := by simp
theorem wrap_two {m : Nat} (h : m < 64) : IntKind.u64.wrap (2 ^ m) = 2 ^ m := by
  have := two_lt h
  rw [cast_two, IntKind.wrap_u64]
  generalize (2 : Nat) ^ m = p at this ⊢
  omega
theorem wrap_two1 {m : Nat} (h : m < 64) : IntKind.u64.wrap (2 ^ m - 1) = ((2 ^ m - 1 : Nat) : Int) := by
  have := two_lt h
  have hp : 1 ≤ 2 ^ m := Nat.one_le_two_pow
  rw [cast_two, IntKind.wrap_u64]
  generalize (2 : Nat) ^ m = p at this hp ⊢
  omega
theorem flip_w {w : World} {g g2 n : Nat} {ws : List Nat} (h : BitsAt w g g2 n ws) {i : Nat} (hi : i < n) : bits .xor .u64 ((ws[i / 64]'(h.idx hi) : Nat) : Int) (2 ^ (i % 64)) = ((ws.getD (i / 64) 0 ^^^ 2 ^ (i % 64) : Nat) : Int) := by
  rw [cast_two, u64_xor_nat _ _ (h.word (h.idx hi)) (two_lt (by omega)), List.getD_eq_getElem?_getD, List.getElem?_eq_getElem (h.idx hi)]; rfl
theorem BitsAt.drew {w : World} {g g2 n : Nat} {ws : List Nat} (h : BitsAt w g g2 n ws) : BitsAt w.drew g g2 n ws := h.at_ rfl rfl
def SetPost (w : World) (g g2 n : Nat) (ws' : List Nat) (r : Bool) (e : Ending) (w' : World) : Prop := e = .returned (.bool r) ∧ BitsAt w' g g2 n ws' ∧ (∀ B, B ≤ g2 → Below B w w') ∧ w'.heap.size = w.heap.size ∧ ∀ k, k ≠ g2 → w'.heap[k]? = w.heap[k]?
set_option maxHeartbeats 1000000 in
theorem set_out (g g2 n : Nat) (i : Int) (on : Bool) (ws : List Nat) (w : World) (h : BitsAt w g g2 n ws) (hi : i < 0 ∨ (n : Int) ≤ i) :
    Calls Tryd.prog 13 #[.pointer (some ⟨g, 0, none⟩), .int .i64 i, .bool on] w (SetPost w g g2 n ws false) := by
  have HI := Lib.hid hi
  clear hi
  go_enter Tryd.func13, Tryd.ntmps13
  go_wp2_with (go_at_call 47; (with_reducible refine (may_no _ _ _ _ _ _ h HI.out).mono ?_); rintro e w' ⟨rfl, rfl⟩)
  go_ret
  exact ⟨rfl, h, fun B _ => Below.refl _ _, rfl, fun _ _ => rfl⟩
set_option maxHeartbeats 1000000 in
theorem set_same (g g2 n i : Nat) (on : Bool) (ws : List Nat) (w : World) (h : BitsAt w g g2 n ws) (hi : i < n) (hs : bitAt ws i = on) :
    Calls Tryd.prog 13 #[.pointer (some ⟨g, 0, none⟩), .int .i64 (i : Int), .bool on] w (SetPost w g g2 n ws false) := by
  subst hs
  go_enter Tryd.func13, Tryd.ntmps13
  go_wp2_with (first | (go_at_call 47; (with_reducible refine (may_yes _ _ _ _ _ _ h hi).mono ?_); rintro e w' ⟨rfl, rfl⟩) | (go_at_call 15; (with_reducible refine (has_in _ _ _ _ _ _ h hi).mono ?_); rintro e w' ⟨rfl, rfl⟩))
  go_ret
  exact ⟨rfl, h, fun B _ => Below.refl _ _, rfl, fun _ _ => rfl⟩
set_option maxHeartbeats 1000000 in
theorem set_flip (g g2 n i : Nat) (on : Bool) (ws : List Nat) (w : World) (h : BitsAt w g g2 n ws) (hi : i < n) (hs : bitAt ws i = !on) :
    Calls Tryd.prog 13 #[.pointer (some ⟨g, 0, none⟩), .int .i64 (i : Int), .bool on] w (SetPost w g g2 n (flip ws i) true) := by
  obtain ⟨cc, c1⟩ := h.c1
  have hix := h.idx hi
  have c2 := h.cw_ hix
  have hfr := h.free (i / 64)
  have hsm := h.small
  have hw : IntKind.u64.wrap (2 ^ (i % 64)) = 2 ^ (i % 64) := wrap_two (by omega)
  have HF := Lib.hid (flip_w h hi)
  have HS := Lib.hid hs
  clear hs
  go_enter Tryd.func13, Tryd.ntmps13
  go_wp2_with (first | (go_at_call 47; (with_reducible refine (may_yes _ _ _ _ _ _ h hi).mono ?_); rintro e w' ⟨rfl, rfl⟩) | (go_at_call 15; (with_reducible refine (has_in _ _ _ _ _ _ h hi).mono ?_); rintro e w' ⟨rfl, rfl⟩; rw [HS.out]))
  go_region
  all_goals go_wp2
  all_goals go_ret
  all_goals exact ⟨rfl, h.drew.flipped hi HF.out, fun B hB => ((Below.refl _ _).drew).setCell hB _, by simp [World.setCell], fun k hk => Below.heap_setCell w.drew ⟨g2, i / 64, none⟩ _ k hk⟩
theorem below_in (i : Nat) (w : World) (hi : i ≤ 16777216) :
    Calls Tryd.prog 48 #[.int .i64 (i : Int)] w fun e w' => e = .returned (.int .u64 ((2 ^ (i % 64) - 1 : Nat) : Int)) ∧ w = w' := by
  have hw : IntKind.u64.wrap (2 ^ (i % 64)) = 2 ^ (i % 64) := wrap_two (by omega)
  have hw2 : IntKind.u64.wrap (2 ^ (i % 64) - 1) = ((2 ^ (i % 64) - 1 : Nat) : Int) := wrap_two1 (by omega)
  go_enter Tryd.func48, Tryd.ntmps48
  go_wp2
  go_ret
  exact ⟨rfl, rfl⟩

/-! ### Next -/
/-- what the walks read of the program's own table -/
def EnvB (w : World) : Prop := ∀ j, j < 64 → w.cell? ⟨0, j, none⟩ = some (.int .u8 ((Lib.deBruijn64tab.getD j 0 : Nat) : Int))
theorem EnvB.lt {w : World} (h : EnvB w) : 0 < w.heap.size := by
  have h0 := h 0 (by omega)
  rcases Nat.lt_or_ge 0 w.heap.size with h1 | h1
  · exact h1
  · exfalso
    unfold World.cell? at h0
    simp [Array.getElem?_eq_none h1] at h0
theorem EnvB.below {w w' : World} (h : EnvB w) (hb : Below w.heap.size w w') : EnvB w' := fun j hj => (hb.cell (p := ⟨0, j, none⟩) h.lt).trans (h j hj)
theorem tz_key {x a : Nat} (hx : x < 18446744073709551616) (hlow : x &&& (18446744073709551616 - x) = a) :
    IntKind.u64.wrap (bits BinOp.and IntKind.u64 (x : Int) (IntKind.u64.wrap (-(x : Int))) * 285870213051353865) / 288230376151711744 = ((a * 285870213051353865 % 18446744073709551616 / 288230376151711744 : Nat) : Int) := by
  by_cases h0 : x = 0
  · subst h0
    simp at hlow
    subst hlow
    decide
  · have e1 : IntKind.u64.wrap (-(x : Int)) = ((18446744073709551616 - x : Nat) : Int) := by rw [IntKind.wrap_u64]; omega
    rw [e1, u64_and_nat x _ hx (by omega), hlow, IntKind.wrap_u64]
    omega
theorem tz_core (x k idx : Nat) (w : World) (hz : ((x : Int) == 0) = false)
    (key : IntKind.u64.wrap (bits BinOp.and IntKind.u64 (x : Int) (IntKind.u64.wrap (-(x : Int))) * 285870213051353865) / 288230376151711744 = (idx : Int))
    (hi : idx < 64) (_hk : k < 64) (hcell : w.cell? ⟨0, idx, none⟩ = some (.int .u8 (k : Int))) :
    Calls Tryd.prog 49 #[.int .u64 (x : Int)] w fun e w' => e = .returned (.int .i64 (k : Int)) ∧ w = w' := by
  go_enter Tryd.func49, Tryd.ntmps49
  go_wp2_with (simp only [key])
  go_ret
  exact ⟨rfl, rfl⟩
theorem tz_any (x : Nat) (w : World) (hx : x < 18446744073709551616) (h0 : x ≠ 0) (he : EnvB w) :
    Calls Tryd.prog 49 #[.int .u64 (x : Int)] w fun e w' => e = .returned (.int .i64 (Lib.ctz 64 x : Nat)) ∧ w = w' := by
  obtain ⟨hlow, hk⟩ := Lib.lowest_bit 64 x h0 hx
  obtain ⟨hi, htab⟩ := Lib.deBruijn64_at _ hk
  have hcell := he _ hi
  rw [htab] at hcell
  exact tz_core x _ _ w (by simp; omega) (tz_key hx hlow) hi hk hcell
end Go.Proofs.YthklbpcpmmpfmaaDoor.Fl
