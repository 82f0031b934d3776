/-
  The walk of HeadBits.
-/
import Derived.Test.YtmlfooofgedmaaaWkHeadPacks
import Derived.RegionTactic
import Derived.ChangeAlike
namespace Go.Proofs.Ytmlfooofgedmaaa.Fl
open Go.RowKit

set_option maxHeartbeats 4000000 in
theorem bits_no (cl kind size hash n : Int) (mark : Bool) (w : World) (c0 : 0 ≤ cl) (c1 : cl ≤ 18446744073709551615) (hE : hErr cl kind size hash ≠ 0) :
    Calls Try.prog 6 #[.agg #[.int .u64 cl, .int .i64 kind, .int .i64 size, .int .u32 hash, .bool mark], .int .i64 n] w fun e w' => e = .returned (.bool true) ∧ Below w.heap.size w w' := by
  have h1 := fun w' => pack_no cl kind size hash mark w' c0 c1 hE
  have h5 := fun w' => own_hd cl kind size hash mark w'
  have hne : (hErr cl kind size hash != 0) = true := by simp [hE]
  clear hE c1
  generalize hErr cl kind size hash = E at *
  go_enter Try.func6, Try.ntmps6
  go_wp2_with fail
  refine (awake_hd _).mono ?_
  rintro e w1 ⟨rfl, hb1⟩
  have s1 := hb1.size
  simp at s1
  have t1 : w.heap.size < w1.heap.size := by omega
  obtain ⟨i1, _⟩ := bcell hb1
  go_wp2_with fail
  refine (h5 _).mono ?_
  rintro e w2 ⟨rfl, hb2⟩
  have s2 := hb2.size
  have hbw2 : Below w.heap.size w w2 := ((Below.refl _ _).alloc (Nat.le_refl _) _).trans ((hb1.mono (by simp)).trans (hb2.mono (by omega)))
  clear i1 hb1 hb2
  go_wp2_with fail
  refine (h1 _).mono ?_
  rintro e w3 ⟨rfl, hb3⟩
  have s3 := hb3.size
  have hbw3 := hbw2.trans (hb3.mono (by omega))
  go_wp2_with fail
  go_ret
  exact ⟨rfl, hbw3.alloc (by omega) _⟩
theorem at_ex (n : Int) : ∃ i j : Nat, i ≤ 1 ∧ j < 64 ∧ (wrap64 (n.tmod 128 + 128)).tmod 128 = ((64 * i + j : Nat) : Int) := by
  have h1 := Int.tmod_lt_of_pos n (b := 128) (by omega)
  have h2 : -128 < n.tmod 128 := by
    have := Int.tmod_lt_of_pos (-n) (b := 128) (by omega)
    rw [Int.neg_tmod] at this
    omega
  have h3 : wrap64 (n.tmod 128 + 128) = n.tmod 128 + 128 := by unfold wrap64; omega
  rw [h3]
  have h4 := Int.tmod_nonneg (a := n.tmod 128 + 128) 128 (by omega)
  have h5 := Int.tmod_lt_of_pos (n.tmod 128 + 128) (b := 128) (by omega)
  generalize (n.tmod 128 + 128).tmod 128 = A at h4 h5
  exact ⟨A.toNat / 64, A.toNat % 64, by omega, by omega, by omega⟩
theorem two64 {m : Nat} (h : m < 64) : 2 ^ m < 18446744073709551616 := by
  have : 2 ^ m ≤ 2 ^ 63 := Nat.pow_le_pow_right (by decide) (by omega)
  have e : (2 : Nat) ^ 63 = 9223372036854775808 := by decide
  omega
theorem wrap2 {m : Nat} (h : m < 64) : IntKind.u64.wrap (2 ^ m) = 2 ^ m := by
  have := two64 h
  rw [show (2 : Int) ^ m = ((2 ^ m : Nat) : Int) by simp, IntKind.wrap_u64]
  generalize (2 : Nat) ^ m = p at this ⊢
  omega
/-- a word with one bit turned -/
def turn (x : Int) (j : Nat) : Int := bits .xor .u64 x (2 ^ j)
theorem turn_ne {x : Int} {j : Nat} (h0 : 0 ≤ x) (h1 : x < 18446744073709551616) (hj : j < 64) : turn x j ≠ x ∧ 0 ≤ turn x j ∧ turn x j ≤ 18446744073709551615 := by
  obtain ⟨y, rfl⟩ := Int.eq_ofNat_of_zero_le h0
  unfold turn
  have h2 := two64 hj
  rw [show (2 : Int) ^ j = ((2 ^ j : Nat) : Int) by simp, u64_xor_nat _ _ (by omega) h2]
  have h3 : y ^^^ 2 ^ j < 2 ^ 64 := Nat.xor_lt_two_pow (by have : (2 : Nat) ^ 64 = 18446744073709551616 := by decide
                                                           omega) (by have : (2 : Nat) ^ 64 = 18446744073709551616 := by decide
                                                                      omega)
  have e64 : (2 : Nat) ^ 64 = 18446744073709551616 := by decide
  refine ⟨fun e => ?_, by omega, by omega⟩
  have e' : y ^^^ 2 ^ j = y := by exact_mod_cast e
  have := congrArg (fun z => z.testBit j) e'
  simp [Nat.testBit_xor, Nat.testBit_two_pow] at this

theorem cellsI_nn {a : Int} (b : Int) (hE : hErr a (zK b) (zS b) (zH b) = 0) : 0 ≤ cellsI a (zK b) (zS b) (zH b) := by
  obtain ⟨_, ⟨s0, s1⟩, _, _⟩ := hErr_ok hE
  unfold cellsI
  rw [if_pos hE]
  split <;> omega
/-- two words that are no other head's are another head -/
theorem other {a b cl kind size hash : Int} {mark : Bool} (b0 : 0 ≤ b) (hG : zGap b.toNat = 0) (h : ¬ (a = cl ∧ b = pkI kind size hash mark)) :
    (a == cl && zK b == kind && zS b == size && zH b == hash && zM b == mark) = false := by
  rw [Bool.eq_false_iff]
  intro e
  simp only [Bool.and_eq_true, beq_iff_eq] at e
  obtain ⟨⟨⟨⟨e1, e2⟩, e3⟩, e4⟩, e5⟩ := e
  refine h ⟨e1, ?_⟩
  rw [← e2, ← e3, ← e4, ← e5]
  exact ((pkI_back b0).2 hG).symm

set_option maxHeartbeats 4000000 in
theorem bits_0_none (cl kind size hash n X Y : Int) (j : Nat) (mark : Bool) (w : World) (hj : j < 64) (hA : (wrap64 (n.tmod 128 + 128)).tmod 128 = ((j : Nat) : Int))
    (h1 : ∀ w', Calls Try.prog 10 #[.agg #[.int .u64 cl, .int .i64 kind, .int .i64 size, .int .u32 hash, .bool mark]] w' fun e w'' => e = .returned (.tuple #[.agg #[.int .u64 cl, .int .u64 X], .int .i64 0]) ∧ Below w'.heap.size w' w'')
    (hY : bits .xor .u64 cl (2 ^ j) = Y)
    (h6 : ∀ w', Calls Try.prog 15 #[.agg #[.int .u64 Y, .int .u64 X]] w' fun e w'' => e = .returned (.tuple #[.agg #[.int .u64 0, .int .i64 0, .int .i64 0, .int .u32 0, .bool false], .int .i64 3]) ∧ Below w'.heap.size w' w'') :
    Calls Try.prog 6 #[.agg #[.int .u64 cl, .int .i64 kind, .int .i64 size, .int .u32 hash, .bool mark], .int .i64 n] w fun e w' => e = .returned (.bool true) ∧ Below w.heap.size w w' := by
  have h5 := fun w' => own_hd cl kind size hash mark w'
  have hp := wrap2 hj
  have e1 : ((j : Nat) : Int) / 64 = 0 := by omega
  have e2 : ((j : Nat) : Int) % 64 = (j : Int) := by omega
  have e3 : (j : Int) % 64 = (j : Int) := by omega
  go_enter Try.func6, Try.ntmps6
  go_wp2_with fail
  refine (awake_hd _).mono ?_
  rintro e w1 ⟨rfl, hb1⟩
  have s1 := hb1.size
  simp at s1
  have t1 : w.heap.size < w1.heap.size := by omega
  obtain ⟨i1, _⟩ := bcell hb1
  go_wp2_with fail
  refine (h5 _).mono ?_
  rintro e w2 ⟨rfl, hb2⟩
  have s2 := hb2.size
  have B1 : w2.heap[w.heap.size]? = some (.cells #[.int .u64 cl, .int .i64 kind, .int .i64 size, .int .u32 hash, .bool mark] 25 (0, 0)) := by
    rw [hb2.block _ t1, hb1.block _ (by simp)]; exact heap_alloc_new w _
  have hbw2 : Below w.heap.size w w2 := ((Below.refl _ _).alloc (Nat.le_refl _) _).trans ((hb1.mono (by simp)).trans (hb2.mono (by omega)))
  clear i1 hb1 hb2
  go_wp2_with fail
  refine (h1 _).mono ?_
  rintro e w3 ⟨rfl, hb3⟩
  have s3 := hb3.size
  have B2 := (hb3.block w.heap.size (by omega)).trans B1
  have hbw3 := hbw2.trans (hb3.mono (by omega))
  have t3 : w.heap.size < w3.heap.size := by omega
  clear hb3 B1 hbw2
  go_wp2_with fail
  go_region
  obtain ⟨wr, hwr⟩ : ∃ wr, (w3.alloc (.cells #[.int .u64 Y, .int .u64 X] 28)).drew = wr := ⟨_, rfl⟩
  have B3 : wr.heap[w.heap.size]? = some (.cells #[.int .u64 cl, .int .i64 kind, .int .i64 size, .int .u32 hash, .bool mark] 25 (0, 0)) := by
    rw [← hwr]; show (w3.alloc _).heap[w.heap.size]? = _; rw [heap_alloc_old _ _ t3]; exact B2
  have C3 : wr.heap[w3.heap.size]? = some (.cells #[.int .u64 Y, .int .u64 X] 28 (0, 0)) := by
    rw [← hwr]; exact heap_alloc_new w3 _
  have hbr : Below w.heap.size w wr := by rw [← hwr]; exact (hbw3.alloc (by omega) _).drew
  have l3 : w3.heap.size < wr.heap.size := by rw [← hwr]; show w3.heap.size < (w3.alloc _).heap.size; simp
  have l1 : w.heap.size < wr.heap.size := by omega
  rw [hwr]
  clear hwr hbw3 B2
  generalize w3.heap.size = g3 at *
  have f3 := two C3
  go_wp2_with fail
  refine (h6 _).mono ?_
  rintro e w4 ⟨rfl, hb4⟩
  have s4 := hb4.size
  have B4 := (hb4.block w.heap.size l1).trans B3
  have l4 : w.heap.size < w4.heap.size := by omega
  have hbw4 := hbr.trans (hb4.mono (by omega))
  clear hb4 B3 hbr f3 C3
  go_wp2_with fail
  go_ret
  exact ⟨rfl, hbw4.alloc (by omega) _⟩
set_option maxHeartbeats 4000000 in
theorem bits_0_fine (cl kind size hash n X Y : Int) (j : Nat) (mark : Bool) (w : World) (hj : j < 64) (hA : (wrap64 (n.tmod 128 + 128)).tmod 128 = ((j : Nat) : Int))
    (h1 : ∀ w', Calls Try.prog 10 #[.agg #[.int .u64 cl, .int .i64 kind, .int .i64 size, .int .u32 hash, .bool mark]] w' fun e w'' => e = .returned (.tuple #[.agg #[.int .u64 cl, .int .u64 X], .int .i64 0]) ∧ Below w'.heap.size w' w'')
    (hY : bits .xor .u64 cl (2 ^ j) = Y)
    (K S H N : Int) (M : Bool)
    (h6 : ∀ w', Calls Try.prog 15 #[.agg #[.int .u64 Y, .int .u64 X]] w' fun e w'' => e = .returned (.tuple #[.agg #[.int .u64 Y, .int .i64 K, .int .i64 S, .int .u32 H, .bool M], .int .i64 0]) ∧ Below w'.heap.size w' w'')
    (h7 : ∀ w', Calls Try.prog 13 #[.agg #[.int .u64 Y, .int .i64 K, .int .i64 S, .int .u32 H, .bool M]] w' fun e w'' => e = .returned (.int .i64 N) ∧ Below w'.heap.size w' w'')
    (hN : 0 ≤ N) (hq : ∀ w', (Op.equalIn 10000 33 (.agg #[.int .u64 Y, .int .i64 K, .int .i64 S, .int .u32 H, .bool M]) (.agg #[.int .u64 cl, .int .i64 kind, .int .i64 size, .int .u32 hash, .bool mark])).run Try.prog w' = .ok false w') :
    Calls Try.prog 6 #[.agg #[.int .u64 cl, .int .i64 kind, .int .i64 size, .int .u32 hash, .bool mark], .int .i64 n] w fun e w' => e = .returned (.bool true) ∧ Below w.heap.size w w' := by
  have h5 := fun w' => own_hd cl kind size hash mark w'
  have hp := wrap2 hj
  have e1 : ((j : Nat) : Int) / 64 = 0 := by omega
  have e2 : ((j : Nat) : Int) % 64 = (j : Int) := by omega
  have e3 : (j : Int) % 64 = (j : Int) := by omega
  go_enter Try.func6, Try.ntmps6
  go_wp2_with fail
  refine (awake_hd _).mono ?_
  rintro e w1 ⟨rfl, hb1⟩
  have s1 := hb1.size
  simp at s1
  have t1 : w.heap.size < w1.heap.size := by omega
  obtain ⟨i1, _⟩ := bcell hb1
  go_wp2_with fail
  refine (h5 _).mono ?_
  rintro e w2 ⟨rfl, hb2⟩
  have s2 := hb2.size
  have B1 : w2.heap[w.heap.size]? = some (.cells #[.int .u64 cl, .int .i64 kind, .int .i64 size, .int .u32 hash, .bool mark] 25 (0, 0)) := by
    rw [hb2.block _ t1, hb1.block _ (by simp)]; exact heap_alloc_new w _
  have hbw2 : Below w.heap.size w w2 := ((Below.refl _ _).alloc (Nat.le_refl _) _).trans ((hb1.mono (by simp)).trans (hb2.mono (by omega)))
  clear i1 hb1 hb2
  go_wp2_with fail
  refine (h1 _).mono ?_
  rintro e w3 ⟨rfl, hb3⟩
  have s3 := hb3.size
  have B2 := (hb3.block w.heap.size (by omega)).trans B1
  have hbw3 := hbw2.trans (hb3.mono (by omega))
  have t3 : w.heap.size < w3.heap.size := by omega
  clear hb3 B1 hbw2
  go_wp2_with fail
  go_region
  obtain ⟨wr, hwr⟩ : ∃ wr, (w3.alloc (.cells #[.int .u64 Y, .int .u64 X] 28)).drew = wr := ⟨_, rfl⟩
  have B3 : wr.heap[w.heap.size]? = some (.cells #[.int .u64 cl, .int .i64 kind, .int .i64 size, .int .u32 hash, .bool mark] 25 (0, 0)) := by
    rw [← hwr]; show (w3.alloc _).heap[w.heap.size]? = _; rw [heap_alloc_old _ _ t3]; exact B2
  have C3 : wr.heap[w3.heap.size]? = some (.cells #[.int .u64 Y, .int .u64 X] 28 (0, 0)) := by
    rw [← hwr]; exact heap_alloc_new w3 _
  have hbr : Below w.heap.size w wr := by rw [← hwr]; exact (hbw3.alloc (by omega) _).drew
  have l3 : w3.heap.size < wr.heap.size := by rw [← hwr]; show w3.heap.size < (w3.alloc _).heap.size; simp
  have l1 : w.heap.size < wr.heap.size := by omega
  rw [hwr]
  clear hwr hbw3 B2
  generalize w3.heap.size = g3 at *
  have f3 := two C3
  go_wp2_with fail
  refine (h6 _).mono ?_
  rintro e w4 ⟨rfl, hb4⟩
  have s4 := hb4.size
  have B4 := (hb4.block w.heap.size l1).trans B3
  have l4 : w.heap.size < w4.heap.size := by omega
  have hbw4 := hbr.trans (hb4.mono (by omega))
  clear hb4 B3 hbr f3 C3
  go_wp2_with fail
  obtain ⟨wz, hwz⟩ : ∃ wz, w4.alloc (.cells #[.int .u64 Y, .int .i64 K, .int .i64 S, .int .u32 H, .bool M] 33) = wz := ⟨_, rfl⟩
  have B5 : wz.heap[w.heap.size]? = some (.cells #[.int .u64 cl, .int .i64 kind, .int .i64 size, .int .u32 hash, .bool mark] 25 (0, 0)) := by
    rw [← hwz, heap_alloc_old _ _ l4]; exact B4
  have D5 : wz.heap[w4.heap.size]? = some (.cells #[.int .u64 Y, .int .i64 K, .int .i64 S, .int .u32 H, .bool M] 33 (0, 0)) := by
    rw [← hwz]; exact heap_alloc_new w4 _
  have hbz : Below w.heap.size w wz := by rw [← hwz]; exact hbw4.alloc (by omega) _
  have k4 : w4.heap.size < wz.heap.size := by rw [← hwz]; simp
  have k1 : w.heap.size < wz.heap.size := by omega
  have sz := hbz.size
  rw [hwz]
  clear hwz hbw4 B4
  generalize w4.heap.size = g4 at *
  obtain ⟨W0, hW0⟩ : ∃ W0, w.heap.size = W0 := ⟨_, rfl⟩
  rw [hW0] at B5 k1 ⊢
  have HW0 := Lib.hid hW0
  clear hW0
  have f1 := five B5
  have f5 := five D5
  have hx := fun (x : Grow wz) => x.cell
  refine wp_region_grow (by kernel_rfl) (by kernel_rfl) ?_
  repeat (go_big_quiet_step ((first
    | (go_at_call 11; exact Grow.call _ (h5 _))
    | (go_at_call 13; exact Grow.call _ (h7 _)))))
  refine wpQuiet_nil ?_
  intro _ hw'
  obtain ⟨x, rfl⟩ := hw'
  have hbx : Below w.heap.size w x.w := hbz.trans (x.below.mono sz)
  go_wp2_with fail
  go_ret
  exact ⟨rfl, HW0.out ▸ hbx⟩
set_option maxHeartbeats 4000000 in
theorem bits_1_none (cl kind size hash n X Y : Int) (j : Nat) (mark : Bool) (w : World) (hj : j < 64) (hA : (wrap64 (n.tmod 128 + 128)).tmod 128 = ((64 + j : Nat) : Int))
    (h1 : ∀ w', Calls Try.prog 10 #[.agg #[.int .u64 cl, .int .i64 kind, .int .i64 size, .int .u32 hash, .bool mark]] w' fun e w'' => e = .returned (.tuple #[.agg #[.int .u64 cl, .int .u64 X], .int .i64 0]) ∧ Below w'.heap.size w' w'')
    (hY : bits .xor .u64 X (2 ^ j) = Y)
    (h6 : ∀ w', Calls Try.prog 15 #[.agg #[.int .u64 cl, .int .u64 Y]] w' fun e w'' => e = .returned (.tuple #[.agg #[.int .u64 0, .int .i64 0, .int .i64 0, .int .u32 0, .bool false], .int .i64 3]) ∧ Below w'.heap.size w' w'') :
    Calls Try.prog 6 #[.agg #[.int .u64 cl, .int .i64 kind, .int .i64 size, .int .u32 hash, .bool mark], .int .i64 n] w fun e w' => e = .returned (.bool true) ∧ Below w.heap.size w w' := by
  have h5 := fun w' => own_hd cl kind size hash mark w'
  have hp := wrap2 hj
  have e1 : ((64 + j : Nat) : Int) / 64 = 1 := by omega
  have e2 : ((64 + j : Nat) : Int) % 64 = (j : Int) := by omega
  have e3 : (j : Int) % 64 = (j : Int) := by omega
  have e4 : (64 + (j : Int)) / 64 = 1 := by omega
  have e5 : (64 + (j : Int)) % 64 = (j : Int) := by omega
  go_enter Try.func6, Try.ntmps6
  go_wp2_with fail
  refine (awake_hd _).mono ?_
  rintro e w1 ⟨rfl, hb1⟩
  have s1 := hb1.size
  simp at s1
  have t1 : w.heap.size < w1.heap.size := by omega
  obtain ⟨i1, _⟩ := bcell hb1
  go_wp2_with fail
  refine (h5 _).mono ?_
  rintro e w2 ⟨rfl, hb2⟩
  have s2 := hb2.size
  have B1 : w2.heap[w.heap.size]? = some (.cells #[.int .u64 cl, .int .i64 kind, .int .i64 size, .int .u32 hash, .bool mark] 25 (0, 0)) := by
    rw [hb2.block _ t1, hb1.block _ (by simp)]; exact heap_alloc_new w _
  have hbw2 : Below w.heap.size w w2 := ((Below.refl _ _).alloc (Nat.le_refl _) _).trans ((hb1.mono (by simp)).trans (hb2.mono (by omega)))
  clear i1 hb1 hb2
  go_wp2_with fail
  refine (h1 _).mono ?_
  rintro e w3 ⟨rfl, hb3⟩
  have s3 := hb3.size
  have B2 := (hb3.block w.heap.size (by omega)).trans B1
  have hbw3 := hbw2.trans (hb3.mono (by omega))
  have t3 : w.heap.size < w3.heap.size := by omega
  clear hb3 B1 hbw2
  go_wp2_with fail
  go_region
  obtain ⟨wr, hwr⟩ : ∃ wr, (w3.alloc (.cells #[.int .u64 cl, .int .u64 Y] 28)).drew = wr := ⟨_, rfl⟩
  have B3 : wr.heap[w.heap.size]? = some (.cells #[.int .u64 cl, .int .i64 kind, .int .i64 size, .int .u32 hash, .bool mark] 25 (0, 0)) := by
    rw [← hwr]; show (w3.alloc _).heap[w.heap.size]? = _; rw [heap_alloc_old _ _ t3]; exact B2
  have C3 : wr.heap[w3.heap.size]? = some (.cells #[.int .u64 cl, .int .u64 Y] 28 (0, 0)) := by
    rw [← hwr]; exact heap_alloc_new w3 _
  have hbr : Below w.heap.size w wr := by rw [← hwr]; exact (hbw3.alloc (by omega) _).drew
  have l3 : w3.heap.size < wr.heap.size := by rw [← hwr]; show w3.heap.size < (w3.alloc _).heap.size; simp
  have l1 : w.heap.size < wr.heap.size := by omega
  rw [hwr]
  clear hwr hbw3 B2
  generalize w3.heap.size = g3 at *
  have f3 := two C3
  go_wp2_with fail
  refine (h6 _).mono ?_
  rintro e w4 ⟨rfl, hb4⟩
  have s4 := hb4.size
  have B4 := (hb4.block w.heap.size l1).trans B3
  have l4 : w.heap.size < w4.heap.size := by omega
  have hbw4 := hbr.trans (hb4.mono (by omega))
  clear hb4 B3 hbr f3 C3
  go_wp2_with fail
  go_ret
  exact ⟨rfl, hbw4.alloc (by omega) _⟩
set_option maxHeartbeats 4000000 in
theorem bits_1_fine (cl kind size hash n X Y : Int) (j : Nat) (mark : Bool) (w : World) (hj : j < 64) (hA : (wrap64 (n.tmod 128 + 128)).tmod 128 = ((64 + j : Nat) : Int))
    (h1 : ∀ w', Calls Try.prog 10 #[.agg #[.int .u64 cl, .int .i64 kind, .int .i64 size, .int .u32 hash, .bool mark]] w' fun e w'' => e = .returned (.tuple #[.agg #[.int .u64 cl, .int .u64 X], .int .i64 0]) ∧ Below w'.heap.size w' w'')
    (hY : bits .xor .u64 X (2 ^ j) = Y)
    (K S H N : Int) (M : Bool)
    (h6 : ∀ w', Calls Try.prog 15 #[.agg #[.int .u64 cl, .int .u64 Y]] w' fun e w'' => e = .returned (.tuple #[.agg #[.int .u64 cl, .int .i64 K, .int .i64 S, .int .u32 H, .bool M], .int .i64 0]) ∧ Below w'.heap.size w' w'')
    (h7 : ∀ w', Calls Try.prog 13 #[.agg #[.int .u64 cl, .int .i64 K, .int .i64 S, .int .u32 H, .bool M]] w' fun e w'' => e = .returned (.int .i64 N) ∧ Below w'.heap.size w' w'')
    (hN : 0 ≤ N) (hq : ∀ w', (Op.equalIn 10000 33 (.agg #[.int .u64 cl, .int .i64 K, .int .i64 S, .int .u32 H, .bool M]) (.agg #[.int .u64 cl, .int .i64 kind, .int .i64 size, .int .u32 hash, .bool mark])).run Try.prog w' = .ok false w') :
    Calls Try.prog 6 #[.agg #[.int .u64 cl, .int .i64 kind, .int .i64 size, .int .u32 hash, .bool mark], .int .i64 n] w fun e w' => e = .returned (.bool true) ∧ Below w.heap.size w w' := by
  have h5 := fun w' => own_hd cl kind size hash mark w'
  have hp := wrap2 hj
  have e1 : ((64 + j : Nat) : Int) / 64 = 1 := by omega
  have e2 : ((64 + j : Nat) : Int) % 64 = (j : Int) := by omega
  have e3 : (j : Int) % 64 = (j : Int) := by omega
  have e4 : (64 + (j : Int)) / 64 = 1 := by omega
  have e5 : (64 + (j : Int)) % 64 = (j : Int) := by omega
  go_enter Try.func6, Try.ntmps6
  go_wp2_with fail
  refine (awake_hd _).mono ?_
  rintro e w1 ⟨rfl, hb1⟩
  have s1 := hb1.size
  simp at s1
  have t1 : w.heap.size < w1.heap.size := by omega
  obtain ⟨i1, _⟩ := bcell hb1
  go_wp2_with fail
  refine (h5 _).mono ?_
  rintro e w2 ⟨rfl, hb2⟩
  have s2 := hb2.size
  have B1 : w2.heap[w.heap.size]? = some (.cells #[.int .u64 cl, .int .i64 kind, .int .i64 size, .int .u32 hash, .bool mark] 25 (0, 0)) := by
    rw [hb2.block _ t1, hb1.block _ (by simp)]; exact heap_alloc_new w _
  have hbw2 : Below w.heap.size w w2 := ((Below.refl _ _).alloc (Nat.le_refl _) _).trans ((hb1.mono (by simp)).trans (hb2.mono (by omega)))
  clear i1 hb1 hb2
  go_wp2_with fail
  refine (h1 _).mono ?_
  rintro e w3 ⟨rfl, hb3⟩
  have s3 := hb3.size
  have B2 := (hb3.block w.heap.size (by omega)).trans B1
  have hbw3 := hbw2.trans (hb3.mono (by omega))
  have t3 : w.heap.size < w3.heap.size := by omega
  clear hb3 B1 hbw2
  go_wp2_with fail
  go_region
  obtain ⟨wr, hwr⟩ : ∃ wr, (w3.alloc (.cells #[.int .u64 cl, .int .u64 Y] 28)).drew = wr := ⟨_, rfl⟩
  have B3 : wr.heap[w.heap.size]? = some (.cells #[.int .u64 cl, .int .i64 kind, .int .i64 size, .int .u32 hash, .bool mark] 25 (0, 0)) := by
    rw [← hwr]; show (w3.alloc _).heap[w.heap.size]? = _; rw [heap_alloc_old _ _ t3]; exact B2
  have C3 : wr.heap[w3.heap.size]? = some (.cells #[.int .u64 cl, .int .u64 Y] 28 (0, 0)) := by
    rw [← hwr]; exact heap_alloc_new w3 _
  have hbr : Below w.heap.size w wr := by rw [← hwr]; exact (hbw3.alloc (by omega) _).drew
  have l3 : w3.heap.size < wr.heap.size := by rw [← hwr]; show w3.heap.size < (w3.alloc _).heap.size; simp
  have l1 : w.heap.size < wr.heap.size := by omega
  rw [hwr]
  clear hwr hbw3 B2
  generalize w3.heap.size = g3 at *
  have f3 := two C3
  go_wp2_with fail
  refine (h6 _).mono ?_
  rintro e w4 ⟨rfl, hb4⟩
  have s4 := hb4.size
  have B4 := (hb4.block w.heap.size l1).trans B3
  have l4 : w.heap.size < w4.heap.size := by omega
  have hbw4 := hbr.trans (hb4.mono (by omega))
  clear hb4 B3 hbr f3 C3
  go_wp2_with fail
  obtain ⟨wz, hwz⟩ : ∃ wz, w4.alloc (.cells #[.int .u64 cl, .int .i64 K, .int .i64 S, .int .u32 H, .bool M] 33) = wz := ⟨_, rfl⟩
  have B5 : wz.heap[w.heap.size]? = some (.cells #[.int .u64 cl, .int .i64 kind, .int .i64 size, .int .u32 hash, .bool mark] 25 (0, 0)) := by
    rw [← hwz, heap_alloc_old _ _ l4]; exact B4
  have D5 : wz.heap[w4.heap.size]? = some (.cells #[.int .u64 cl, .int .i64 K, .int .i64 S, .int .u32 H, .bool M] 33 (0, 0)) := by
    rw [← hwz]; exact heap_alloc_new w4 _
  have hbz : Below w.heap.size w wz := by rw [← hwz]; exact hbw4.alloc (by omega) _
  have k4 : w4.heap.size < wz.heap.size := by rw [← hwz]; simp
  have k1 : w.heap.size < wz.heap.size := by omega
  have sz := hbz.size
  rw [hwz]
  clear hwz hbw4 B4
  generalize w4.heap.size = g4 at *
  obtain ⟨W0, hW0⟩ : ∃ W0, w.heap.size = W0 := ⟨_, rfl⟩
  rw [hW0] at B5 k1 ⊢
  have HW0 := Lib.hid hW0
  clear hW0
  have f1 := five B5
  have f5 := five D5
  have hx := fun (x : Grow wz) => x.cell
  refine wp_region_grow (by kernel_rfl) (by kernel_rfl) ?_
  repeat (go_big_quiet_step ((first
    | (go_at_call 11; exact Grow.call _ (h5 _))
    | (go_at_call 13; exact Grow.call _ (h7 _)))))
  refine wpQuiet_nil ?_
  intro _ hw'
  obtain ⟨x, rfl⟩ := hw'
  have hbx : Below w.heap.size w x.w := hbz.trans (x.below.mono sz)
  go_wp2_with fail
  go_ret
  exact ⟨rfl, HW0.out ▸ hbx⟩
theorem walk_HeadBits (cl kind size hash : Int) (mark : Bool) (n : Int) (w : World) (w0 : (Lit.int .u64 cl).wf = true) (w1 : (Lit.int .i64 kind).wf = true) (w2 : (Lit.int .i64 size).wf = true) (w3 : (Lit.int .u32 hash).wf = true) (w4 : (Lit.int .i64 n).wf = true) :
    Calls Try.prog 6 #[.agg #[.int .u64 cl, .int .i64 kind, .int .i64 size, .int .u32 hash, .bool mark], .int .i64 n] w fun e w' => e = .returned (.bool true) ∧ Below w.heap.size w w' := by
  obtain ⟨c0, c1⟩ := bounds_u64 w0
  have z0 := (bounds_u32 w3).1
  by_cases hE : hErr cl kind size hash = 0
  · obtain ⟨_, ⟨s0, s1⟩, z1, ⟨k0, k1⟩⟩ := hErr_ok hE
    have h1 := fun w' => pack_yes cl kind size hash mark w' c0 c1 z0 hE
    obtain ⟨p0, p1⟩ := pkI_lt mark k0 k1 s0 s1 z0 z1
    obtain ⟨i, j, hi, hj, hA⟩ := at_ex n
    have hi' : i = 0 ∨ i = 1 := by omega
    rcases hi' with rfl | rfl
    · rw [show 64 * 0 + j = j by omega] at hA
      obtain ⟨y1, y2, y3⟩ := turn_ne (x := cl) c0 (by omega) hj
      generalize hX : pkI kind size hash mark = X at *
      generalize hT : turn cl j = Y at *
      by_cases hF : hErr Y (zK X) (zS X) (zH X) = 0 ∧ zGap X.toNat = 0
      · refine bits_0_fine cl kind size hash n X Y j mark w hj hA h1 hT _ _ _ _ _ (fun w' => unpack_yes Y X w' y2 y3 p0 (by omega) hF.1 hF.2) (fun w' => cells_any _ _ _ _ _ w' y2 y3) (cellsI_nn X hF.1) (fun w' => ?_)
        rw [eq_hd, other p0 hF.2 (fun h => y1 h.1)]
      · exact bits_0_none cl kind size hash n X Y j mark w hj hA h1 hT (fun w' => unpack_no Y X w' y2 y3 p0 (by omega) hF)
    · rw [show 64 * 1 + j = 64 + j by omega] at hA
      obtain ⟨y1, y2, y3⟩ := turn_ne (x := pkI kind size hash mark) p0 p1 hj
      generalize hT : turn (pkI kind size hash mark) j = Y at *
      by_cases hF : hErr cl (zK Y) (zS Y) (zH Y) = 0 ∧ zGap Y.toNat = 0
      · refine bits_1_fine cl kind size hash n _ Y j mark w hj hA h1 hT _ _ _ _ _ (fun w' => unpack_yes cl Y w' c0 c1 y2 y3 hF.1 hF.2) (fun w' => cells_any _ _ _ _ _ w' c0 c1) (cellsI_nn Y hF.1) (fun w' => ?_)
        rw [eq_hd, other y2 hF.2 (fun h => y1 h.2)]
      · exact bits_1_none cl kind size hash n _ Y j mark w hj hA h1 hT (fun w' => unpack_no cl Y w' c0 c1 y2 y3 hF)
  · exact bits_no cl kind size hash n mark w c0 c1 hE
end Go.Proofs.Ytmlfooofgedmaaa.Fl
