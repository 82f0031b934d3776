/-
  The walk of HeadUnpacks.
-/
import Derived.Test.YtmlfooofgedmaaaHeadF
import Derived.OpenShut
import Derived.Test.YtmlfooofgedmaaaGrow
namespace Go.Proofs.Ytmlfooofgedmaaa.Fl
open Go.RowKit

theorem five {w : World} {g : Nat} {v0 v1 v2 v3 v4 : Value} {T : TypeId} (h : w.heap[g]? = some (.cells #[v0, v1, v2, v3, v4] T (0, 0))) :
    w.cell? ⟨g, 0, none⟩ = some v0 ∧ w.cell? ⟨g, 1, none⟩ = some v1 ∧ w.cell? ⟨g, 2, none⟩ = some v2 ∧ w.cell? ⟨g, 3, none⟩ = some v3 ∧ w.cell? ⟨g, 4, none⟩ = some v4 :=
  ⟨cell_of_row _ _ _ _ _ _ h, cell_of_row _ _ _ _ _ _ h, cell_of_row _ _ _ _ _ _ h, cell_of_row _ _ _ _ _ _ h, cell_of_row _ _ _ _ _ _ h⟩
theorem eq_hd (a b c d a' b' c' d' : Int) (m m' : Bool) (w : World) : (Op.equalIn 10000 33 (.agg #[.int .u64 a, .int .i64 b, .int .i64 c, .int .u32 d, .bool m]) (.agg #[.int .u64 a', .int .i64 b', .int .i64 c', .int .u32 d', .bool m'])).run Try.prog w = .ok (a == a' && b == b' && c == c' && d == d' && m == m') w := by
  have hS : Try.prog.underlying 33 = some (.struct (Try.prog.fieldsOf 33)) := by kernel_rfl
  rw [show (10000 : Nat) = 9999 + 1 from rfl, run_equalIn_agg w 9999 33 _ _ hS (by kernel_rfl)]
  simp only [Program.fieldsOf, Try.underlying33]
  go_simp
  by_cases h1 : a = a' <;> by_cases h2 : b = b' <;> by_cases h3 : c = c' <;> by_cases h4 : d = d' <;> by_cases h5 : m = m' <;> simp [h1, h2, h3, h4, h5]
set_option maxHeartbeats 4000000 in
theorem unpacks_yes (a b : Int) (w : World) (a0 : 0 ≤ a) (a1 : a ≤ 18446744073709551615) (b0 : 0 ≤ b) (b1 : b ≤ 18446744073709551615) (hE : hErr a (zK b) (zS b) (zH b) = 0) (hG : zGap b.toNat = 0) :
    Calls Try.prog 4 #[.int .u64 a, .int .u64 b] w fun e w' => e = .returned (.bool true) ∧ Below w.heap.size w w' := by
  have h1 := fun w' => unpack_yes a b w' a0 a1 b0 b1 hE hG
  have h2 := fun w' => runpack_yes a b w' a0 b0 b1 hE hG
  have h3 := fun w' => pack_yes a (zK b) (zS b) (zH b) (zM b) w' a0 a1 (zH_bd b1).1 hE
  rw [(pkI_back b0).2 hG] at h3
  have h4 := fun w' => own_hd a (zK b) (zS b) (zH b) (zM b) w'
  clear hE hG a1 b1
  generalize zK b = K at *
  generalize zS b = S at *
  generalize zH b = H at *
  generalize zM b = M at *
  go_enter Try.func4, Try.ntmps4
  go_wp2_with fail
  refine (awake_hd _).mono ?_
  rintro e w1 ⟨rfl, hb1⟩
  go_wp2_with fail
  refine (h1 _).mono ?_
  rintro e w2 ⟨rfl, hb2⟩
  have s2 := hb2.size
  go_wp2_with fail
  refine (h2 _).mono ?_
  rintro e w3 ⟨rfl, hb3⟩
  have s3 := hb3.size
  simp at s3
  go_wp2_with fail
  have hb23 : Below w2.heap.size w2 w3 := ((Below.refl _ _).alloc (Nat.le_refl _) _).trans (hb3.mono (by simp))
  have hb24 : Below w2.heap.size w2 (w3.alloc (.cells #[.int .u64 a, .int .i64 K, .int .i64 S, .int .u32 H, .bool M] 25)) := hb23.alloc (by omega) _
  have B5 : (w3.alloc (.cells #[.int .u64 a, .int .i64 K, .int .i64 S, .int .u32 H, .bool M] 25)).heap[w2.heap.size]? = some (.cells #[.int .u64 a, .int .i64 K, .int .i64 S, .int .u32 H, .bool M] 33 (0, 0)) := by
    rw [heap_alloc_old _ _ (by omega), hb3.block _ (by simp)]; exact heap_alloc_new w2 _
  have B7 : (w3.alloc (.cells #[.int .u64 a, .int .i64 K, .int .i64 S, .int .u32 H, .bool M] 25)).heap[w3.heap.size]? = some (.cells #[.int .u64 a, .int .i64 K, .int .i64 S, .int .u32 H, .bool M] 25 (0, 0)) := heap_alloc_new w3 _
  have hbr : Below w.heap.size w (w3.alloc (.cells #[.int .u64 a, .int .i64 K, .int .i64 S, .int .u32 H, .bool M] 25)) := hb1.trans ((hb2.mono hb1.size).trans (hb24.mono (by have := hb1.size; omega)))
  have l5 : w2.heap.size < (w3.alloc (.cells #[.int .u64 a, .int .i64 K, .int .i64 S, .int .u32 H, .bool M] 25)).heap.size := by simp; omega
  have l7 : w3.heap.size < (w3.alloc (.cells #[.int .u64 a, .int .i64 K, .int .i64 S, .int .u32 H, .bool M] 25)).heap.size := by simp
  have sz := hbr.size
  generalize w3.alloc (.cells #[.int .u64 a, .int .i64 K, .int .i64 S, .int .u32 H, .bool M] 25) = wr at B5 B7 hbr l5 l7 sz ⊢
  generalize w3.heap.size = g7 at *
  generalize w2.heap.size = g5 at *
  have f5 := five B5
  have f7 := five B7
  clear hb24 hb23 hb3 hb2 hb1 s2 s3 h1 h2
  have hx := fun (x : Grow wr) => x.cell
  refine wp_region_grow (by kernel_rfl) (by kernel_rfl) ?_
  repeat (go_big_quiet_step ((go_at_call 11; exact Grow.call _ (h4 _))))
  refine wpQuiet_nil ?_
  intro _ hw'
  obtain ⟨x, rfl⟩ := hw'
  have hbx : Below w.heap.size w x.w := hbr.trans (x.below.mono sz)
  have sx := x.size
  have x5 := five (x.below.block _ l5 |>.trans B5)
  have hq := eq_pair a b a b
  rw [show (a == a && b == b) = true by simp] at hq
  generalize x.w = wx at hbx sx x5
  clear f5 f7 hx B5 B7 x
  go_wp2_with fail
  refine (h3 _).mono ?_
  rintro e w5 ⟨rfl, hb5⟩
  go_wp2_with fail
  go_ret
  exact ⟨rfl, (hbx.trans (hb5.mono (by omega))).alloc (by have := hb5.size; omega) _⟩
set_option maxHeartbeats 4000000 in
theorem unpacks_no (a b : Int) (w : World) (a0 : 0 ≤ a) (a1 : a ≤ 18446744073709551615) (b0 : 0 ≤ b) (b1 : b ≤ 18446744073709551615) (hE : ¬ (hErr a (zK b) (zS b) (zH b) = 0 ∧ zGap b.toNat = 0)) :
    Calls Try.prog 4 #[.int .u64 a, .int .u64 b] w fun e w' => e = .returned (.bool true) ∧ Below w.heap.size w w' := by
  have h1 := fun w' => unpack_no a b w' a0 a1 b0 b1 hE
  have h2 := fun w' => runpack_no a b w' a0 b0 b1 hE
  have h4 := fun w' => own_hd 0 0 0 0 false w'
  clear hE a1 b1
  go_enter Try.func4, Try.ntmps4
  go_wp2_with fail
  refine (awake_hd _).mono ?_
  rintro e w1 ⟨rfl, hb1⟩
  go_wp2_with fail
  refine (h1 _).mono ?_
  rintro e w2 ⟨rfl, hb2⟩
  have s2 := hb2.size
  go_wp2_with fail
  refine (h2 _).mono ?_
  rintro e w3 ⟨rfl, hb3⟩
  have s3 := hb3.size
  simp at s3
  go_wp2_with fail
  have hb23 : Below w2.heap.size w2 w3 := ((Below.refl _ _).alloc (Nat.le_refl _) _).trans (hb3.mono (by simp))
  have hb24 : Below w2.heap.size w2 (w3.alloc (.cells #[.int .u64 0, .int .i64 0, .int .i64 0, .int .u32 0, .bool false] 25)) := hb23.alloc (by omega) _
  have B5 : (w3.alloc (.cells #[.int .u64 0, .int .i64 0, .int .i64 0, .int .u32 0, .bool false] 25)).heap[w2.heap.size]? = some (.cells #[.int .u64 0, .int .i64 0, .int .i64 0, .int .u32 0, .bool false] 33 (0, 0)) := by
    rw [heap_alloc_old _ _ (by omega), hb3.block _ (by simp)]; exact heap_alloc_new w2 _
  have B7 : (w3.alloc (.cells #[.int .u64 0, .int .i64 0, .int .i64 0, .int .u32 0, .bool false] 25)).heap[w3.heap.size]? = some (.cells #[.int .u64 0, .int .i64 0, .int .i64 0, .int .u32 0, .bool false] 25 (0, 0)) := heap_alloc_new w3 _
  have hbr : Below w.heap.size w (w3.alloc (.cells #[.int .u64 0, .int .i64 0, .int .i64 0, .int .u32 0, .bool false] 25)) := hb1.trans ((hb2.mono hb1.size).trans (hb24.mono (by have := hb1.size; omega)))
  have l5 : w2.heap.size < (w3.alloc (.cells #[.int .u64 0, .int .i64 0, .int .i64 0, .int .u32 0, .bool false] 25)).heap.size := by simp; omega
  have l7 : w3.heap.size < (w3.alloc (.cells #[.int .u64 0, .int .i64 0, .int .i64 0, .int .u32 0, .bool false] 25)).heap.size := by simp
  have sz := hbr.size
  generalize w3.alloc (.cells #[.int .u64 0, .int .i64 0, .int .i64 0, .int .u32 0, .bool false] 25) = wr at B5 B7 hbr l5 l7 sz ⊢
  generalize w3.heap.size = g7 at *
  generalize w2.heap.size = g5 at *
  have f5 := five B5
  have f7 := five B7
  clear hb24 hb23 hb3 hb2 hb1 s2 s3 h1 h2
  have hx := fun (x : Grow wr) => x.cell
  refine wp_region_grow (by kernel_rfl) (by kernel_rfl) ?_
  repeat (go_big_quiet_step ((go_at_call 11; exact Grow.call _ (h4 _))))
  refine wpQuiet_nil ?_
  intro _ hw'
  obtain ⟨x, rfl⟩ := hw'
  have hbx : Below w.heap.size w x.w := hbr.trans (x.below.mono sz)
  have sx := x.size
  generalize x.w = wx at hbx sx
  clear f5 f7 hx B5 B7 x
  go_wp2_with fail
  go_ret
  exact ⟨rfl, hbx⟩
theorem walk_HeadUnpacks (a b : Int) (w : World) (wa : (Lit.int .u64 a).wf = true) (wb : (Lit.int .u64 b).wf = true) :
    Calls Try.prog 4 #[.int .u64 a, .int .u64 b] w fun e w' => e = .returned (.bool true) ∧ Below w.heap.size w w' := by
  obtain ⟨a0, a1⟩ := bounds_u64 wa
  obtain ⟨b0, b1⟩ := bounds_u64 wb
  by_cases h : hErr a (zK b) (zS b) (zH b) = 0 ∧ zGap b.toNat = 0
  · exact unpacks_yes a b w a0 a1 b0 b1 h.1 h.2
  · exact unpacks_no a b w a0 a1 b0 b1 h
end Go.Proofs.Ytmlfooofgedmaaa.Fl
