/-
  The walk of HeadPacks.
-/
import Derived.Test.YtmlfooofgedmaaaWkHeadUnpacks
namespace Go.Proofs.Ytmlfooofgedmaaa.Fl
open Go.RowKit

theorem z_of_pkI {kind size hash : Int} (mark : Bool) (k0 : 0 ≤ kind) (k1 : kind ≤ 2) (s0 : 0 ≤ size) (s1 : size ≤ 1048576) (z0 : 0 ≤ hash) :
    zK (pkI kind size hash mark) = kind ∧ zS (pkI kind size hash mark) = size ∧ zH (pkI kind size hash mark) = hash ∧ zM (pkI kind size hash mark) = mark ∧ zGap (pkI kind size hash mark).toNat = 0 := by
  obtain ⟨h1, h2, h3, h4, h5⟩ := z_pk (kind := kind.toNat) (size := size.toNat) (hash := hash.toNat) mark (by omega) (by omega)
  unfold zK zS zH zM pkI
  rw [Int.toNat_natCast, h1, h2, h3, h4, h5]
  exact ⟨by omega, by omega, by omega, rfl, rfl⟩
theorem two {w : World} {g : Nat} {v0 v1 : Value} {T : TypeId} (h : w.heap[g]? = some (.cells #[v0, v1] T (0, 0))) : w.cell? ⟨g, 0, none⟩ = some v0 ∧ w.cell? ⟨g, 1, none⟩ = some v1 :=
  ⟨cell_of_row _ _ _ _ _ _ h, cell_of_row _ _ _ _ _ _ h⟩
set_option maxHeartbeats 4000000 in
theorem packs_no (cl kind size hash : Int) (mark : Bool) (w : World) (c0 : 0 ≤ cl) (c1 : cl ≤ 18446744073709551615) (z0 : 0 ≤ hash) (hE : hErr cl kind size hash ≠ 0) :
    Calls Try.prog 3 #[.agg #[.int .u64 cl, .int .i64 kind, .int .i64 size, .int .u32 hash, .bool mark]] w fun e w' => e = .returned (.bool true) ∧ Below w.heap.size w w' := by
  have h1 := fun w' => pack_no cl kind size hash mark w' c0 c1 hE
  have h2 := fun w' => rpack_no cl kind size hash mark w' c0 hE
  have h3 := fun w' => cells_any cl kind size hash mark w' c0 c1
  have h4 := fun w' => rcells_any cl kind size hash mark w' c0 z0
  have h5 := fun w' => own_hd cl kind size hash mark w'
  have hq := eq_pair 0 0 0 0
  rw [show ((0 : Int) == 0 && (0 : Int) == 0) = true by simp] at hq
  have hne : (hErr cl kind size hash != 0) = true := by simp [hE]
  clear hE c1
  generalize hErr cl kind size hash = E at *
  generalize cellsI cl kind size hash = N at *
  go_enter Try.func3, Try.ntmps3
  go_wp2_with fail
  refine (awake_hd _).mono ?_
  rintro e w1 ⟨rfl, hb1⟩
  have s1 := hb1.size
  simp at s1
  have t1 : w.heap.size < w1.heap.size := by omega
  obtain ⟨i1, _⟩ := bcell hb1
  go_wp2_with fail
  refine (h5 _).mono ?_
  rintro e w2 ⟨rfl, hb2⟩
  have s2 := hb2.size
  have B1 : w2.heap[w.heap.size]? = some (.cells #[.int .u64 cl, .int .i64 kind, .int .i64 size, .int .u32 hash, .bool mark] 25 (0, 0)) := by
    rw [hb2.block _ t1, hb1.block _ (by simp)]; exact heap_alloc_new w _
  have hbw2 : Below w.heap.size w w2 := ((Below.refl _ _).alloc (Nat.le_refl _) _).trans ((hb1.mono (by simp)).trans (hb2.mono (by omega)))
  clear i1 hb1 hb2
  go_wp2_with fail
  refine (h1 _).mono ?_
  rintro e w3 ⟨rfl, hb3⟩
  have s3 := hb3.size
  have B2 := (hb3.block w.heap.size (by omega)).trans B1
  have hbw3 := hbw2.trans (hb3.mono (by omega))
  have f3 := five B2
  have t3 : w.heap.size < w3.heap.size := by omega
  clear hb3 B1 hbw2
  go_wp2_with fail
  refine (h2 _).mono ?_
  rintro e w4 ⟨rfl, hb4⟩
  have s4 := hb4.size
  simp at s4
  have B3 : w4.heap[w.heap.size]? = some (.cells #[.int .u64 cl, .int .i64 kind, .int .i64 size, .int .u32 hash, .bool mark] 25 (0, 0)) := by
    rw [hb4.block _ (by simp; omega), heap_alloc_old _ _ t3]; exact B2
  have C3 : w4.heap[w3.heap.size]? = some (.cells #[.int .u64 0, .int .u64 0] 28 (0, 0)) := by
    rw [hb4.block _ (by simp)]; exact heap_alloc_new w3 _
  have hbw4 : Below w.heap.size w w4 := (hbw3.alloc (by omega) _).trans (hb4.mono (by simp; omega))
  clear hb4 B2 hbw3 f3
  have f4 := five B3
  have t4 : w.heap.size < w4.heap.size := by omega
  go_wp2_with fail
  obtain ⟨wr, hwr⟩ : ∃ wr, w4.alloc (.cells #[.int .u64 0, .int .u64 0] 35) = wr := ⟨_, rfl⟩
  have B4 : wr.heap[w.heap.size]? = some (.cells #[.int .u64 cl, .int .i64 kind, .int .i64 size, .int .u32 hash, .bool mark] 25 (0, 0)) := by
    rw [← hwr, heap_alloc_old _ _ t4]; exact B3
  have C4 : wr.heap[w3.heap.size]? = some (.cells #[.int .u64 0, .int .u64 0] 28 (0, 0)) := by
    rw [← hwr, heap_alloc_old _ _ (by omega)]; exact C3
  have D4 : wr.heap[w4.heap.size]? = some (.cells #[.int .u64 0, .int .u64 0] 35 (0, 0)) := by
    rw [← hwr]; exact heap_alloc_new w4 _
  have hbr : Below w.heap.size w wr := by rw [← hwr]; exact hbw4.alloc (by omega) _
  have l1 : w.heap.size < wr.heap.size := by rw [← hwr]; simp; omega
  have l3 : w3.heap.size < wr.heap.size := by rw [← hwr]; simp; omega
  have l4 : w4.heap.size < wr.heap.size := by rw [← hwr]; simp
  have sz := hbr.size
  rw [hwr]
  clear hwr hbw4 B3 C3 f4 s4 t4 s3 t3 s2 s1 t1
  generalize w3.heap.size = g3 at *
  generalize w4.heap.size = g4 at *
  obtain ⟨W0, hW0⟩ : ∃ W0, w.heap.size = W0 := ⟨_, rfl⟩
  rw [hW0] at B4 l1 ⊢
  have HW0 := Lib.hid hW0
  clear hW0
  have f1 := five B4
  have f3 := two C4
  have f4 := two D4
  have hx := fun (x : Grow wr) => x.cell
  refine wp_region_grow (by kernel_rfl) (by kernel_rfl) ?_
  repeat (go_big_quiet_step ((first
    | (go_at_call 11; exact Grow.call _ (h5 _))
    | (go_at_call 13; exact Grow.call _ (h3 _))
    | (go_at_call 14; exact Grow.call _ (h4 _)))))
  refine wpQuiet_nil ?_
  intro _ hw'
  obtain ⟨x, rfl⟩ := hw'
  have hbx : Below w.heap.size w x.w := hbr.trans (x.below.mono sz)
  go_wp2_with fail
  go_ret
  exact ⟨rfl, hbx⟩
set_option maxHeartbeats 4000000 in
theorem packs_yes (cl kind size hash : Int) (mark : Bool) (w : World) (c0 : 0 ≤ cl) (c1 : cl ≤ 18446744073709551615) (z0 : 0 ≤ hash) (hE : hErr cl kind size hash = 0) :
    Calls Try.prog 3 #[.agg #[.int .u64 cl, .int .i64 kind, .int .i64 size, .int .u32 hash, .bool mark]] w fun e w' => e = .returned (.bool true) ∧ Below w.heap.size w w' := by
  obtain ⟨_, ⟨s0, s1⟩, z1, ⟨k0, k1⟩⟩ := hErr_ok hE
  have h1 := fun w' => pack_yes cl kind size hash mark w' c0 c1 z0 hE
  have h2 := fun w' => rpack_yes cl kind size hash mark w' c0 z0 hE
  have h3 := fun w' => cells_any cl kind size hash mark w' c0 c1
  have h4 := fun w' => rcells_any cl kind size hash mark w' c0 z0
  have h5 := fun w' => own_hd cl kind size hash mark w'
  obtain ⟨p0, p1⟩ := pkI_lt mark k0 k1 s0 s1 z0 z1
  obtain ⟨q1, q2, q3, q4, q5⟩ := z_of_pkI mark k0 k1 s0 s1 z0 (size := size)
  have h6 := fun w' => unpack_yes cl (pkI kind size hash mark) w' c0 c1 p0 (by omega) (by rw [q1, q2, q3]; exact hE) q5
  rw [q1, q2, q3, q4] at h6
  have hq := eq_pair cl (pkI kind size hash mark) cl (pkI kind size hash mark)
  rw [show (cl == cl && pkI kind size hash mark == pkI kind size hash mark) = true by simp] at hq
  clear hE c1 p0 p1 q1 q2 q3 q4 q5
  generalize pkI kind size hash mark = X at *
  generalize cellsI cl kind size hash = N at *
  clear s0 s1 z0 z1 k0 k1
  go_enter Try.func3, Try.ntmps3
  go_wp2_with fail
  refine (awake_hd _).mono ?_
  rintro e w1 ⟨rfl, hb1⟩
  have s1 := hb1.size
  simp at s1
  have t1 : w.heap.size < w1.heap.size := by omega
  obtain ⟨i1, _⟩ := bcell hb1
  go_wp2_with fail
  refine (h5 _).mono ?_
  rintro e w2 ⟨rfl, hb2⟩
  have s2 := hb2.size
  have B1 : w2.heap[w.heap.size]? = some (.cells #[.int .u64 cl, .int .i64 kind, .int .i64 size, .int .u32 hash, .bool mark] 25 (0, 0)) := by
    rw [hb2.block _ t1, hb1.block _ (by simp)]; exact heap_alloc_new w _
  have hbw2 : Below w.heap.size w w2 := ((Below.refl _ _).alloc (Nat.le_refl _) _).trans ((hb1.mono (by simp)).trans (hb2.mono (by omega)))
  clear i1 hb1 hb2
  go_wp2_with fail
  refine (h1 _).mono ?_
  rintro e w3 ⟨rfl, hb3⟩
  have s3 := hb3.size
  have B2 := (hb3.block w.heap.size (by omega)).trans B1
  have hbw3 := hbw2.trans (hb3.mono (by omega))
  have f3 := five B2
  have t3 : w.heap.size < w3.heap.size := by omega
  clear hb3 B1 hbw2
  go_wp2_with fail
  refine (h2 _).mono ?_
  rintro e w4 ⟨rfl, hb4⟩
  have s4 := hb4.size
  simp at s4
  have B3 : w4.heap[w.heap.size]? = some (.cells #[.int .u64 cl, .int .i64 kind, .int .i64 size, .int .u32 hash, .bool mark] 25 (0, 0)) := by
    rw [hb4.block _ (by simp; omega), heap_alloc_old _ _ t3]; exact B2
  have C3 : w4.heap[w3.heap.size]? = some (.cells #[.int .u64 cl, .int .u64 X] 28 (0, 0)) := by
    rw [hb4.block _ (by simp)]; exact heap_alloc_new w3 _
  have hbw4 : Below w.heap.size w w4 := (hbw3.alloc (by omega) _).trans (hb4.mono (by simp; omega))
  clear hb4 B2 hbw3 f3
  have f4 := five B3
  have t4 : w.heap.size < w4.heap.size := by omega
  go_wp2_with fail
  obtain ⟨wr, hwr⟩ : ∃ wr, w4.alloc (.cells #[.int .u64 cl, .int .u64 X] 35) = wr := ⟨_, rfl⟩
  have B4 : wr.heap[w.heap.size]? = some (.cells #[.int .u64 cl, .int .i64 kind, .int .i64 size, .int .u32 hash, .bool mark] 25 (0, 0)) := by
    rw [← hwr, heap_alloc_old _ _ t4]; exact B3
  have C4 : wr.heap[w3.heap.size]? = some (.cells #[.int .u64 cl, .int .u64 X] 28 (0, 0)) := by
    rw [← hwr, heap_alloc_old _ _ (by omega)]; exact C3
  have D4 : wr.heap[w4.heap.size]? = some (.cells #[.int .u64 cl, .int .u64 X] 35 (0, 0)) := by
    rw [← hwr]; exact heap_alloc_new w4 _
  have hbr : Below w.heap.size w wr := by rw [← hwr]; exact hbw4.alloc (by omega) _
  have l1 : w.heap.size < wr.heap.size := by rw [← hwr]; simp; omega
  have l3 : w3.heap.size < wr.heap.size := by rw [← hwr]; simp; omega
  have l4 : w4.heap.size < wr.heap.size := by rw [← hwr]; simp
  have sz := hbr.size
  rw [hwr]
  clear hwr hbw4 B3 C3 f4 s4 t4 s3 t3 s2 s1 t1
  generalize w3.heap.size = g3 at *
  generalize w4.heap.size = g4 at *
  obtain ⟨W0, hW0⟩ : ∃ W0, w.heap.size = W0 := ⟨_, rfl⟩
  rw [hW0] at B4 l1 ⊢
  have HW0 := Lib.hid hW0
  clear hW0
  have f1 := five B4
  have f3 := two C4
  have f4 := two D4
  have hx := fun (x : Grow wr) => x.cell
  refine wp_region_grow (by kernel_rfl) (by kernel_rfl) ?_
  repeat (go_big_quiet_step ((first
    | (go_at_call 11; exact Grow.call _ (h5 _))
    | (go_at_call 13; exact Grow.call _ (h3 _))
    | (go_at_call 14; exact Grow.call _ (h4 _)))))
  refine wpQuiet_nil ?_
  intro _ hw'
  obtain ⟨x, rfl⟩ := hw'
  have hbx : Below w.heap.size w x.w := hbr.trans (x.below.mono sz)
  have B5 := (x.below.block _ l1).trans B4
  have C5 := (x.below.block _ l3).trans C4
  have m1 := x.size
  have m2 : W0 < x.w.heap.size := by omega
  have m3 : g3 < x.w.heap.size := by omega
  have m4 : w.heap.size ≤ x.w.heap.size := by omega
  generalize x.w = wx at *
  clear x f1 f3 f4 hx B4 C4 D4 hbr m1 sz
  have f3 := two C5
  go_wp2_with fail
  refine (h6 _).mono ?_
  rintro e w7 ⟨rfl, hb7⟩
  have s7 := hb7.size
  have B6 := (hb7.block _ m2).trans B5
  have n2 : W0 < w7.heap.size := by omega
  have hbw7 := hbx.trans (hb7.mono m4)
  clear B5 C5 f3 hb7
  go_wp2_with fail
  obtain ⟨wr, hwr⟩ : ∃ wr, w7.alloc (.cells #[.int .u64 cl, .int .i64 kind, .int .i64 size, .int .u32 hash, .bool mark] 33) = wr := ⟨_, rfl⟩
  have B7 : wr.heap[W0]? = some (.cells #[.int .u64 cl, .int .i64 kind, .int .i64 size, .int .u32 hash, .bool mark] 25 (0, 0)) := by
    rw [← hwr, heap_alloc_old _ _ n2]; exact B6
  have D7 : wr.heap[w7.heap.size]? = some (.cells #[.int .u64 cl, .int .i64 kind, .int .i64 size, .int .u32 hash, .bool mark] 33 (0, 0)) := by
    rw [← hwr]; exact heap_alloc_new w7 _
  have hbr7 : Below w.heap.size w wr := by rw [← hwr]; exact hbw7.alloc (by omega) _
  have l1 : W0 < wr.heap.size := by rw [← hwr]; simp; omega
  have l7 : w7.heap.size < wr.heap.size := by rw [← hwr]; simp
  have sz := hbr7.size
  rw [hwr]
  clear hwr hbw7 B6 n2 s7
  generalize w7.heap.size = g7 at *
  have f1 := five B7
  have f7 := five D7
  have hx := fun (x : Grow wr) => x.cell
  refine wp_region_grow (by kernel_rfl) (by kernel_rfl) ?_
  repeat (go_big_quiet_step ((go_at_call 11; exact Grow.call _ (h5 _))))
  refine wpQuiet_nil ?_
  intro _ hw'
  obtain ⟨x, rfl⟩ := hw'
  have hbx7 : Below w.heap.size w x.w := hbr7.trans (x.below.mono sz)
  go_wp2_with fail
  go_ret
  exact ⟨rfl, hbx7⟩
theorem walk_HeadPacks (cl kind size hash : Int) (mark : Bool) (w : World) (w0 : (Lit.int .u64 cl).wf = true) (w1 : (Lit.int .i64 kind).wf = true) (w2 : (Lit.int .i64 size).wf = true) (w3 : (Lit.int .u32 hash).wf = true) :
    Calls Try.prog 3 #[.agg #[.int .u64 cl, .int .i64 kind, .int .i64 size, .int .u32 hash, .bool mark]] w fun e w' => e = .returned (.bool true) ∧ Below w.heap.size w w' := by
  obtain ⟨a0, a1⟩ := bounds_u64 w0
  have z0 := (bounds_u32 w3).1
  by_cases h : hErr cl kind size hash = 0
  · exact packs_yes cl kind size hash mark w a0 a1 z0 h
  · exact packs_no cl kind size hash mark w a0 a1 z0 h
end Go.Proofs.Ytmlfooofgedmaaa.Fl
