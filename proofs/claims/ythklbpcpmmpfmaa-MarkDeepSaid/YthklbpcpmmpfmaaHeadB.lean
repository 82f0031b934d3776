/-
  Contracts of package head: wrong, Pack, Cells.
-/
import Derived.Test.YthklbpcpmmpfmaaHead
namespace Go.Proofs.Ythklbpcpmmpfmaa.Fl
open Go.RowKit

theorem hbelow1 (w : World) (o1 : Obj) : Below w.heap.size w (w.alloc o1) := (Below.refl _ _).alloc (Nat.le_refl _) _
theorem retI {k : IntKind} {a b : Int} (h : a = b) : Ending.returned (.int k a) = .returned (.int k b) := by rw [h]
theorem bcell {W w1 : World} (hb : Below W.heap.size W w1) : (∀ b o, b < W.heap.size → w1.cell? ⟨b, o, none⟩ = W.cell? ⟨b, o, none⟩) ∧ (∀ b o, b < W.heap.size → w1.frozen? ⟨b, o, none⟩ = W.frozen? ⟨b, o, none⟩) :=
  ⟨fun b o h => hb.cell (p := ⟨b, o, none⟩) h, fun b o h => hb.frozen (p := ⟨b, o, none⟩) h⟩
theorem hErr_1 {cl kind size hash : Int} (h : cl = 0 ∨ cl % 2 = 1) : hErr cl kind size hash = 1 := by unfold hErr; rw [if_pos h]
theorem hErr_2 {cl kind size hash : Int} (h : ¬ (cl = 0 ∨ cl % 2 = 1)) (h2 : size < 0 ∨ 1048576 < size) : hErr cl kind size hash = 2 := by unfold hErr; rw [if_neg h, if_pos h2]
theorem hErr_9 {cl kind size hash : Int} (h : ¬ (cl = 0 ∨ cl % 2 = 1)) (h2 : ¬ (size < 0 ∨ 1048576 < size)) (h3 : 16777216 ≤ hash) : hErr cl kind size hash = 9 := by unfold hErr; rw [if_neg h, if_neg h2, if_pos h3]
theorem hErr_13 {cl kind size hash : Int} (h : ¬ (cl = 0 ∨ cl % 2 = 1)) (h2 : ¬ (size < 0 ∨ 1048576 < size)) (h3 : ¬ 16777216 ≤ hash) (h4 : kind < 0 ∨ 2 < kind) : hErr cl kind size hash = 13 := by unfold hErr; rw [if_neg h, if_neg h2, if_neg h3, if_pos h4]
theorem hErr_0 {cl kind size hash : Int} (h : ¬ (cl = 0 ∨ cl % 2 = 1)) (h2 : ¬ (size < 0 ∨ 1048576 < size)) (h3 : ¬ 16777216 ≤ hash) (h4 : ¬ (kind < 0 ∨ 2 < kind)) : hErr cl kind size hash = 0 := by unfold hErr; rw [if_neg h, if_neg h2, if_neg h3, if_neg h4]
set_option maxHeartbeats 1000000 in
theorem wrong_any (cl kind size hash : Int) (mark : Bool) (w : World) (c0 : 0 ≤ cl) (c1 : cl ≤ 18446744073709551615) :
    Calls Try.prog 31 #[.agg #[.int .u64 cl, .int .i64 kind, .int .i64 size, .int .u32 hash, .bool mark]] w fun e w' => e = .returned (.int .i64 (hErr cl kind size hash)) ∧ Below w.heap.size w w' := by
  by_cases h : cl = 0 ∨ cl % 2 = 1
  · rw [hErr_1 h]
    by_cases hz : cl = 0
    · have hz' : (cl == 0) = true := by simp [hz]
      clear h hz
      go_enter Try.func31, Try.ntmps31
      go_wp2
      go_ret
      exact ⟨rfl, hbelow1 _ _⟩
    · have hz' : (cl == 0) = false := by simp [hz]
      have HO : Hid (cl % 2 = 1) := Lib.hid (by omega)
      clear h hz
      go_enter Try.func31, Try.ntmps31
      go_wp2_with (go_at_call 36; (with_reducible refine (is_odd _ _ c0 c1 HO.out).mono ?_); rintro e w' ⟨rfl, rfl⟩)
      go_ret
      exact ⟨rfl, hbelow1 _ _⟩
  · have hz' : (cl == 0) = false := by simp; omega
    have HO : Hid (cl % 2 = 0) := Lib.hid (by omega)
    by_cases h2 : size < 0 ∨ 1048576 < size
    · rw [hErr_2 h h2]
      by_cases h3 : size < 0
      · clear h h2
        go_enter Try.func31, Try.ntmps31
        go_wp2_with (go_at_call 36; (with_reducible refine (is_even _ _ c0 c1 HO.out).mono ?_); rintro e w' ⟨rfl, rfl⟩)
        go_ret
        exact ⟨rfl, hbelow1 _ _⟩
      · have h4 : 1048576 < size := by omega
        have h5 : 0 ≤ size := by omega
        clear h h2 h3
        go_enter Try.func31, Try.ntmps31
        go_wp2_with (go_at_call 36; (with_reducible refine (is_even _ _ c0 c1 HO.out).mono ?_); rintro e w' ⟨rfl, rfl⟩)
        go_ret
        exact ⟨rfl, hbelow1 _ _⟩
    · have s0 : 0 ≤ size := by omega
      have s1 : size ≤ 1048576 := by omega
      by_cases h3 : 16777216 ≤ hash
      · rw [hErr_9 h h2 h3]
        clear h h2
        go_enter Try.func31, Try.ntmps31
        go_wp2_with (go_at_call 36; (with_reducible refine (is_even _ _ c0 c1 HO.out).mono ?_); rintro e w' ⟨rfl, rfl⟩)
        go_ret
        exact ⟨rfl, hbelow1 _ _⟩
      · have t0 : hash < 16777216 := by omega
        by_cases h4 : kind < 0 ∨ 2 < kind
        · rw [hErr_13 h h2 h3 h4]
          by_cases h5 : kind < 0
          · clear h h2 h4 h3
            go_enter Try.func31, Try.ntmps31
            go_wp2_with (go_at_call 36; (with_reducible refine (is_even _ _ c0 c1 HO.out).mono ?_); rintro e w' ⟨rfl, rfl⟩)
            go_ret
            exact ⟨rfl, hbelow1 _ _⟩
          · have k0 : 0 ≤ kind := by omega
            have k1 : 2 < kind := by omega
            clear h h2 h4 h3 h5
            go_enter Try.func31, Try.ntmps31
            go_wp2_with (go_at_call 36; (with_reducible refine (is_even _ _ c0 c1 HO.out).mono ?_); rintro e w' ⟨rfl, rfl⟩)
            go_ret
            exact ⟨rfl, hbelow1 _ _⟩
        · rw [hErr_0 h h2 h3 h4]
          have k0 : 0 ≤ kind := by omega
          have k1 : kind ≤ 2 := by omega
          clear h h2 h4 h3
          go_enter Try.func31, Try.ntmps31
          go_wp2_with (go_at_call 36; (with_reducible refine (is_even _ _ c0 c1 HO.out).mono ?_); rintro e w' ⟨rfl, rfl⟩)
          go_ret
          exact ⟨rfl, hbelow1 _ _⟩

/-! ### Pack -/
theorem pack_no (cl kind size hash : Int) (mark : Bool) (w : World) (c0 : 0 ≤ cl) (c1 : cl ≤ 18446744073709551615) (hE : hErr cl kind size hash ≠ 0) :
    Calls Try.prog 12 #[.agg #[.int .u64 cl, .int .i64 kind, .int .i64 size, .int .u32 hash, .bool mark]] w fun e w' => e = .returned (.tuple #[.agg #[.int .u64 0, .int .u64 0], .int .i64 (hErr cl kind size hash)]) ∧ Below w.heap.size w w' := by
  have hw := fun w' => wrong_any cl kind size hash mark w' c0 c1
  have hne : (hErr cl kind size hash != 0) = true := by simp [hE]
  generalize hErr cl kind size hash = E at hw hne
  clear hE
  go_enter Try.func12, Try.ntmps12
  go_wp2_with fail
  refine (hw _).mono ?_
  rintro e w1 ⟨rfl, hb⟩
  obtain ⟨hc, hf⟩ := bcell hb
  have hs := hb.size
  simp at hs
  have hbw : Below w.heap.size w w1 := (((Below.refl _ _).alloc (Nat.le_refl _) _).alloc (by simp) _).trans (hb.mono (by simp; omega))
  go_wp2_with fail
  exact bodyPost_ret (v := .tuple #[.agg #[.int .u64 0, .int .u64 0], .int .i64 E]) (by simp [results, Try.results12, go_sem, hc, hs]) rfl ⟨rfl, (hbw.setCell (by simp) _).setCell (by simp) _⟩
end Go.Proofs.Ythklbpcpmmpfmaa.Fl
