/-
  Instructions: is it one?
-/
import Derived.Test.YtdfghcbojbbgcaaDoorCdB
namespace Go.Proofs.YtdfghcbojbbgcaaDoor.Fl
open Go.RowKit

def isI (op a b : Int) : Bool := if 0 ≤ op ∧ op < 20 then (match formsL[op.toNat]? with
  | some r => hasC r.2.1.toNat r.2.2.1 a && hasC r.2.2.2.1.toNat r.2.2.2.2.1 b
  | none => false) else false
set_option maxRecDepth 100000 in
set_option maxHeartbeats 2000000 in
theorem isInstr_any (op a b : Int) (w : World) (hF : FormsAt w) :
    Calls Tryd.prog 13 #[.agg #[.int .i64 op, .int .i64 a, .int .i64 b]] w fun e w' => e = .returned (.bool (isI op a b)) ∧ Below w.heap.size w w' := by
  have hw1 := heap_alloc_new w (.cells #[.int .i64 op, .int .i64 a, .int .i64 b] 34)
  have f1 := three_cellsC hw1
  have l1 : w.heap.size < (w.alloc (.cells #[.int .i64 op, .int .i64 a, .int .i64 b] 34)).heap.size := lt_of_blkC hw1
  have hb1 : Below w.heap.size w (w.alloc (.cells #[.int .i64 op, .int .i64 a, .int .i64 b] 34)) := (Below.refl _ _).alloc (Nat.le_refl _) _
  have HB := Lib.hid hb1
  have hF1 := hF.below hb1
  have hg1 := hF1.lt
  obtain ⟨r, hr⟩ : ∃ r, isI op a b = r := ⟨_, rfl⟩
  rw [hr]
  have HR := Lib.hid hr
  unfold isI at HR
  clear hb1 hr hF hw1
  go_enter Tryd.func13, Tryd.ntmps13
  go_upto_region 1 with fail
  generalize w.alloc (.cells #[.int .i64 op, .int .i64 a, .int .i64 b] 34) = w1 at *
  have hx := fun (x : Grow w1) => x.cell
  have hxs := fun (x : Grow w1) => x.size
  by_cases h0 : 0 ≤ op
  · have hd : decide (op ≥ 0) = true := decide_eq_true h0
    by_cases h20 : op < 20
    · have hd2 : decide (op < 20) = true := decide_eq_true h20
      obtain ⟨k, rfl⟩ : ∃ k : Nat, op = (k : Int) := ⟨op.toNat, by omega⟩
      have hk : k < 20 := by omega
      obtain ⟨nmx, sa, la, sb, lb, t, u, hrow, ⟨hsa, hsb⟩, ⟨hla, hla0⟩, rfl⟩ := formsL_get hk
      obtain ⟨g0, g1, g2, g3, g4, g5, g6⟩ := hF1.row hrow
      have HR2 := HR.out
      rw [if_pos ⟨h0, h20⟩, Int.toNat_natCast, hrow] at HR2
      change (hasC (sa : Int).toNat la a && hasC (sb : Int).toNat 0 b) = r at HR2
      rw [Int.toNat_natCast, Int.toNat_natCast] at HR2
      have HR3 := Lib.hid HR2
      have hha := fun w => has_any sa hsa la a hla hla0 w
      have hhb := fun w => has_any sb hsb 0 b (by decide) (by decide) w
      clear HR HR2 hF1 hrow h0 h20
      cases hA : hasC sa la a
      · rw [hA] at HR3 hha
        refine wp_region_grow (by kernel_rfl) (by kernel_rfl) ?_
        repeat (go_big_quiet_step ((go_at_call 22; first | (with_reducible exact Grow.call _ (hha _)) | (with_reducible exact Grow.call _ (hhb _)))))
        refine wpQuiet_nil ?_
        rintro _ ⟨x, rfl⟩
        have hb := Lib.hid (HB.out.trans (x.below.mono HB.out.size))
        clear hx hxs hha hhb
        go_wp2_with fail
        go_ret
        exact ⟨by rw [← HR3.out]; rfl, hb.out⟩
      · rw [hA] at HR3 hha
        refine wp_region_grow (by kernel_rfl) (by kernel_rfl) ?_
        repeat (go_big_quiet_step ((go_at_call 22; first | (with_reducible exact Grow.call _ (hha _)) | (with_reducible exact Grow.call _ (hhb _)))))
        refine wpQuiet_nil ?_
        rintro _ ⟨x, rfl⟩
        have hb := Lib.hid (HB.out.trans (x.below.mono HB.out.size))
        clear hx hxs hha hhb
        go_wp2_with fail
        go_ret
        exact ⟨by rw [← HR3.out]; rfl, hb.out⟩
    · have hd2 : decide (op < 20) = false := decide_eq_false h20
      have HR2 := Lib.hid (HR.out.symm.trans (if_neg (fun h => h20 h.2)))
      refine wp_region_grow (by kernel_rfl) (by kernel_rfl) ?_
      repeat (go_big_quiet_step (fail))
      refine wpQuiet_nil ?_
      rintro _ ⟨x, rfl⟩
      have hb := Lib.hid (HB.out.trans (x.below.mono HB.out.size))
      clear hx hxs
      go_wp2_with fail
      go_ret
      exact ⟨by rw [HR2.out]; rfl, hb.out⟩
  · have hd : decide (op ≥ 0) = false := decide_eq_false h0
    have HR2 := Lib.hid (HR.out.symm.trans (if_neg (fun h => h0 h.1)))
    refine wp_region_grow (by kernel_rfl) (by kernel_rfl) ?_
    repeat (go_big_quiet_step (fail))
    refine wpQuiet_nil ?_
    rintro _ ⟨x, rfl⟩
    have hb := Lib.hid (HB.out.trans (x.below.mono HB.out.size))
    clear hx hxs
    go_wp2_with fail
    go_ret
    exact ⟨by rw [HR2.out]; rfl, hb.out⟩
end Go.Proofs.YtdfghcbojbbgcaaDoor.Fl
