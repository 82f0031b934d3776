/-
  Instructions: Check's part, of the laws' fixed code.
-/
import Derived.Test.YtdfghcbojbbgcaaDoorCdN
import Derived.Maps.OwnSet
import Derived.Maps.OwnOps
import Derived.WalkKit
namespace Go.Proofs.YtdfghcbojbbgcaaDoor.Fl
open Go.RowKit Go.Maps

theorem ovC_grown {R : Nat} {w w' : World} (h : w.grownBy w' (some R)) : OvC R w w' := ⟨h.os, h.tape, h.output, h.size, fun k hk hn => h.block k hk (fun e => hn (by injection e))⟩
abbrev OwnM (w : World) (b n : Nat) (D : DataW Unit) : Prop := w.ownsMap Tryd.prog 3 (plainElem Tryd.prog 3) b n D
theorem OwnM.keep {w w' : World} {b n : Nat} {D : DataW Unit} (h : OwnM w b n D) (e : w'.heap[b]? = w.heap[b]?) : OwnM w' b n D := by
  obtain ⟨es, clock, hb, F, hs, hD⟩ := h
  exact ⟨es, clock, e.trans hb, F, hs, hD⟩
theorem keyedIC : Keyed Tryd.prog 3 := int_keyed Tryd.underlying3
theorem zeroIC (w : World) : (zeroValue 3).run Tryd.prog w = .ok (.int .i64 0) w := by kernel_rfl
theorem keyIC {y : Int} (h0 : -9223372036854775808 ≤ y) (h : y ≤ 9223372036854775807) : keyOf Tryd.prog 3 (.int .i64 y) = some (.int .i64 y) :=
  keyOf_int_mk Tryd.underlying3 (WalkArith.wf_i64 (by omega))
theorem eight_cellsC {w : World} {g : Nat} {v0 v1 v2 v3 v4 v5 v6 v7 : Value} {T : TypeId} (h : w.heap[g]? = some (.cells #[v0, v1, v2, v3, v4, v5, v6, v7] T (0, 0))) :
    w.cell? ⟨g, 0, none⟩ = some v0 ∧ w.cell? ⟨g, 1, none⟩ = some v1 ∧ w.cell? ⟨g, 2, none⟩ = some v2 ∧ w.cell? ⟨g, 3, none⟩ = some v3 ∧ w.cell? ⟨g, 4, none⟩ = some v4 ∧ w.cell? ⟨g, 5, none⟩ = some v5 ∧ w.cell? ⟨g, 6, none⟩ = some v6 ∧ w.cell? ⟨g, 7, none⟩ = some v7 ∧ ∀ k : Nat, w.frozen? ⟨g, k, none⟩ = false :=
  ⟨cell_of_row _ _ _ _ _ _ h, cell_of_row _ _ _ _ _ _ h, cell_of_row _ _ _ _ _ _ h, cell_of_row _ _ _ _ _ _ h, cell_of_row _ _ _ _ _ _ h, cell_of_row _ _ _ _ _ _ h, cell_of_row _ _ _ _ _ _ h, cell_of_row _ _ _ _ _ _ h, fun k => frozen_of_row _ _ _ _ _ h⟩
/-- the laws' fixed code -/
def fixC : List UInt8 := [4, 5, 18]
theorem decFix0 : decR fixC 0 = .inl ((4, 5, 0), 2) := by decide +kernel
theorem decFix2 : decR fixC 2 = .inl ((18, 0, 0), 3) := by decide +kernel
def pD0 : DataW Unit := .map []
def pD1 : DataW Unit := (DataW.map []).put (.int .i64 0) (.lit (.int .i64 0))
def pD2 : DataW Unit := ((DataW.map []).put (.int .i64 0) (.lit (.int .i64 0))).put (.int .i64 2) (.lit (.int .i64 0))
/-- the checker in memory -/
def CkB (w : World) (C c M1 M2 : Nat) (A : Option Addr) (op : Value) (most : Int) : Prop :=
  w.heap[C]? = some (.cells #[.slice A 3 c, .int .i64 0, .int .i64 0, .int .i64 0, .map (some M1), .map (some M2), op, .int .i64 most] 48 (0, 0))
def pAt : Nat → Int
  | 0 => 0
  | 1 => 2
  | _ => 3
def pD : Nat → DataW Unit
  | 0 => pD0
  | 1 => pD1
  | _ => pD2
set_option maxRecDepth 100000 in
set_option maxHeartbeats 4000000 in
theorem part_fix {C c M1 M2 B : Nat} {A : Option Addr} {op : Value} (w : World) (hC : CkB w C c M1 M2 A op 0) (hm : OwnM w M1 0 pD0) (hne : M1 ≠ C) (hr : Rd w B A (cb fixC)) (hB : B ≤ w.heap.size) (hBm : B ≤ M1) (hc : 3 ≤ c) (hF : FormsAt w) (hFm : ∀ w', OvC M1 w w' → FormsAt w') :
    Calls Tryd.prog 18 #[.pointer (some ⟨C, 0, none⟩), .int .i64 0, .int .i64 3] w fun e w' => e = .returned (.bool true) ∧ OvC M1 w w' ∧ OwnM w' M1 2 pD2 := by
  have HC := Lib.hid (fun w' (h : OvC M1 w w') => (h.block C (lt_of_blkC hC) (fun e => hne e.symm)).trans hC)
  have HR := Lib.hid (fun w' (h : OvC M1 w w') => hr.below (h.below hB hBm) (Nat.le_refl _))
  have HF := Lib.hid hFm
  have HM0 := Lib.hid hm
  clear hC hm hr hF hFm
  go_enter Tryd.func18, Tryd.ntmps18
  go_wp2_with fail
  go_loopw [7, 8, 9] (fun v7 v8 v9 wr => ∃ (k : Nat), k ≤ 2 ∧ v7 = .bool true ∧ v8 = .slice none 0 0 ∧ v9 = .int .i64 (pAt k) ∧ Hid (OvC M1 w wr) ∧ Hid (OwnM wr M1 k (pD k))) (fun _ _ v9 _ => 3 - (intOf v9).toNat)
  case atStart => exact ⟨0, Nat.zero_le _, rfl, rfl, rfl, Lib.hid (OvC.refl _ _), HM0⟩
  case round =>
    obtain ⟨k, hk, rfl, rfl, rfl, HO, HM⟩ := hrel
    clear HM0
    obtain rfl | rfl | rfl : k = 0 ∨ k = 1 ∨ k = 2 := by omega
    · have fC := eight_cellsC (HC.out _ HO.out)
      have hne1 := hne
      simp only [pAt]
      go_wp2_with (at_mapUpdate; refine wpList_mapUpdate_own _ rfl _ _ _ 45 rfl 3 3 keyedIC Tryd.underlying45 _ M1 0 _ rfl HM.out (by unfold maxLen; omega) _ _ _ rfl rfl (keyIC (by decide) (by decide)) _ [] (plainElem_int Tryd.underlying3 (WalkArith.wf_i64 (by omega))) ?_; intro w1 hown1 hg1; have HO1 := Lib.hid (HO.out.trans (ovC_grown hg1)); have fC1 := eight_cellsC (HC.out _ HO1.out))
      have HM1 := Lib.hid (show OwnM w1 M1 1 (pD 1) from hown1)
      have hdec := decode_any fixC 0 A c B w1 (HR.out _ HO1.out) (Nat.le_trans hB HO1.out.size) hc (by decide) (HF.out _ HO1.out)
      rw [decFix0] at hdec
      refine hdec.mono ?_
      rintro e w2 ⟨hb2, hcase⟩
      obtain ⟨y, p, hxp, rfl⟩ | ⟨n, hxp, _⟩ := hcase
      rotate_left 1
      · cases hxp
      obtain ⟨rfl, rfl⟩ : y = (4, 5, 0) ∧ p = 2 := by cases hxp; exact ⟨rfl, rfl⟩
      have hb3 : Below w1.heap.size w1 (w2.alloc (.cells #[.int .i64 4, .int .i64 5, .int .i64 0] 34)) := hb2.alloc hb2.size _
      have HO3 := Lib.hid (HO1.out.trans (OvC.of_below hb3))
      have hw3 := heap_alloc_new w2 (.cells #[.int .i64 4, .int .i64 5, .int .i64 0] 34)
      have f3 := three_cellsC hw3
      have l3 := lt_of_blkC hw3
      have fC3 := eight_cellsC (HC.out _ HO3.out)
      have HM3 := Lib.hid (HM1.out.keep (hb3.block M1 HM1.out.lt))
      have hc7 := fun w => isNamed_fix (op := 4) (a := 5) (b := 0) (by decide) (.pointer (some ⟨C, 0, none⟩)) w
      clear hdec hxp HM HM1 HO1 HO fC fC1 hg1 hown1 hb3
      unfold insV
      go_wp2_with (first | (go_at_call 27; refine (hc7 _).mono ?_; rintro e w4 ⟨rfl, hb4⟩; have HO4 := Lib.hid (HO3.out.trans (OvC.of_below hb4)); have hw4 := (hb4.block _ l3).trans hw3; have f4 := three_cellsC hw4; have l4 := lt_of_blkC hw4; have fC4 := eight_cellsC (HC.out _ HO4.out); have HM4 := Lib.hid (HM3.out.keep (hb4.block M1 HM3.out.lt)); clear f3 fC3 hw3 l3 HO3 HM3))
      refine (blockSize_fix (op := 4) (a := 5) (b := 0) (by decide) w4).mono ?_
      rintro e w5 ⟨rfl, hb5⟩
      have HO5 := Lib.hid (HO4.out.trans (OvC.of_below hb5))
      have hw5 := (hb5.block _ l4).trans hw4
      have f5 := three_cellsC hw5
      have l5 := lt_of_blkC hw5
      have HM5 := Lib.hid (HM4.out.keep (hb5.block M1 HM4.out.lt))
      have hj := isJump_fix (op := 4) (a := 5) (b := 0) (by decide) w5
      clear hc7 hb4 hb5 f4 fC4 hw4 l4 HO4 HM4
      go_wp2_with fail
      refine hj.mono ?_
      rintro e w6 ⟨rfl, hb6⟩
      have HO6 := Lib.hid (HO5.out.trans (OvC.of_below hb6))
      have HM6 := Lib.hid (HM5.out.keep (hb6.block M1 HM5.out.lt))
      clear hj hb6 f5 hw5 l5 HO5 HM5
      go_wp2_with fail
      go_roundw
      case rel => exact ⟨1, by decide, rfl, rfl, rfl, HO6, HM6⟩
      case measure => simp [intOf, pAt]
    · have fC := eight_cellsC (HC.out _ HO.out)
      have hne1 := hne
      simp only [pAt]
      go_wp2_with (at_mapUpdate; refine wpList_mapUpdate_own _ rfl _ _ _ 45 rfl 3 3 keyedIC Tryd.underlying45 _ M1 1 _ rfl HM.out (by unfold maxLen; omega) _ _ _ rfl rfl (keyIC (by decide) (by decide)) _ [] (plainElem_int Tryd.underlying3 (WalkArith.wf_i64 (by omega))) ?_; intro w1 hown1 hg1; have HO1 := Lib.hid (HO.out.trans (ovC_grown hg1)); have fC1 := eight_cellsC (HC.out _ HO1.out))
      have HM1 := Lib.hid (show OwnM w1 M1 2 (pD 2) from hown1)
      have hdec := decode_any fixC 2 A c B w1 (HR.out _ HO1.out) (Nat.le_trans hB HO1.out.size) hc (by decide) (HF.out _ HO1.out)
      rw [decFix2] at hdec
      refine hdec.mono ?_
      rintro e w2 ⟨hb2, hcase⟩
      obtain ⟨y, p, hxp, rfl⟩ | ⟨n, hxp, _⟩ := hcase
      rotate_left 1
      · cases hxp
      obtain ⟨rfl, rfl⟩ : y = (18, 0, 0) ∧ p = 3 := by cases hxp; exact ⟨rfl, rfl⟩
      have hb3 : Below w1.heap.size w1 (w2.alloc (.cells #[.int .i64 18, .int .i64 0, .int .i64 0] 34)) := hb2.alloc hb2.size _
      have HO3 := Lib.hid (HO1.out.trans (OvC.of_below hb3))
      have hw3 := heap_alloc_new w2 (.cells #[.int .i64 18, .int .i64 0, .int .i64 0] 34)
      have f3 := three_cellsC hw3
      have l3 := lt_of_blkC hw3
      have fC3 := eight_cellsC (HC.out _ HO3.out)
      have HM3 := Lib.hid (HM1.out.keep (hb3.block M1 HM1.out.lt))
      have hc7 := fun w => isNamed_fix (op := 18) (a := 0) (b := 0) (by decide) (.pointer (some ⟨C, 0, none⟩)) w
      clear hdec hxp HM HM1 HO1 HO fC fC1 hg1 hown1 hb3
      unfold insV
      go_wp2_with (first | (go_at_call 27; refine (hc7 _).mono ?_; rintro e w4 ⟨rfl, hb4⟩; have HO4 := Lib.hid (HO3.out.trans (OvC.of_below hb4)); have hw4 := (hb4.block _ l3).trans hw3; have f4 := three_cellsC hw4; have l4 := lt_of_blkC hw4; have fC4 := eight_cellsC (HC.out _ HO4.out); have HM4 := Lib.hid (HM3.out.keep (hb4.block M1 HM3.out.lt)); clear f3 fC3 hw3 l3 HO3 HM3))
      refine (blockSize_fix (op := 18) (a := 0) (b := 0) (by decide) w4).mono ?_
      rintro e w5 ⟨rfl, hb5⟩
      have HO5 := Lib.hid (HO4.out.trans (OvC.of_below hb5))
      have hw5 := (hb5.block _ l4).trans hw4
      have f5 := three_cellsC hw5
      have l5 := lt_of_blkC hw5
      have HM5 := Lib.hid (HM4.out.keep (hb5.block M1 HM4.out.lt))
      have hj := isJump_fix (op := 18) (a := 0) (b := 0) (by decide) w5
      clear hc7 hb4 hb5 f4 fC4 hw4 l4 HO4 HM4
      go_wp2_with fail
      refine hj.mono ?_
      rintro e w6 ⟨rfl, hb6⟩
      have HO6 := Lib.hid (HO5.out.trans (OvC.of_below hb6))
      have HM6 := Lib.hid (HM5.out.keep (hb6.block M1 HM5.out.lt))
      clear hj hb6 f5 hw5 l5 HO5 HM5
      go_wp2_with fail
      go_roundw
      case rel => exact ⟨2, by decide, rfl, rfl, rfl, HO6, HM6⟩
      case measure => simp [intOf, pAt]
    · have HM2 := Lib.hid (show OwnM wr M1 2 pD2 from HM.out)
      clear HM
      simp only [pAt] at *
      go_wp2_with fail
      go_loopw [83] (fun v83 wx => v83 = .int .i64 0 ∧ wr = wx) (fun _ _ => 0)
      case atStart => exact ⟨rfl, rfl⟩
      case round =>
        obtain ⟨rfl, rfl⟩ := hrel
        go_wp2_with fail
        go_ret
        exact ⟨rfl, HO.out, HM2.out⟩
end Go.Proofs.YtdfghcbojbbgcaaDoor.Fl

