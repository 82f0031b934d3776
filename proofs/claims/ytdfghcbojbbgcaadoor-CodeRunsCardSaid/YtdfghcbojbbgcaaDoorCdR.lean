/-
  Instructions: Check's step, of the laws' fixed code.
-/
import Derived.Test.YtdfghcbojbbgcaaDoorCdQ
namespace Go.Proofs.YtdfghcbojbbgcaaDoor.Fl
open Go.RowKit Go.Maps

def dD1 : DataW Unit := (DataW.map []).put (.int .i64 0) (.lit (.int .i64 0))
def dD2 : DataW Unit := ((DataW.map []).put (.int .i64 0) (.lit (.int .i64 0))).put (.int .i64 2) (.lit (.int .i64 1))
set_option maxRecDepth 100000 in
theorem look_fix {w : World} {b n : Nat} {D : DataW Unit} (h : OwnM w b n D) {k v : Int} (hk0 : -9223372036854775808 ≤ k) (hk : k ≤ 9223372036854775807) (hv : D.atKey (.int .i64 k) (.lit (.int .i64 0)) = .lit (.int .i64 v)) :
    (Instr.lookup 45 (.map (some b)) (.int .i64 k) false).run Tryd.prog w = .ok (.int .i64 v) w := by
  obtain ⟨c, hrun, hat, _⟩ := World.ownsMap.lookup_int h keyedIC Tryd.underlying45 Tryd.underlying3 (zeroIC w) (keyIC hk0 hk)
  rw [hv] at hat
  injection hat with hat
  injection hat with _ hat
  subst hat
  exact hrun
set_option maxRecDepth 100000 in
set_option maxHeartbeats 4000000 in
theorem step0_fix {w0 w : World} {base C c M1 M2 B : Nat} {A A0 : Option Addr} {c0 : Nat} (h : CkS w0 w base C c M1 M2 A 1 dD1 (.slice A0 0 c0) [] 0) (hr : Rd w B A (cb fixC)) (hB : B ≤ base) (hc : 3 ≤ c) (hF : ∀ w', Below base w w' → FormsAt w') :
    Calls Tryd.prog 21 #[.pointer (some ⟨C, 0, none⟩), .int .i64 0] w fun e w' => e = .returned (.tuple #[]) ∧ ∃ A1 c1, CkS w0 w' base C c M1 M2 A 2 dD2 (.slice A1 1 c1) [2] 1 := by
  have HS := Lib.hid h
  have HF := Lib.hid hF
  have fC := eight_cellsC h.blk
  have hsz := h.size
  have hdec := decode_any fixC 0 A c B w hr (Nat.le_trans hB hsz) hc (by decide) (hF _ (Below.refl _ _))
  rw [decFix0] at hdec
  clear h hr hF
  go_enter Tryd.func21, Tryd.ntmps21
  go_wp2_with fail
  refine hdec.mono ?_
  rintro e w2 ⟨hb2, hcase⟩
  obtain ⟨y, p, hxp, rfl⟩ | ⟨n, hxp, _⟩ := hcase
  rotate_left 1
  · cases hxp
  obtain ⟨rfl, rfl⟩ : y = (4, 5, 0) ∧ p = 2 := by cases hxp; exact ⟨rfl, rfl⟩
  have hb3 : Below w.heap.size w (w2.alloc (.cells #[.int .i64 4, .int .i64 5, .int .i64 0] 34)) := hb2.alloc hb2.size _
  have HS3 := Lib.hid (HS.out.below hb3)
  have hw3 := heap_alloc_new w2 (.cells #[.int .i64 4, .int .i64 5, .int .i64 0] 34)
  have f3 := three_cellsC hw3
  have l3 := lt_of_blkC hw3
  have fC3 := eight_cellsC HS3.out.blk
  have HF3 := Lib.hid (fun w' (h : Below w2.heap.size (w2.alloc (.cells #[.int .i64 4, .int .i64 5, .int .i64 0] 34)) w') => HF.out w' ((hb3.mono hsz).trans (h.mono (Nat.le_trans hsz hb2.size))))
  obtain ⟨g0, g1, g2, g3, g4, g5, g6⟩ := (HF3.out _ (Below.refl _ _)).row (k := 4) rfl
  have hgl := (HF3.out _ (Below.refl _ _)).lt
  clear hdec hxp HS HF fC hb2 hb3
  unfold insV
  go_upto_region 1 with fail
  have q1 := fun n => look_fix (w := (w2.alloc (.cells #[.int .i64 4, .int .i64 5, .int .i64 0] 34)).drewN n) (k := 0) (v := 0) (HS3.out.m1) (by decide) (by decide) rfl
  have q2 := fun n => look_fix (w := (w2.alloc (.cells #[.int .i64 4, .int .i64 5, .int .i64 0] 34)).drewN n) (k := 0) (v := 0) (HS3.out.m2) (by decide) (by decide) rfl
  go_quiet (fail)
  clear q1 q2
  have hj := fun w => isJump_fix (op := 4) (a := 5) (b := 0) (by decide) w
  generalize w2.alloc (.cells #[.int .i64 4, .int .i64 5, .int .i64 0] 34) = w3 at *
  go_wp2_with fail
  refine (hj _).mono ?_
  rintro e w4 ⟨rfl, hb4⟩
  have hb4' : Below w3.heap.size w3 w4 := (show Below w3.heap.size w3 (w3.drewN nq) from ⟨rfl, rfl, rfl, Nat.le_refl _, fun _ _ => rfl⟩).trans hb4
  have HS4 := Lib.hid (HS3.out.below hb4')
  have hw4 := (hb4'.block _ l3).trans hw3
  have f4 := three_cellsC hw4
  have l4 := lt_of_blkC hw4
  have hl : Calls Tryd.prog 31 #[.agg #[.int .i64 4, .int .i64 5, .int .i64 0]] w4 fun e w' => e = .returned (.bool false) ∧ Below w4.heap.size w4 w' := isLast_fix (by decide) w4
  clear hj hb4 hb4' HS3 HF3 hw3 f3 l3 fC3 g0 g1 g2 g3 g4 g5 g6 hgl
  go_wp2_with fail
  refine hl.mono ?_
  rintro e w5 ⟨rfl, hb5⟩
  have HS5 := Lib.hid (HS4.out.below hb5)
  have hw5 := (hb5.block _ l4).trans hw4
  have f5 := three_cellsC hw5
  have hz := blockSize_fix (op := 4) (a := 5) (b := 0) (by decide) w5
  clear hl hb5 HS4 hw4 f4 l4
  go_wp2_with fail
  refine hz.mono ?_
  rintro e w6 ⟨rfl, hb6⟩
  have HS6 := Lib.hid (HS5.out.below hb6)
  have hre := reach_fix (n := 1) (D := dD1) (os := []) (A0 := A0) (c0 := c0) (at_ := 2) (dp := 1) HS6.out (.inr ⟨rfl, rfl⟩) rfl (by decide) (by decide)
  clear hz hb6 HS5 hw5 f5
  go_wp2_with fail
  refine hre.mono ?_
  rintro e w7 ⟨rfl, A1, c1, hS7⟩
  have HS7 := Lib.hid hS7
  clear hre hS7 HS6
  go_wp2_with fail
  go_end0
  exact ⟨rfl, A1, c1, HS7.out⟩
end Go.Proofs.YtdfghcbojbbgcaaDoor.Fl

