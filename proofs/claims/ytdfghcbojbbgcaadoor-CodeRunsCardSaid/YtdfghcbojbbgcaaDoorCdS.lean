/-
  Instructions: Check's run, of the laws' fixed code.
-/
import Derived.Test.YtdfghcbojbbgcaaDoorCdR
namespace Go.Proofs.YtdfghcbojbbgcaaDoor.Fl
open Go.RowKit Go.Maps

set_option maxRecDepth 100000 in
set_option maxHeartbeats 4000000 in
theorem step2_fix {w0 w : World} {base C c M1 M2 B : Nat} {A A0 : Option Addr} {c0 : Nat} (h : CkS w0 w base C c M1 M2 A 2 dD2 (.slice A0 0 c0) [] 1) (hr : Rd w B A (cb fixC)) (hB : B ≤ base) (hc : 3 ≤ c) (hF : ∀ w', Below base w w' → FormsAt w') :
    Calls Tryd.prog 21 #[.pointer (some ⟨C, 0, none⟩), .int .i64 2] w fun e w' => e = .returned (.tuple #[]) ∧ CkS w0 w' base C c M1 M2 A 2 dD2 (.slice A0 0 c0) [] 1 := by
  have HS := Lib.hid h
  have HF := Lib.hid hF
  have fC := eight_cellsC h.blk
  have hsz := h.size
  have hdec := decode_any fixC 2 A c B w hr (Nat.le_trans hB hsz) hc (by decide) (hF _ (Below.refl _ _))
  rw [decFix2] at hdec
  clear h hr hF
  go_enter Tryd.func21, Tryd.ntmps21
  go_wp2_with fail
  refine hdec.mono ?_
  rintro e w2 ⟨hb2, hcase⟩
  obtain ⟨y, p, hxp, rfl⟩ | ⟨n, hxp, _⟩ := hcase
  rotate_left 1
  · cases hxp
  obtain ⟨rfl, rfl⟩ : y = (18, 0, 0) ∧ p = 3 := by cases hxp; exact ⟨rfl, rfl⟩
  have hb3 : Below w.heap.size w (w2.alloc (.cells #[.int .i64 18, .int .i64 0, .int .i64 0] 34)) := hb2.alloc hb2.size _
  have HS3 := Lib.hid (HS.out.below hb3)
  have hw3 := heap_alloc_new w2 (.cells #[.int .i64 18, .int .i64 0, .int .i64 0] 34)
  have f3 := three_cellsC hw3
  have l3 := lt_of_blkC hw3
  have fC3 := eight_cellsC HS3.out.blk
  have HF3 := Lib.hid (fun w' (h : Below w2.heap.size (w2.alloc (.cells #[.int .i64 18, .int .i64 0, .int .i64 0] 34)) w') => HF.out w' ((hb3.mono hsz).trans (h.mono (Nat.le_trans hsz hb2.size))))
  obtain ⟨g0, g1, g2, g3, g4, g5, g6⟩ := (HF3.out _ (Below.refl _ _)).row (k := 18) rfl
  have hgl := (HF3.out _ (Below.refl _ _)).lt
  clear hdec hxp HS HF fC hb2 hb3
  unfold insV
  go_upto_region 1 with fail
  have q1 := fun n => look_fix (w := (w2.alloc (.cells #[.int .i64 18, .int .i64 0, .int .i64 0] 34)).drewN n) (k := 2) (v := 0) (HS3.out.m1) (by decide) (by decide) rfl
  have q2 := fun n => look_fix (w := (w2.alloc (.cells #[.int .i64 18, .int .i64 0, .int .i64 0] 34)).drewN n) (k := 2) (v := 1) (HS3.out.m2) (by decide) (by decide) rfl
  go_quiet (fail)
  clear q1 q2
  have hj := fun w => isJump_fix (op := 18) (a := 0) (b := 0) (by decide) w
  generalize w2.alloc (.cells #[.int .i64 18, .int .i64 0, .int .i64 0] 34) = w3 at *
  go_wp2_with fail
  refine (hj _).mono ?_
  rintro e w4 ⟨rfl, hb4⟩
  have hb4' : Below w3.heap.size w3 w4 := (show Below w3.heap.size w3 (w3.drewN nq) from ⟨rfl, rfl, rfl, Nat.le_refl _, fun _ _ => rfl⟩).trans hb4
  have HS4 := Lib.hid (HS3.out.below hb4')
  have hw4 := (hb4'.block _ l3).trans hw3
  have f4 := three_cellsC hw4
  have l4 := lt_of_blkC hw4
  have hl : Calls Tryd.prog 31 #[.agg #[.int .i64 18, .int .i64 0, .int .i64 0]] w4 fun e w' => e = .returned (.bool true) ∧ Below w4.heap.size w4 w' := isLast_fix (by decide) w4
  clear hj hb4 hb4' HS3 HF3 hw3 f3 l3 fC3 g0 g1 g2 g3 g4 g5 g6 hgl
  go_wp2_with fail
  refine hl.mono ?_
  rintro e w5 ⟨rfl, hb5⟩
  have HS5 := Lib.hid (HS4.out.below hb5)
  clear hl hb5 HS4 hw4 f4 l4
  go_wp2_with fail
  go_end0
  exact ⟨rfl, HS5.out⟩
theorem ownZ_some {w : World} {base c : Nat} {A : Option Addr} {x : Int} (h : OwnZ w base (.slice A 1 c) [x]) : ∃ g, A = some ⟨g, 0, none⟩ ∧ w.cell? ⟨g, 0, none⟩ = some (.int .i64 x) ∧ 1 ≤ c ∧ g < w.heap.size := by
  rcases h.2 with ⟨_, e⟩ | ⟨g, cap, cur, e1, hb, hg, hc, _, hs, ht⟩
  · cases e
  · injection e1 with e1 e2 e3
    subst e1 e3
    refine ⟨g, rfl, ?_, hc, lt_of_blkC hg⟩
    rw [cell_of_row w g 0 _ _ _ hg]
    have h0 : (cz [x])[0]? = some (.int .i64 x) := rfl
    rw [← ht, List.getElem?_take, if_pos (by simp)] at h0
    simpa using h0
theorem CkS.pop {w0 w : World} {base C c M1 M2 n : Nat} {A A0 : Option Addr} {D : DataW Unit} {c0 : Nat} {x most : Int} (h : CkS w0 w base C c M1 M2 A n D (.slice A0 1 c0) [x] most) : CkS w0 (w.setCell ⟨C, 6, none⟩ (.slice A0 0 c0)) base C c M1 M2 A n D (.slice A0 0 c0) [] most := by
  obtain ⟨g, rfl, _, _, _⟩ := ownZ_some h.row
  refine ⟨h.bel.setCell (p := ⟨C, 6, none⟩) h.lo.1 _, heap_setCell_same w C 6 _ _ _ h.blk, h.m1.keep (Below.heap_setCell _ _ _ _ h.ne.1.symm), h.m2.keep (Below.heap_setCell _ _ _ _ h.ne.2.1.symm), ?_, h.far, h.lo, h.ne⟩
  rcases h.row.2 with ⟨_, e⟩ | ⟨g', cap, cur, e1, hb, hg, hc, hm, hs, ht⟩
  · cases e
  · injection e1 with e1 e2 e3
    injection e1 with e1
    injection e1 with e1
    subst e1 e3
    exact ⟨rfl, .inr ⟨g, c0, cur, rfl, hb, (Below.heap_setCell _ _ _ _ (h.far g rfl).1).trans hg, Nat.zero_le _, hm, hs, rfl⟩⟩
def mzr (C : Nat) (wr : World) : Nat := (match wr.cell? ⟨C, 6, none⟩ with | some (.slice _ n _) => n | _ => 0) + (match wr.cell? ⟨C, 7, none⟩ with | some (.int _ 0) => 1 | _ => 0)
theorem mzr_of {w : World} {C c M1 M2 k c0 : Nat} {A A0 : Option Addr} {most : Int} (h : CkB w C c M1 M2 A (.slice A0 k c0) most) : mzr C w = k + (if most = 0 then 1 else 0) := by
  obtain ⟨_, _, _, _, _, _, c6, c7, _⟩ := eight_cellsC h
  unfold mzr
  rw [c6, c7]
  by_cases h0 : most = 0
  · subst h0; rfl
  · rw [if_neg h0]
    show k + _ = k + 0
    congr 1
    split
    · next h1 => injection h1 with h1; injection h1 with _ h1; exact absurd h1 h0
    · rfl
end Go.Proofs.YtdfghcbojbbgcaaDoor.Fl

