/-
  Instructions: Check's run, of the laws' fixed code.
-/
import Derived.Test.YtdfghcbojbbgcaaDoorCdS
namespace Go.Proofs.YtdfghcbojbbgcaaDoor.Fl
open Go.RowKit Go.Maps

set_option maxRecDepth 100000 in
set_option maxHeartbeats 4000000 in
theorem run_fix {w0 w : World} {base C c M1 M2 B : Nat} {A : Option Addr} (h : CkS w0 w base C c M1 M2 A 0 (.map []) (.slice none 0 0) [] 0) (hr : ∀ w', Below base w0 w' → Rd w' B A (cb fixC)) (hB : B ≤ base) (hc : 3 ≤ c) (hF : ∀ w', Below base w0 w' → FormsAt w') :
    Calls Tryd.prog 11 #[.pointer (some ⟨C, 0, none⟩)] w fun e w' => e = .returned (.tuple #[]) ∧ ∃ A1 c1, CkS w0 w' base C c M1 M2 A 2 dD2 (.slice A1 0 c1) [] 1 := by
  have hre := reach_fix (n := 0) (D := .map []) (os := []) (A0 := none) (c0 := 0) (at_ := 0) (dp := 0) h (.inl ⟨rfl, rfl⟩) rfl (by decide) (by decide)
  have HR := Lib.hid hr
  have HF := Lib.hid hF
  clear h hr hF
  go_enter Tryd.func11, Tryd.ntmps11
  go_wp2_with fail
  refine hre.mono ?_
  rintro e w1 ⟨rfl, A1, c1, hS1⟩
  have HS1 := Lib.hid (show CkS w0 w1 base C c M1 M2 A 1 dD1 (.slice A1 1 c1) [0] 0 from hS1)
  clear hre hS1
  go_wp2_with fail
  go_loopw [] (fun wr => Hid ((∃ A1 c1, CkS w0 wr base C c M1 M2 A 1 dD1 (.slice A1 1 c1) [0] 0) ∨ (∃ A1 c1, CkS w0 wr base C c M1 M2 A 2 dD2 (.slice A1 1 c1) [2] 1) ∨ (∃ A1 c1, CkS w0 wr base C c M1 M2 A 2 dD2 (.slice A1 0 c1) [] 1))) (fun wr => mzr C wr)
  case atStart => exact Lib.hid (.inl ⟨A1, c1, HS1.out⟩)
  case round =>
    clear HS1
    rcases hrel.out with ⟨A2, c2, hS⟩ | ⟨A2, c2, hS⟩ | ⟨A2, c2, hS⟩
    · obtain ⟨g, rfl, d0, hc2, hgl⟩ := ownZ_some hS.row
      have fC := eight_cellsC hS.blk
      have hP := hS.pop
      have hst := step0_fix hP (HR.out _ hP.bel) hB hc (fun w' hb => HF.out w' (hP.bel.trans hb))
      have HS := Lib.hid hS
      clear hrel hS hP
      go_wp2_with fail
      refine hst.mono ?_
      rintro e w2 ⟨rfl, A3, c3, hS3⟩
      have HS3 := Lib.hid hS3
      have HZ : Hid (mzr C w2 < mzr C wr) := Lib.hid (by rw [mzr_of hS3.blk, mzr_of HS.out.blk]; decide)
      clear hst hS3 HS fC
      go_wp2_with fail
      go_roundw
      case rel => exact Lib.hid (.inr (.inl ⟨A3, c3, HS3.out⟩))
      case measure => exact HZ.out
    · obtain ⟨g, rfl, d0, hc2, hgl⟩ := ownZ_some hS.row
      have fC := eight_cellsC hS.blk
      have hP := hS.pop
      have hst := step2_fix hP (HR.out _ hP.bel) hB hc (fun w' hb => HF.out w' (hP.bel.trans hb))
      have HS := Lib.hid hS
      clear hrel hS hP
      go_wp2_with fail
      refine hst.mono ?_
      rintro e w2 ⟨rfl, hS3⟩
      have HS3 := Lib.hid hS3
      have HZ : Hid (mzr C w2 < mzr C wr) := Lib.hid (by rw [mzr_of hS3.blk, mzr_of HS.out.blk]; decide)
      clear hst hS3 HS fC
      go_wp2_with fail
      go_roundw
      case rel => exact Lib.hid (.inr (.inr ⟨_, _, HS3.out⟩))
      case measure => exact HZ.out
    · have fC := eight_cellsC hS.blk
      have HS := Lib.hid hS
      clear hrel hS
      go_wp2_with fail
      go_end0
      exact ⟨rfl, A2, c2, HS.out⟩
end Go.Proofs.YtdfghcbojbbgcaaDoor.Fl

