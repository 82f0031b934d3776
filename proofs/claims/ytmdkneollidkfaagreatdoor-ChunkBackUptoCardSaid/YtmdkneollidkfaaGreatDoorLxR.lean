/-
  The lexer: bytes as long as they are such.
-/
import Derived.Test.YtmdkneollidkfaaGreatDoorLxA
namespace Go.Proofs.YtmdkneollidkfaaGreatDoor.Fl
open Go.RowKit

set_option maxHeartbeats 2000000 in
theorem run_blankN (R : Nat) (s : ByteArray) (p b : Nat) (w : World) (h : RdrAt w R s p b) (hs : s.size ≤ 16777216) (hp : p ≤ s.size) :
    Calls Tryz.prog 195 #[.pointer (some ⟨R, 0, none⟩), .func (.func 196) #[] #[]] w fun e w' => e = .returned (.string (s.extract p (runE blankN s p))) ∧ RdrAt w' R s (runE blankN s p) b ∧ Ov R w w' := by
  have H := Lib.hid h
  obtain ⟨c0, c1, c2, cf⟩ := h.cells
  have hR := lt_of_blk h
  clear h
  go_enter Tryz.func195, Tryz.ntmps195
  go_wp2_with fail
  clear c0 c1 c2 cf
  go_loopw [] (fun wr => ∃ q : Nat, q ≤ s.size ∧ Hid (p ≤ q ∧ runE blankN s p = runE blankN s q) ∧ Hid (RdrAt wr R s q b) ∧ Hid (Ov R w wr)) (fun wr => s.size - atOf R wr)
  case atStart => exact ⟨p, hp, Lib.hid ⟨Nat.le_refl _, rfl⟩, H, Lib.hid (Ov.refl _ _)⟩
  case round =>
    obtain ⟨q, hq, HE, HR, HO⟩ := hrel
    obtain ⟨c0, c1, c2, cf⟩ := HR.out.cells
    have hR1 : R < wr.heap.size := lt_of_blk HR.out
    by_cases hlt : q < s.size
    · have hcb : s[q].toNat < 256 := s[q].toNat_lt
      have hfq := blankN_any s[q].toNat
      cases hv : blankN s[q].toNat
      · have hre := Lib.hid (HE.out.2.trans (runE_stop hlt hv))
        rw [hv] at hfq
        have hfq2 := fun n => (hfq (wr.drewN n) hcb).mono fun e w' h => And.intro h.1 h.2.symm
        clear hfq hv
        go_wp2_with fail
        go_quiet (with_reducible exact Calls.quiet_of_same (hfq2 _))
        go_wp2_with fail
        have hE1 := HE.out.1
        go_quiet (fail)
        go_wp2_with fail
        go_ret
        refine ⟨?_, ?_, ?_⟩
        · rw [hre.out]; rfl
        · rw [hre.out]; exact (HR.out.below (_root_.Go.below_drewN (Below.refl _ _) _)).below (_root_.Go.below_drewN (Below.refl _ _) _)
        · exact HO.out.trans (Ov.of_below (_root_.Go.below_drewN (_root_.Go.below_drewN (Below.refl _ _) _) _))
      · have hre := Lib.hid (HE.out.2.trans (runE_step hlt hv))
        rw [hv] at hfq
        have hfq2 := fun n => (hfq (wr.drewN n) hcb).mono fun e w' h => And.intro h.1 h.2.symm
        clear hfq hv
        go_wp2_with fail
        go_quiet (with_reducible exact Calls.quiet_of_same (hfq2 _))
        go_wp2_with fail
        have hR2 := (HR.out.below (_root_.Go.below_drewN (Below.refl wr.heap.size wr) nq)).step (q + 1)
        rw [show ((q + 1 : Nat) : Int) = (q : Int) + 1 by omega] at hR2
        refine ⟨⟨q + 1, hlt, Lib.hid ⟨Nat.le_succ_of_le HE.out.1, hre.out⟩, Lib.hid hR2, Lib.hid ((HO.out.trans (Ov.of_below (_root_.Go.below_drewN (Below.refl _ _) _))).trans (Ov.set _ _ _))⟩, ?_⟩
        rw [hR2.atOf, HR.out.atOf]; omega
    · have e : q = s.size := by omega
      subst e
      have hE1 := HE.out.1
      have hre := Lib.hid (HE.out.2.trans runE_end)
      go_wp2_with fail
      go_quiet (fail)
      go_wp2_with fail
      go_quiet (fail)
      go_wp2_with fail
      go_ret
      refine ⟨?_, ?_, ?_⟩
      · rw [hre.out]; rfl
      · rw [hre.out]; exact (HR.out.below (_root_.Go.below_drewN (Below.refl _ _) _)).below (_root_.Go.below_drewN (Below.refl _ _) _)
      · exact HO.out.trans (Ov.of_below (_root_.Go.below_drewN (_root_.Go.below_drewN (Below.refl _ _) _) _))
set_option maxHeartbeats 2000000 in
theorem run_partN (R : Nat) (s : ByteArray) (p b : Nat) (w : World) (h : RdrAt w R s p b) (hs : s.size ≤ 16777216) (hp : p ≤ s.size) :
    Calls Tryz.prog 195 #[.pointer (some ⟨R, 0, none⟩), .func (.func 137) #[] #[]] w fun e w' => e = .returned (.string (s.extract p (runE partN s p))) ∧ RdrAt w' R s (runE partN s p) b ∧ Ov R w w' := by
  have H := Lib.hid h
  obtain ⟨c0, c1, c2, cf⟩ := h.cells
  have hR := lt_of_blk h
  clear h
  go_enter Tryz.func195, Tryz.ntmps195
  go_wp2_with fail
  clear c0 c1 c2 cf
  go_loopw [] (fun wr => ∃ q : Nat, q ≤ s.size ∧ Hid (p ≤ q ∧ runE partN s p = runE partN s q) ∧ Hid (RdrAt wr R s q b) ∧ Hid (Ov R w wr)) (fun wr => s.size - atOf R wr)
  case atStart => exact ⟨p, hp, Lib.hid ⟨Nat.le_refl _, rfl⟩, H, Lib.hid (Ov.refl _ _)⟩
  case round =>
    obtain ⟨q, hq, HE, HR, HO⟩ := hrel
    obtain ⟨c0, c1, c2, cf⟩ := HR.out.cells
    have hR1 : R < wr.heap.size := lt_of_blk HR.out
    by_cases hlt : q < s.size
    · have hcb : s[q].toNat < 256 := s[q].toNat_lt
      have hfq := partN_any s[q].toNat
      cases hv : partN s[q].toNat
      · have hre := Lib.hid (HE.out.2.trans (runE_stop hlt hv))
        rw [hv] at hfq
        have hfq2 := fun n => (hfq (wr.drewN n) hcb).mono fun e w' h => And.intro h.1 h.2.symm
        clear hfq hv
        go_wp2_with fail
        go_quiet (with_reducible exact Calls.quiet_of_same (hfq2 _))
        go_wp2_with fail
        have hE1 := HE.out.1
        go_quiet (fail)
        go_wp2_with fail
        go_ret
        refine ⟨?_, ?_, ?_⟩
        · rw [hre.out]; rfl
        · rw [hre.out]; exact (HR.out.below (_root_.Go.below_drewN (Below.refl _ _) _)).below (_root_.Go.below_drewN (Below.refl _ _) _)
        · exact HO.out.trans (Ov.of_below (_root_.Go.below_drewN (_root_.Go.below_drewN (Below.refl _ _) _) _))
      · have hre := Lib.hid (HE.out.2.trans (runE_step hlt hv))
        rw [hv] at hfq
        have hfq2 := fun n => (hfq (wr.drewN n) hcb).mono fun e w' h => And.intro h.1 h.2.symm
        clear hfq hv
        go_wp2_with fail
        go_quiet (with_reducible exact Calls.quiet_of_same (hfq2 _))
        go_wp2_with fail
        have hR2 := (HR.out.below (_root_.Go.below_drewN (Below.refl wr.heap.size wr) nq)).step (q + 1)
        rw [show ((q + 1 : Nat) : Int) = (q : Int) + 1 by omega] at hR2
        refine ⟨⟨q + 1, hlt, Lib.hid ⟨Nat.le_succ_of_le HE.out.1, hre.out⟩, Lib.hid hR2, Lib.hid ((HO.out.trans (Ov.of_below (_root_.Go.below_drewN (Below.refl _ _) _))).trans (Ov.set _ _ _))⟩, ?_⟩
        rw [hR2.atOf, HR.out.atOf]; omega
    · have e : q = s.size := by omega
      subst e
      have hE1 := HE.out.1
      have hre := Lib.hid (HE.out.2.trans runE_end)
      go_wp2_with fail
      go_quiet (fail)
      go_wp2_with fail
      go_quiet (fail)
      go_wp2_with fail
      go_ret
      refine ⟨?_, ?_, ?_⟩
      · rw [hre.out]; rfl
      · rw [hre.out]; exact (HR.out.below (_root_.Go.below_drewN (Below.refl _ _) _)).below (_root_.Go.below_drewN (Below.refl _ _) _)
      · exact HO.out.trans (Ov.of_below (_root_.Go.below_drewN (_root_.Go.below_drewN (Below.refl _ _) _) _))
set_option maxHeartbeats 2000000 in
theorem run_digitN (R : Nat) (s : ByteArray) (p b : Nat) (w : World) (h : RdrAt w R s p b) (hs : s.size ≤ 16777216) (hp : p ≤ s.size) :
    Calls Tryz.prog 195 #[.pointer (some ⟨R, 0, none⟩), .func (.func 169) #[] #[]] w fun e w' => e = .returned (.string (s.extract p (runE digitN s p))) ∧ RdrAt w' R s (runE digitN s p) b ∧ Ov R w w' := by
  have H := Lib.hid h
  obtain ⟨c0, c1, c2, cf⟩ := h.cells
  have hR := lt_of_blk h
  clear h
  go_enter Tryz.func195, Tryz.ntmps195
  go_wp2_with fail
  clear c0 c1 c2 cf
  go_loopw [] (fun wr => ∃ q : Nat, q ≤ s.size ∧ Hid (p ≤ q ∧ runE digitN s p = runE digitN s q) ∧ Hid (RdrAt wr R s q b) ∧ Hid (Ov R w wr)) (fun wr => s.size - atOf R wr)
  case atStart => exact ⟨p, hp, Lib.hid ⟨Nat.le_refl _, rfl⟩, H, Lib.hid (Ov.refl _ _)⟩
  case round =>
    obtain ⟨q, hq, HE, HR, HO⟩ := hrel
    obtain ⟨c0, c1, c2, cf⟩ := HR.out.cells
    have hR1 : R < wr.heap.size := lt_of_blk HR.out
    by_cases hlt : q < s.size
    · have hcb : s[q].toNat < 256 := s[q].toNat_lt
      have hfq := digitN_any s[q].toNat
      cases hv : digitN s[q].toNat
      · have hre := Lib.hid (HE.out.2.trans (runE_stop hlt hv))
        rw [hv] at hfq
        have hfq2 := fun n => (hfq (wr.drewN n) hcb).mono fun e w' h => And.intro h.1 h.2.symm
        clear hfq hv
        go_wp2_with fail
        go_quiet (with_reducible exact Calls.quiet_of_same (hfq2 _))
        go_wp2_with fail
        have hE1 := HE.out.1
        go_quiet (fail)
        go_wp2_with fail
        go_ret
        refine ⟨?_, ?_, ?_⟩
        · rw [hre.out]; rfl
        · rw [hre.out]; exact (HR.out.below (_root_.Go.below_drewN (Below.refl _ _) _)).below (_root_.Go.below_drewN (Below.refl _ _) _)
        · exact HO.out.trans (Ov.of_below (_root_.Go.below_drewN (_root_.Go.below_drewN (Below.refl _ _) _) _))
      · have hre := Lib.hid (HE.out.2.trans (runE_step hlt hv))
        rw [hv] at hfq
        have hfq2 := fun n => (hfq (wr.drewN n) hcb).mono fun e w' h => And.intro h.1 h.2.symm
        clear hfq hv
        go_wp2_with fail
        go_quiet (with_reducible exact Calls.quiet_of_same (hfq2 _))
        go_wp2_with fail
        have hR2 := (HR.out.below (_root_.Go.below_drewN (Below.refl wr.heap.size wr) nq)).step (q + 1)
        rw [show ((q + 1 : Nat) : Int) = (q : Int) + 1 by omega] at hR2
        refine ⟨⟨q + 1, hlt, Lib.hid ⟨Nat.le_succ_of_le HE.out.1, hre.out⟩, Lib.hid hR2, Lib.hid ((HO.out.trans (Ov.of_below (_root_.Go.below_drewN (Below.refl _ _) _))).trans (Ov.set _ _ _))⟩, ?_⟩
        rw [hR2.atOf, HR.out.atOf]; omega
    · have e : q = s.size := by omega
      subst e
      have hE1 := HE.out.1
      have hre := Lib.hid (HE.out.2.trans runE_end)
      go_wp2_with fail
      go_quiet (fail)
      go_wp2_with fail
      go_quiet (fail)
      go_wp2_with fail
      go_ret
      refine ⟨?_, ?_, ?_⟩
      · rw [hre.out]; rfl
      · rw [hre.out]; exact (HR.out.below (_root_.Go.below_drewN (Below.refl _ _) _)).below (_root_.Go.below_drewN (Below.refl _ _) _)
      · exact HO.out.trans (Ov.of_below (_root_.Go.below_drewN (_root_.Go.below_drewN (Below.refl _ _) _) _))
end Go.Proofs.YtmdkneollidkfaaGreatDoor.Fl
