/-
  The lexer: Keywords behind a #.
-/
import Derived.Test.YtmdkneollidkfaaGreatDoorLxC
namespace Go.Proofs.YtmdkneollidkfaaGreatDoor.Fl
open Go.RowKit

/-- the place behind Keywords that stand one behind the other -/
def joinW (s : ByteArray) (q : Nat) : Nat :=
  if h : (letterN (lookB s q) = true ∧ (namedR s q).1 = 2) ∧ q < (namedR s q).2 ∧ (namedR s q).2 ≤ s.size then joinW s (namedR s q).2 else q
termination_by s.size - q
decreasing_by omega
/-- the place behind a Name, or Keywords, behind a # -/
def joinR (s : ByteArray) (p : Nat) : Nat := if (namedR s p).1 = 2 then joinW s (namedR s p).2 else (namedR s p).2
theorem joinW_le (s : ByteArray) (q : Nat) (hq : q ≤ s.size) : q ≤ joinW s q ∧ joinW s q ≤ s.size := by
  obtain ⟨n, hn⟩ : ∃ n, s.size - q = n := ⟨_, rfl⟩
  induction n using Nat.strongRecOn generalizing q with
  | _ n ih =>
    rw [joinW]
    split
    · next h =>
      have := ih (s.size - (namedR s q).2) (by omega) (namedR s q).2 h.2.2 rfl
      omega
    · omega
theorem letter_part {c : Nat} (h : letterN c = true) : partN c = true := by unfold partN; rw [h]; rfl
theorem letter_zero : letterN 0 = false := rfl
theorem namedR_lt {s : ByteArray} {q : Nat} (hq : q ≤ s.size) (h : letterN (lookB s q) = true) : q < (namedR s q).2 := by
  have hp : q < s.size := by
    rcases Nat.lt_or_ge q s.size with h1 | h1
    · exact h1
    · unfold lookB at h
      rw [dif_neg (by omega), letter_zero] at h
      cases h
  have h2 : letterN s[q].toNat = true := by unfold lookB at h; rwa [dif_pos hp] at h
  have h3 := runE_step hp (letter_part h2)
  have h4 := (runE_le (f := partN) (s := s) (p := q + 1) hp).1
  unfold namedR
  split
  · show q < _ + 1; omega
  · show q < runE partN s q; omega
theorem joinR_le {s : ByteArray} {p : Nat} (hp : p ≤ s.size) : p ≤ joinR s p ∧ joinR s p ≤ s.size := by
  have h1 := namedR_le hp
  unfold joinR
  split
  · have := joinW_le s _ h1.2
    omega
  · exact h1
set_option maxHeartbeats 2000000 in
theorem joined_any (R : Nat) (s : ByteArray) (p b : Nat) (w : World) (h : RdrAt w R s p b) (hs : s.size ≤ 16777216) (hp : p ≤ s.size) :
    Calls Tryz.prog 199 #[.pointer (some ⟨R, 0, none⟩)] w fun e w' => e = .returned (.string (s.extract p (joinR s p))) ∧ RdrAt w' R s (joinR s p) b ∧ Ov R w w' := by
  have hna := named_any R s p b w h hs hp
  have hle := namedR_le hp
  obtain ⟨c0, c1, c2, cf⟩ := h.cells
  have hR := lt_of_blk h
  have HJ := Lib.hid (show joinR s p = if (namedR s p).1 = 2 then joinW s (namedR s p).2 else (namedR s p).2 from rfl)
  have HJl := Lib.hid (joinR_le hp)
  have HK2 : Hid ((namedR s p).1 = 1 ∨ (namedR s p).1 = 2) := Lib.hid (by unfold namedR; split; exact .inr rfl; exact .inl rfl)
  generalize joinR s p = J at *
  generalize (namedR s p).1 = k0 at *
  generalize (namedR s p).2 = q0 at *
  clear h
  go_enter Tryz.func199, Tryz.ntmps199
  go_wp2_with fail
  refine hna.mono ?_
  rintro e w1 ⟨rfl, h1, ho1⟩
  have H1 := Lib.hid h1
  have HO1 := Lib.hid ho1
  clear hna h1 ho1 c0 c1 c2 cf hR
  go_wp2_with fail
  go_loopw [4] (fun v wr => ∃ k q : Nat, q ≤ s.size ∧ v = .int .i64 (k : Int) ∧ Hid ((k = 1 ∧ J = q) ∨ (k = 2 ∧ J = joinW s q)) ∧ Hid (RdrAt wr R s q b) ∧ Hid (Ov R w wr)) (fun v wr => 2 * (s.size - atOf R wr) + (intOf v).toNat)
  case atStart => exact ⟨k0, q0, hle.2, rfl, Lib.hid (by rcases HK2.out with h | h; exact .inl ⟨h, by rw [HJ.out, if_neg (by omega)]⟩; exact .inr ⟨h, by rw [HJ.out, if_pos h]⟩), H1, HO1⟩
  case round =>
    clear H1 HO1 HK2 HJ
    obtain ⟨k, q, hq, rfl, HE, HR, HO⟩ := hrel
    have HM := Lib.hid (show atOf R wr = q from HR.out.atOf)
    rcases HE.out with ⟨rfl, hJ⟩ | ⟨rfl, hJ⟩
    · subst hJ
      have hJp := HJl.out
      go_upto_region 8 with fail
      obtain ⟨c0, c1, c2, cf⟩ := HR.out.cells
      have hR := lt_of_blk HR.out
      go_quiet (fail)
      go_wp2_with fail
      go_ret
      exact ⟨rfl, HR.out.below (_root_.Go.below_drewN (Below.refl _ _) _), HO.out.trans (Ov.of_below (_root_.Go.below_drewN (Below.refl _ _) _))⟩
    · have hlk := lxLook_any R s q b 0 wr HR.out hs hq (by omega)
      rw [Nat.add_zero] at hlk
      have hlt8 := lookB_lt s q
      cases hl : letterN (lookB s q)
      · have hle1 := fun (w' : World) => letterN_any (lookB s q) w' hlt8
        rw [hl] at hle1
        have hJq : J = q := by rw [hJ, joinW, dif_neg (fun h => by rw [hl] at h; exact absurd h.1.1 (by simp))]
        subst hJq
        have hJp := HJl.out
        clear hl hlt8 hJ
        generalize lookB s J = c at *
        go_wp2_with fail
        refine hlk.mono ?_
        rintro e w2 ⟨rfl, hb2⟩
        have H2 := Lib.hid (HR.out.below hb2)
        have HO2 := Lib.hid (HO.out.trans (Ov.of_below hb2))
        have hl2 := hle1 w2
        clear hlk hb2 HR HO hle1
        go_wp2_with fail
        refine hl2.mono ?_
        rintro e w' ⟨rfl, rfl⟩
        clear hl2
        obtain ⟨c0, c1, c2, cf⟩ := H2.out.cells
        have hR := lt_of_blk H2.out
        go_upto_region 8 with fail
        go_quiet (fail)
        go_wp2_with fail
        go_ret
        exact ⟨rfl, H2.out.below (_root_.Go.below_drewN (Below.refl _ _) _), HO2.out.trans (Ov.of_below (_root_.Go.below_drewN (Below.refl _ _) _))⟩
      · have hle1 := fun (w' : World) => letterN_any (lookB s q) w' hlt8
        rw [hl] at hle1
        have hgt := namedR_lt hq hl
        have hnl := namedR_le hq
        have HJ2 := Lib.hid (show J = if (namedR s q).1 = 2 then joinW s (namedR s q).2 else q by
          rw [hJ, joinW]
          by_cases h2 : (namedR s q).1 = 2
          · rw [dif_pos ⟨⟨hl, h2⟩, hgt, hnl.2⟩, if_pos h2]
          · rw [dif_neg (fun h => h2 h.1.2), if_neg h2])
        have hna := fun w' h' => named_any R s q b w' h' hs hq
        have HK2 : Hid ((namedR s q).1 = 1 ∨ (namedR s q).1 = 2) := Lib.hid (by unfold namedR; split; exact .inr rfl; exact .inl rfl)
        clear hJ hl hlt8
        generalize (namedR s q).1 = k1 at *
        generalize (namedR s q).2 = q1 at *
        generalize lookB s q = c at *
        go_wp2_with fail
        refine hlk.mono ?_
        rintro e w2 ⟨rfl, hb2⟩
        have H2 := Lib.hid (HR.out.below hb2)
        have HO2 := Lib.hid (HO.out.trans (Ov.of_below hb2))
        have hl2 := hle1 w2
        clear hlk hb2 HR HO hle1
        go_wp2_with fail
        refine hl2.mono ?_
        rintro e w' ⟨rfl, rfl⟩
        clear hl2
        obtain ⟨c0, c1, c2, cf⟩ := H2.out.cells
        have hR := lt_of_blk H2.out
        have hn2 := hna w2 H2.out
        clear hna
        go_wp2_with fail
        refine hn2.mono ?_
        rintro e w3 ⟨rfl, h3, ho3⟩
        have H3 := Lib.hid h3
        have HO3 := Lib.hid (HO2.out.trans ho3)
        clear hn2 h3 ho3 c0 c1 c2 cf hR H2 HO2
        obtain ⟨c0, c1, c2, cf⟩ := H3.out.cells
        have hR := lt_of_blk H3.out
        rcases HK2.out with rfl | rfl
        · have HJ3 := Lib.hid (HJ2.out.trans (if_neg (by decide)))
          have H4 := Lib.hid (H3.out.step q)
          have HO4 := Lib.hid (HO3.out.trans (Ov.set w3 1 (.int .i64 (q : Int))))
          go_wp2_with fail
          go_roundw
          case rel => exact ⟨1, q, hq, rfl, Lib.hid (.inl ⟨rfl, HJ3.out⟩), H4, HO4⟩
          case measure => rw [H4.out.atOf, HM.out]; simp [intOf]
        · have HJ3 := Lib.hid (HJ2.out.trans (if_pos rfl))
          have HM3 := Lib.hid (show atOf R w3 = q1 from H3.out.atOf)
          go_wp2_with fail
          go_roundw
          case rel => exact ⟨2, q1, hnl.2, rfl, Lib.hid (.inr ⟨rfl, HJ3.out⟩), H3, HO3⟩
          case measure => rw [HM3.out, HM.out]; simp [intOf]; omega
end Go.Proofs.YtmdkneollidkfaaGreatDoor.Fl
