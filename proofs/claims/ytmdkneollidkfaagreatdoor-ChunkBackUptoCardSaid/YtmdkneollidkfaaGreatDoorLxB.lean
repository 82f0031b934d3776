/-
  The lexer: what may stand ahead of a token; a Name or a Keyword.
-/
import Derived.Test.YtmdkneollidkfaaGreatDoorLxR
import Derived.Test.YtmdkneollidkfaaGreatDoorShelf
import Derived.Deep.DeepCutAuto
namespace Go.Proofs.YtmdkneollidkfaaGreatDoor.Fl
open Go.RowKit

theorem limited_any (R : Nat) (s t : ByteArray) (p b m : Nat) (w : World) (h : RdrAt w R s p b) (ht : t.size ≤ 16777216) :
    Calls Tryz.prog 176 #[.pointer (some ⟨R, 0, none⟩), .string t, .int .i64 (m : Int)] w fun e w' => w = w' ∧ (t.size ≤ m ∧ e = .returned (.string t) ∨ m < t.size ∧ e = .panicked (faultC 2 b)) := by
  have hg := giveUp_any R s p b 2 w h
  clear h
  go_enter Tryz.func176, Tryz.ntmps176
  by_cases hm : m < t.size
  · go_wp2_with fail
    refine hg.mono ?_
    rintro e w' ⟨rfl, rfl⟩
    go_wp2_with fail
    exact ⟨rfl, rfl, .inr ⟨hm, rfl⟩⟩
  · go_wp2_with fail
    go_ret
    exact ⟨rfl, .inl ⟨by omega, rfl⟩⟩
/-- goes over blanks and notes: where what is next begins, or where a note does that doesn't end -/
def skipA (m : Option Nat) (p : Nat) : List UInt8 → Nat ⊕ Nat
  | [] => match m with
    | none => .inl p
    | some b => .inr b
  | c :: l => match m with
    | none => if blankN c.toNat then skipA none (p + 1) l else if c = 34 then skipA (some p) (p + 1) l else .inl p
    | some b => if c = 34 then skipA none (p + 1) l else skipA (some b) (p + 1) l
theorem drop_at {s : ByteArray} {p : Nat} (h : p < s.size) : (sb s).drop p = s[p] :: (sb s).drop (p + 1) := by
  rw [List.drop_eq_getElem_cons (by rw [sb_len]; exact h)]; rfl
theorem skipA_blanks (s : ByteArray) (p : Nat) (hp : p ≤ s.size) : skipA none p ((sb s).drop p) = skipA none (runE blankN s p) ((sb s).drop (runE blankN s p)) := by
  obtain ⟨n, hn⟩ : ∃ n, s.size - p = n := ⟨_, rfl⟩
  induction n generalizing p with
  | zero =>
    have e : p = s.size := by omega
    subst e
    rw [runE_end]
  | succ n ih =>
    have hlt : p < s.size := by omega
    cases hb : blankN s[p].toNat
    · rw [runE_stop hlt hb]
    · rw [runE_step hlt hb, ← ih (p + 1) hlt (by omega), drop_at hlt, skipA, if_pos hb]
theorem indexByte_ge (c : UInt8) : ∀ l : List UInt8, -1 ≤ Lib.indexByte l c
  | [] => by simp [Lib.indexByte]
  | b :: l => by
    have := indexByte_ge c l
    rw [Lib.indexByte]
    split
    · omega
    · split <;> omega
theorem indexByte_lt (c : UInt8) : ∀ l : List UInt8, Lib.indexByte l c < (l.length : Int)
  | [] => by simp [Lib.indexByte]
  | b :: l => by
    have := indexByte_lt c l
    rw [Lib.indexByte, List.length_cons]
    split
    · omega
    · split <;> omega
theorem skipA_note (b : Nat) : ∀ (l : List UInt8) (p : Nat), skipA (some b) p l = if Lib.indexByte l 34 < 0 then .inr b else skipA none (p + (Lib.indexByte l 34).toNat + 1) (l.drop ((Lib.indexByte l 34).toNat + 1))
  | [], p => by simp [skipA, Lib.indexByte]
  | c :: l, p => by
    by_cases hc : c = 34
    · subst hc
      rw [skipA, if_pos rfl]
      simp [Lib.indexByte]
    · rw [skipA, if_neg hc, skipA_note b l (p + 1)]
      have e : (c == 34) = false := by simpa using hc
      have h1 := indexByte_ge 34 l
      rw [Lib.indexByte, e]
      by_cases h2 : Lib.indexByte l 34 = -1
      · rw [h2]; rfl
      · have e2 : (Lib.indexByte l 34 == -1) = false := by simpa using h2
        obtain ⟨n, hn⟩ : ∃ n : Nat, Lib.indexByte l 34 = n := ⟨(Lib.indexByte l 34).toNat, by omega⟩
        rw [hn] at e2 ⊢
        have e3 : (if false = true then (0 : Int) else if (((n : Int) == -1) = true) then -1 else (n : Int) + 1) = ((n + 1 : Nat) : Int) := by rw [e2]; simp
        rw [e3, if_neg (by omega), if_neg (by omega)]
        rw [Int.toNat_natCast, Int.toNat_natCast, List.drop_succ_cons, show p + 1 + n + 1 = p + (n + 1) + 1 by omega]
theorem runE_not {f : Nat → Bool} {s : ByteArray} {p : Nat} (hp : p ≤ s.size) (h : runE f s p < s.size) : f (s[runE f s p]'h).toNat = false := by
  obtain ⟨n, hn⟩ : ∃ n, s.size - p = n := ⟨_, rfl⟩
  induction n generalizing p with
  | zero =>
    have e : p = s.size := by omega
    subst e
    rw [runE_end] at h
    omega
  | succ n ih =>
    have hlt : p < s.size := by omega
    cases hb : f s[p].toNat
    · have e := runE_stop hlt hb
      simp only [e]
      exact hb
    · have e := runE_step hlt hb
      have h2 : runE f s (p + 1) < s.size := by rw [← e]; exact h
      have := ih hlt h2 (by omega)
      simp only [e]
      exact this
theorem skipA_stop {s : ByteArray} {p : Nat} (hp : p ≤ s.size) (hb : ∀ h : p < s.size, blankN s[p].toNat = false) (hn : lookB s p ≠ 34) : skipA none p ((sb s).drop p) = .inl p := by
  rcases Nat.lt_or_ge p s.size with h | h
  · rw [drop_at h, skipA, if_neg (by rw [hb h]; simp), if_neg]
    intro e
    apply hn
    unfold lookB
    rw [dif_pos h, e]; rfl
  · rw [List.drop_of_length_le (by rw [sb_len]; exact h)]; rfl
theorem lookB_pos {s : ByteArray} {p c : Nat} (h : lookB s p = c) (hc : c ≠ 0) : ∃ hp : p < s.size, s[p].toNat = c := by
  unfold lookB at h
  split at h
  · next hp => exact ⟨hp, h⟩
  · omega
theorem skipA_quote {s : ByteArray} {p : Nat} (h : lookB s p = 34) : skipA none p ((sb s).drop p) = if Lib.indexByte ((sb s).drop (p + 1)) 34 < 0 then .inr p else skipA none (p + (Lib.indexByte ((sb s).drop (p + 1)) 34).toNat + 2) ((sb s).drop (p + (Lib.indexByte ((sb s).drop (p + 1)) 34).toNat + 2)) := by
  obtain ⟨hp, e⟩ := lookB_pos h (by decide)
  have e34 : s[p] = 34 := UInt8.toNat_inj.1 e
  rw [drop_at hp, skipA, if_neg (by rw [e]; decide), if_pos e34, skipA_note, List.drop_drop]
  rw [show p + 1 + (Lib.indexByte ((sb s).drop (p + 1)) 34).toNat + 1 = p + (Lib.indexByte ((sb s).drop (p + 1)) 34).toNat + 2 by omega, show p + 1 + ((Lib.indexByte ((sb s).drop (p + 1)) 34).toNat + 1) = p + (Lib.indexByte ((sb s).drop (p + 1)) 34).toNat + 2 by omega]
theorem index_any (s : ByteArray) (a : Nat) (c : UInt8) (w : World) :
    Calls Tryz.prog 139 #[.string (s.extract a s.size), .int .u8 (c.toNat : Int)] w fun e w' => e = .returned (.int .i64 (Lib.indexByte ((sb s).drop a) c)) ∧ w' = w := by
  have h := Tryz.strings_IndexByte (s.extract a s.size) (c.toNat : Int) w
  rw [show (s.extract a s.size).data.toList = (sb s).drop a from sb_tail s a, Int.toNat_natCast, show c.toNat.toUInt8 = c by simp] at h
  exact h
def SkipPost (R : Nat) (s : ByteArray) (r : Nat ⊕ Nat) (w : World) (e : Ending) (w' : World) : Prop := (∃ q, r = .inl q ∧ q ≤ s.size ∧ e = .returned (.tuple #[]) ∧ RdrAt w' R s q q ∧ Ov R w w') ∨ (∃ q, r = .inr q ∧ q ≤ s.size ∧ e = .panicked (faultC 4 q) ∧ Ov R w w')
theorem RdrAt.begin {w : World} {R p b : Nat} {s : ByteArray} (h : RdrAt w R s p b) (q : Nat) : RdrAt (w.setCell ⟨R, 2, none⟩ (.int .i64 (q : Int))) R s p q :=
  heap_setCell_same w R 2 _ _ (.int .i64 (q : Int)) h
theorem lookB_lt (s : ByteArray) (p : Nat) : lookB s p < 256 := by
  unfold lookB
  split
  · exact UInt8.toNat_lt _
  · omega
set_option maxHeartbeats 2000000 in
theorem skip_any (R : Nat) (s : ByteArray) (p b : Nat) (w : World) (h : RdrAt w R s p b) (hs : s.size ≤ 16777216) (hp : p ≤ s.size) :
    Calls Tryz.prog 173 #[.pointer (some ⟨R, 0, none⟩)] w (SkipPost R s (skipA none p ((sb s).drop p)) w) := by
  obtain ⟨r, hr⟩ : ∃ r, skipA none p ((sb s).drop p) = r := ⟨_, rfl⟩
  rw [hr]
  have HR := Lib.hid hr
  have H := Lib.hid h
  clear h hr
  go_enter Tryz.func173, Tryz.ntmps173
  go_wp2_with fail
  go_loopw [] (fun wr => ∃ q b : Nat, q ≤ s.size ∧ Hid (skipA none q ((sb s).drop q) = r) ∧ Hid (RdrAt wr R s q b) ∧ Hid (Ov R w wr)) (fun wr => s.size - atOf R wr)
  case atStart => exact ⟨p, b, hp, HR, H, Lib.hid (Ov.refl _ _)⟩
  case round =>
    obtain ⟨q, b, hq, HE, HR, HO⟩ := hrel
    have hrun := run_blankN R s q b wr HR.out hs hq
    have hqe := runE_le (f := blankN) hq
    have hE := skipA_blanks s q hq
    rw [HE.out] at hE
    have HE1 := Lib.hid hE
    have HM := Lib.hid (show atOf R wr = q from HR.out.atOf)
    have HBl : Hid (∀ h : runE blankN s q < s.size, blankN (s[runE blankN s q]'h).toNat = false) := Lib.hid fun h => runE_not hq h
    generalize runE blankN s q = q1 at *
    clear hE HR HE
    go_wp2_with fail
    refine hrun.mono ?_
    rintro e w1 ⟨rfl, h1, ho1⟩
    clear hrun
    obtain ⟨c0, c1, c2, cf⟩ := h1.cells
    have hR1 := lt_of_blk h1
    have H2 := Lib.hid (h1.begin q1)
    have HO2 := Lib.hid ((HO.out.trans ho1).trans (Ov.set w1 2 (.int .i64 (q1 : Int))))
    clear h1 ho1 HO
    go_upto_region 2 with fail
    generalize w1.setCell ⟨R, 2, none⟩ (.int .i64 (q1 : Int)) = w2 at *
    have hlk := lxLook_any R s q1 q1 0 w2 H2.out hs hqe.2 (by omega)
    have hg := fun w' h' => giveUp_any R s q1 q1 4 w' h'
    clear c0 c1 c2 cf hR1
    go_wp2_with fail
    refine hlk.mono ?_
    rintro e w3 ⟨rfl, hb3⟩
    have H3 := Lib.hid (H2.out.below hb3)
    have HO3 := Lib.hid (HO2.out.trans (Ov.of_below hb3))
    clear hlk hb3 H2 HO2
    rw [Nat.add_zero]
    by_cases h34 : lookB s q1 = 34
    · have hsq := skipA_quote h34
      rw [← HE1.out] at hsq
      obtain ⟨hlt, _⟩ := lookB_pos h34 (by decide)
      rw [h34]
      obtain ⟨c0, c1, c2, cf⟩ := H3.out.cells
      have hR3 := lt_of_blk H3.out
      have hix := fun n => index_any s (q1 + 1) 34 (w3.drewN n)
      have hge := indexByte_ge 34 ((sb s).drop (q1 + 1))
      have hlt2 := indexByte_lt 34 ((sb s).drop (q1 + 1))
      rw [List.length_drop, sb_len] at hlt2
      have HSq := Lib.hid hsq
      have HI := Lib.hid (And.intro hge hlt2)
      clear hsq hge hlt2
      generalize Lib.indexByte ((sb s).drop (q1 + 1)) 34 = ix at *
      rw [show (((34 : UInt8).toNat : Nat) : Int) = 34 from rfl, show ((q1 + 1 : Nat)) = q1 + 1 from rfl] at hix
      go_upto_region 3 with fail
      go_cut [2] (fun v wx => v = .int .i64 ix ∧ Hid (Below w3.heap.size w3 wx))
      case first =>
        go_quiet ((go_at_call 139; exact Calls.quiet_of_same (hix _)))
        go_wp2_with fail
        all_goals go_meet
        all_goals exact ⟨rfl, Lib.hid (_root_.Go.below_drewN (Below.refl _ _) _)⟩
      case rest =>
        obtain ⟨rfl, HB4⟩ := hcut
        have H4 := Lib.hid (H3.out.below HB4.out)
        have HO4 := Lib.hid (HO3.out.trans (Ov.of_below HB4.out))
        have hg4 := hg wc H4.out
        clear c0 c1 c2 cf hix hg H3 HO3 hR3
        by_cases hneg : ix < 0
        · have HF := Lib.hid (HSq.out.trans (if_pos hneg))
          go_wp2_with fail
          refine hg4.mono ?_
          rintro e w5 ⟨rfl, rfl⟩
          go_wp2_with fail
          exact ⟨rfl, .inr ⟨q1, HF.out, hqe.2, rfl, HO4.out⟩⟩
        · have HF := Lib.hid (HSq.out.trans (if_neg hneg))
          obtain ⟨n, rfl⟩ : ∃ n : Nat, ix = n := ⟨ix.toNat, by omega⟩
          rw [Int.toNat_natCast] at HF
          have hn2 : q1 + n + 2 ≤ s.size := by have := HI.out.2; omega
          obtain ⟨c0, c1, c2, cf⟩ := H4.out.cells
          have hR4 := lt_of_blk H4.out
          have H5 := Lib.hid (H4.out.step (q1 + n + 2))
          have HO5 := Lib.hid (HO4.out.trans (Ov.set wc 1 (.int .i64 ((q1 + n + 2 : Nat) : Int))))
          have e5 : (q1 : Int) + ((n : Int) + 2) = ((q1 + n + 2 : Nat) : Int) := by omega
          clear hg4 e5
          go_wp2_with fail
          rw [show (q1 : Int) + ((n : Int) + 2) = ((q1 + n + 2 : Nat) : Int) by omega]
          refine ⟨⟨q1 + n + 2, q1, hn2, Lib.hid HF.out.symm, H5, HO5⟩, ?_⟩
          rw [H5.out.atOf, HM.out]; omega
    · have hst := skipA_stop hqe.2 HBl.out h34
      have hne : ((lookB s q1 : Int) != 34) = true := by simp; omega
      have HF := Lib.hid (HE1.out.trans hst)
      clear hst
      generalize lookB s q1 = c at *
      go_wp2_with fail
      refine bodyPost_ret (results_none rfl _ _ _) rfl ?_
      exact .inl ⟨q1, HF.out, hqe.2, rfl, H3.out, HO3.out⟩
/-- a Name or a Keyword from a place on: its kind, and the place behind -/
def namedR (s : ByteArray) (p : Nat) : Nat × Nat := if lookB s (runE partN s p) = 58 ∧ lookB s (runE partN s p + 1) ≠ 61 then (2, runE partN s p + 1) else (1, runE partN s p)
theorem namedR_le {s : ByteArray} {p : Nat} (hp : p ≤ s.size) : p ≤ (namedR s p).2 ∧ (namedR s p).2 ≤ s.size := by
  have h := runE_le (f := partN) hp
  unfold namedR
  split
  · next h2 =>
    obtain ⟨h3, _⟩ := lookB_pos h2.1 (by decide)
    exact ⟨by show p ≤ _ + 1; omega, h3⟩
  · exact h
set_option maxHeartbeats 1000000 in
theorem named_any (R : Nat) (s : ByteArray) (p b : Nat) (w : World) (h : RdrAt w R s p b) (hs : s.size ≤ 16777216) (hp : p ≤ s.size) :
    Calls Tryz.prog 175 #[.pointer (some ⟨R, 0, none⟩)] w fun e w' => e = .returned (.int .i64 ((namedR s p).1 : Int)) ∧ RdrAt w' R s (namedR s p).2 b ∧ Ov R w w' := by
  have hrun := run_partN R s p b w h hs hp
  have hle := runE_le (f := partN) hp
  have HN := Lib.hid (show namedR s p = if lookB s (runE partN s p) = 58 ∧ lookB s (runE partN s p + 1) ≠ 61 then (2, runE partN s p + 1) else (1, runE partN s p) from rfl)
  generalize runE partN s p = q at *
  obtain ⟨hle1, hle2⟩ := hle
  clear h
  go_enter Tryz.func175, Tryz.ntmps175
  go_wp2_with fail
  refine hrun.mono ?_
  rintro e w1 ⟨rfl, h1, ho1⟩
  have H1 := Lib.hid h1
  have HO1 := Lib.hid ho1
  have hl0 := lxLook_any R s q b 0 w1 h1 hs hle2 (by omega)
  clear hrun h1 ho1
  rw [Nat.add_zero] at hl0
  have hl1 := fun w' h' => lxLook_any R s q b 1 w' h' hs hle2 (by omega)
  by_cases h58 : lookB s q = 58
  · rw [h58] at hl0
    go_wp2_with fail
    refine hl0.mono ?_
    rintro e w2 ⟨rfl, hb2⟩
    have H2 := Lib.hid (H1.out.below hb2)
    have HO2 := Lib.hid (HO1.out.trans (Ov.of_below hb2))
    have hl2 := hl1 w2 H2.out
    clear hl0 hl1 hb2 H1 HO1
    by_cases h61 : lookB s (q + 1) = 61
    · rw [h61] at hl2
      have HE := Lib.hid (HN.out.trans (if_neg (fun h => h.2 h61)))
      go_wp2_with fail
      refine hl2.mono ?_
      rintro e w3 ⟨rfl, hb3⟩
      have H3 := Lib.hid (H2.out.below hb3)
      have HO3 := Lib.hid (HO2.out.trans (Ov.of_below hb3))
      clear hl2 hb3 H2 HO2
      go_wp2_with fail
      go_ret
      rw [HE.out]
      exact ⟨rfl, H3.out, HO3.out⟩
    · have HE := Lib.hid (HN.out.trans (if_pos ⟨h58, h61⟩))
      have hne : ((lookB s (q + 1) : Int) == 61) = false := by simp; omega
      generalize lookB s (q + 1) = c1' at *
      go_wp2_with fail
      refine hl2.mono ?_
      rintro e w3 ⟨rfl, hb3⟩
      have H3 := Lib.hid (H2.out.below hb3)
      have HO3 := Lib.hid (HO2.out.trans (Ov.of_below hb3))
      clear hl2 hb3 H2 HO2
      obtain ⟨c0, c1, c2, cf⟩ := H3.out.cells
      have hR3 := lt_of_blk H3.out
      go_wp2_with fail
      go_ret
      rw [HE.out]
      exact ⟨rfl, H3.out.step (q + 1), HO3.out.trans (Ov.set _ _ _)⟩
  · have HE := Lib.hid (HN.out.trans (if_neg (fun h => h58 h.1)))
    have hne : ((lookB s q : Int) != 58) = true := by simp; omega
    generalize lookB s q = c1' at *
    go_wp2_with fail
    refine hl0.mono ?_
    rintro e w2 ⟨rfl, hb2⟩
    have H2 := Lib.hid (H1.out.below hb2)
    have HO2 := Lib.hid (HO1.out.trans (Ov.of_below hb2))
    clear hl0 hl1 hb2 H1 HO1
    go_wp2_with fail
    go_ret
    rw [HE.out]
    exact ⟨rfl, H2.out, HO2.out⟩
end Go.Proofs.YtmdkneollidkfaaGreatDoor.Fl
