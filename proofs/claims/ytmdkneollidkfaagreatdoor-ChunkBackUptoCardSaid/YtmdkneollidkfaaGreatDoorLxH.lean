/-
  The lexer: what a # is with; marks.
-/
import Derived.Test.YtmdkneollidkfaaGreatDoorLxQ
namespace Go.Proofs.YtmdkneollidkfaaGreatDoor.Fl
open Go.RowKit

/-- what a # is with: its kind, its word, the place behind; or an error -/
def hashR (s : ByteArray) (p : Nat) : (Nat × List UInt8 × Nat) ⊕ Int :=
  if lookB s (p + 1) = 40 then .inl (15, [], p + 2)
  else if lookB s (p + 1) = 39 then
    match quoA (p + 2) ((sb s).drop (p + 2)) with
    | none => .inr 4
    | some q => if 64 < (unq (midL s (p + 2) (q - 1))).length then .inr 2 else .inl (5, unq (midL s (p + 2) (q - 1)), q)
  else if letterN (lookB s (p + 1)) = true then (if 64 < (midL s (p + 1) (joinR s (p + 1))).length then .inr 2 else .inl (5, midL s (p + 1) (joinR s (p + 1)), joinR s (p + 1)))
  else if opF s (p + 1) 2 = 0 then .inr 3 else .inl (5, midL s (p + 1) (p + 1 + opF s (p + 1) 2), p + 1 + opF s (p + 1) 2)
def KwPost (R : Nat) (s : ByteArray) (p b : Nat) (r : (Nat × List UInt8 × Nat) ⊕ Int) (w : World) (e : Ending) (w' : World) : Prop :=
  (∃ k t q tb, r = .inl (k, t, q) ∧ p < q ∧ q ≤ s.size ∧ e = .returned (.tuple #[.int .i64 (k : Nat), .string tb]) ∧ sb tb = t ∧ RdrAt w' R s q b ∧ Ov R w w') ∨ (∃ n, r = .inr n ∧ e = .panicked (faultC n b) ∧ Ov R w w')
theorem sb_size (t : ByteArray) : t.size = (sb t).length := (sb_len t).symm
theorem midL_len (s : ByteArray) {a b : Nat} (h : b ≤ s.size) : (midL s a b).length = b - a := by
  unfold midL
  rw [List.length_drop, List.length_take, sb_len, Nat.min_eq_left h]
theorem unq_len : ∀ l : List UInt8, (unq l).length ≤ l.length
  | [] => Nat.le_refl _
  | [_] => Nat.le_refl _
  | c :: d :: l => by
    rw [unq]
    have h1 := unq_len l
    have h2 := unq_len (d :: l)
    split <;> simp at * <;> omega
set_option maxRecDepth 100000 in
set_option maxHeartbeats 2000000 in
theorem hashed_any (R : Nat) (s : ByteArray) (p b : Nat) (w : World) (h : RdrAt w R s p b) (hs : s.size ≤ 16777216) (hp : p < s.size) (hR0 : 0 < R) (hm : MaxAt w) :
    Calls Tryz.prog 180 #[.pointer (some ⟨R, 0, none⟩)] w (KwPost R s p b (hashR s p) w) := by
  obtain ⟨c0, c1, c2, cf⟩ := h.cells
  have hR := lt_of_blk h
  obtain ⟨r, hr⟩ : ∃ r, hashR s p = r := ⟨_, rfl⟩
  rw [hr]
  have HR := Lib.hid hr
  have H1 := Lib.hid (h.step (p + 1))
  have HO1 := Lib.hid (Ov.set (R := R) w 1 (.int .i64 ((p + 1 : Nat) : Int)))
  have HMx := Lib.hid (fun (w' : World) (ho : Ov R w w') => show MaxAt w' from by
    obtain ⟨m, hm⟩ := hm
    have hlt := World.block_lt_of_cell? _ _ hm
    exact ⟨m, (World.cell?_of_block (a := ⟨0, 0, none⟩) (ho.block 0 hlt (by omega))).trans hm⟩)
  have hp1 : p + 1 ≤ s.size := hp
  unfold hashR at HR
  clear h hr hm
  go_enter Tryz.func180, Tryz.ntmps180
  go_upto_region 2 with fail
  rw [show (p : Int) + 1 = ((p + 1 : Nat) : Int) by omega]
  generalize w.setCell ⟨R, 1, none⟩ (.int .i64 ((p + 1 : Nat) : Int)) = w1 at *
  have hl := lxLook_any R s (p + 1) b 0 w1 H1.out hs hp1 (by omega)
  rw [Nat.add_zero] at hl
  have hc8 := lookB_lt s (p + 1)
  clear c0 c1 c2 cf hR
  by_cases h40 : lookB s (p + 1) = 40
  · have HE := Lib.hid (HR.out.symm.trans (if_pos h40))
    obtain ⟨hlt, _⟩ := lookB_pos h40 (by decide)
    rw [h40] at hl
    clear HR HMx hc8
    go_wp2_with fail
    refine hl.mono ?_
    rintro e w2 ⟨rfl, hb2⟩
    have H2 := Lib.hid (H1.out.below hb2)
    have HO2 := Lib.hid (HO1.out.trans (Ov.of_below hb2))
    clear hl hb2 H1 HO1
    obtain ⟨c0, c1, c2, cf⟩ := H2.out.cells
    have hR := lt_of_blk H2.out
    go_wp2_with fail
    go_ret2
    have h3 := H2.out.step (p + 2)
    rw [show ((p + 2 : Nat) : Int) = ((p + 1 : Nat) : Int) + 1 by omega] at h3
    exact .inl ⟨15, [], p + 2, _, HE.out, by omega, hlt, rfl, rfl, h3, HO2.out.trans (Ov.set _ _ _)⟩
  · have HR1 := Lib.hid (HR.out.symm.trans (if_neg h40))
    clear HR
    have h40' : ((lookB s (p + 1) : Int) == 40) = false := by simp; omega
    by_cases h39 : lookB s (p + 1) = 39
    · have HE := Lib.hid (HR1.out.trans (if_pos h39))
      obtain ⟨hlt, _⟩ := lookB_pos h39 (by decide)
      have hqu := fun (w' : World) (h' : RdrAt w' R s (p + 1) b) (hm' : MaxAt w') => quoted_any R s (p + 1) b w' h' hs hlt hR0 hm'
      rw [show p + 1 + 1 = p + 2 from rfl] at hqu
      generalize quoA (p + 2) ((sb s).drop (p + 2)) = qo at *
      rw [h39] at hl
      clear HR1 hc8 h40 h40'
      go_wp2_with fail
      refine hl.mono ?_
      rintro e w2 ⟨rfl, hb2⟩
      have H2 := Lib.hid (H1.out.below hb2)
      have HO2 := Lib.hid (HO1.out.trans (Ov.of_below hb2))
      have hq2 := hqu w2 H2.out (HMx.out w2 HO2.out)
      clear hl hb2 H1 HO1 hqu HMx
      go_wp2_with fail
      refine hq2.mono ?_
      rintro e w3 (⟨rfl, rfl, ho3⟩ | ⟨q, t, rfl, hq1, hqs, rfl, ht, h3, ho3⟩)
      · have HO3 := Lib.hid (HO2.out.trans ho3)
        clear hq2 ho3
        go_wp2_with fail
        exact ⟨rfl, .inr ⟨4, HE.out, rfl, HO3.out⟩⟩
      · have HO3 := Lib.hid (HO2.out.trans ho3)
        have H3 := Lib.hid h3
        have HT := Lib.hid ht
        have htl : t.size ≤ 16777216 := by
          rw [sb_size, ht]
          have h1 := unq_len (midL s (p + 2) (q - 1))
          rw [midL_len s (by omega)] at h1
          omega
        have hli := limited_any R s t q b 64 w3 h3 htl
        clear hq2 ho3 h3 ht H2 HO2
        go_wp2_with fail
        refine hli.mono ?_
        rintro e w4 ⟨rfl, (⟨hl4, rfl⟩ | ⟨hl4, rfl⟩)⟩
        · have HF := Lib.hid (HE.out.trans (if_neg (show ¬ 64 < (unq (midL s (p + 2) (q - 1))).length by rw [← HT.out, ← sb_size]; omega)))
          clear hli
          go_wp2_with fail
          go_ret2
          exact .inl ⟨5, _, q, t, HF.out, by omega, hqs, rfl, HT.out, H3.out, HO3.out⟩
        · have HF := Lib.hid (HE.out.trans (if_pos (show 64 < (unq (midL s (p + 2) (q - 1))).length by rw [← HT.out, ← sb_size]; omega)))
          clear hli
          go_wp2_with fail
          exact ⟨rfl, .inr ⟨2, HF.out, rfl, HO3.out⟩⟩
    · have HR2 := Lib.hid (HR1.out.trans (if_neg h39))
      have h39' : ((lookB s (p + 1) : Int) == 39) = false := by simp; omega
      clear HR1
      have hlt1 := fun (w' : World) => letterN_any (lookB s (p + 1)) w' hc8
      cases hle : letterN (lookB s (p + 1))
      · have HR3 := Lib.hid (HR2.out.trans (if_neg (by rw [hle]; simp)))
        rw [hle] at hlt1
        have hop := fun (w' : World) (h' : RdrAt w' R s (p + 1) b) => lxOp_any R s (p + 1) b w' h' hs hp1
        have hol := opF_le s (p + 1) hp1 2
        clear HR2 hle hc8 HMx
        generalize lookB s (p + 1) = c at *
        generalize opF s (p + 1) 2 = n at *
        go_wp2_with fail
        refine hl.mono ?_
        rintro e w2 ⟨rfl, hb2⟩
        have H2 := Lib.hid (H1.out.below hb2)
        have HO2 := Lib.hid (HO1.out.trans (Ov.of_below hb2))
        have hlt2 := hlt1 w2
        have hop2 := hop w2 H2.out
        clear hl hb2 H1 HO1 hlt1 hop
        go_wp2_with fail
        refine hlt2.mono ?_
        rintro e w' ⟨rfl, rfl⟩
        clear hlt2
        go_wp2_with fail
        refine hop2.mono ?_
        rintro e w3 ⟨t, rfl, ht, h3, ho3⟩
        have H3 := Lib.hid h3
        have HO3 := Lib.hid (HO2.out.trans ho3)
        have HT := Lib.hid ht
        clear hop2 h3 ho3 ht H2 HO2
        have hsz : t.size = n := by rw [sb_size, HT.out, midL_len s hol.1]; omega
        by_cases hn : n = 0
        · have HF := Lib.hid (HR3.out.trans (if_pos hn))
          have ht0 : t = ⟨#[]⟩ := sb_inj (List.eq_nil_of_length_eq_zero (by rw [sb_len]; omega))
          subst ht0
          have hg := giveUp_any R s (p + 1 + n) b 3 w3 H3.out
          clear hsz
          go_wp2_with fail
          refine hg.mono ?_
          rintro e w4 ⟨rfl, rfl⟩
          go_wp2_with fail
          exact ⟨rfl, .inr ⟨3, HF.out, rfl, HO3.out⟩⟩
        · have HF := Lib.hid (HR3.out.trans (if_neg hn))
          have hne : (t.toList == []) = false := by
            rw [ByteArray.toList_eq]
            have : t.data.toList ≠ [] := fun e => by have h9 := sb_len t; rw [show sb t = [] from e] at h9; simp at h9; omega
            cases hl : t.data.toList with
            | nil => exact absurd hl this
            | cons a l => rfl
          have hne2 : t.toList.isEmpty = false := by
            cases h9 : t.toList with
            | nil => rw [h9] at hne; simp at hne
            | cons a l => rfl
          clear hsz
          go_wp2_with fail
          go_ret2
          exact .inl ⟨5, _, _, t, HF.out, by omega, hol.1, rfl, HT.out, H3.out, HO3.out⟩
      · have HR3 := Lib.hid (HR2.out.trans (if_pos hle))
        rw [hle] at hlt1
        have hjo := fun (w' : World) (h' : RdrAt w' R s (p + 1) b) => joined_any R s (p + 1) b w' h' hs hp1
        have hjl := joinR_le hp1
        clear HR2 hle hc8 HMx
        generalize lookB s (p + 1) = c at *
        generalize joinR s (p + 1) = q at *
        go_wp2_with fail
        refine hl.mono ?_
        rintro e w2 ⟨rfl, hb2⟩
        have H2 := Lib.hid (H1.out.below hb2)
        have HO2 := Lib.hid (HO1.out.trans (Ov.of_below hb2))
        have hlt2 := hlt1 w2
        have hjo2 := hjo w2 H2.out
        clear hl hb2 H1 HO1 hlt1 hjo
        go_wp2_with fail
        refine hlt2.mono ?_
        rintro e w' ⟨rfl, rfl⟩
        clear hlt2
        go_wp2_with fail
        refine hjo2.mono ?_
        rintro e w3 ⟨rfl, h3, ho3⟩
        have H3 := Lib.hid h3
        have HO3 := Lib.hid (HO2.out.trans ho3)
        have htl : (s.extract (p + 1) q).size = q - (p + 1) := by simp; omega
        have hli := limited_any R s (s.extract (p + 1) q) q b 64 w3 h3 (by omega)
        have hml := midL_len s (a := p + 1) hjl.2
        clear hjo2 h3 ho3 H2 HO2
        have HT := Lib.hid (mid_eq s (p + 1) q)
        generalize s.extract (p + 1) q = t at *
        go_wp2_with fail
        refine hli.mono ?_
        rintro e w4 ⟨rfl, (⟨hl4, rfl⟩ | ⟨hl4, rfl⟩)⟩
        · have HF := Lib.hid (HR3.out.trans (if_neg (by omega)))
          clear hli htl hml
          go_wp2_with fail
          go_ret2
          exact .inl ⟨5, _, q, t, HF.out, by omega, hjl.2, rfl, HT.out, H3.out, HO3.out⟩
        · have HF := Lib.hid (HR3.out.trans (if_pos (by omega)))
          clear hli htl hml
          go_wp2_with fail
          exact ⟨rfl, .inr ⟨2, HF.out, rfl, HO3.out⟩⟩
/-- the marks of one byte -/
def marksL : List UInt8 := [94, 46, 59, 40, 41, 91, 93]
/-- an Op, or a mark -/
def markR (s : ByteArray) (p : Nat) : (Nat × List UInt8 × Nat) ⊕ Int :=
  if opF s p 2 ≠ 0 then .inl (6, midL s p (p + opF s p 2), p + opF s p 2)
  else if 0 ≤ Lib.indexByte marksL (UInt8.ofNat (lookB s p)) then .inl (8 + (Lib.indexByte marksL (UInt8.ofNat (lookB s p))).toNat, [], p + 1)
  else if lookB s p ≠ 58 then .inr 3
  else if lookB s (p + 1) ≠ 61 then .inl (16, [], p + 1)
  else .inl (7, [], p + 2)
set_option maxRecDepth 100000 in
set_option maxHeartbeats 2000000 in
theorem mark_any (R : Nat) (s : ByteArray) (p b : Nat) (w : World) (h : RdrAt w R s p b) (hs : s.size ≤ 16777216) (hp : p < s.size) :
    Calls Tryz.prog 181 #[.pointer (some ⟨R, 0, none⟩)] w (KwPost R s p b (markR s p) w) := by
  have hop := lxOp_any R s p b w h hs (Nat.le_of_lt hp)
  have hol := opF_le s p (Nat.le_of_lt hp) 2
  obtain ⟨r, hr⟩ : ∃ r, markR s p = r := ⟨_, rfl⟩
  rw [hr]
  have HR := Lib.hid hr
  unfold markR at HR
  clear h hr
  generalize opF s p 2 = n at *
  go_enter Tryz.func181, Tryz.ntmps181
  go_wp2_with fail
  refine hop.mono ?_
  rintro e w1 ⟨t, rfl, ht, h1, ho1⟩
  have H1 := Lib.hid h1
  have HO1 := Lib.hid ho1
  have HT := Lib.hid ht
  have hsz : t.size = n := by rw [sb_size, ht, midL_len s hol.1]; omega
  clear hop h1 ho1 ht
  by_cases hn : n = 0
  · have HR1 := Lib.hid (HR.out.symm.trans (if_neg (by simp [hn])))
    have ht0 : t = ⟨#[]⟩ := sb_inj (List.eq_nil_of_length_eq_zero (by rw [sb_len]; omega))
    subst ht0 hn
    have hl := lxLook_any R s p b 0 w1 H1.out hs (Nat.le_of_lt hp) (by omega)
    rw [Nat.add_zero] at hl
    have hc8 := lookB_lt s p
    clear HR hsz HT
    go_wp2_with fail
    refine hl.mono ?_
    rintro e w2 ⟨rfl, hb2⟩
    have H2 := Lib.hid (H1.out.below hb2)
    have HO2 := Lib.hid (HO1.out.trans (Ov.of_below hb2))
    clear hl hb2 H1 HO1
    obtain ⟨c0, c1, c2, cf⟩ := H2.out.cells
    have hR2 := lt_of_blk H2.out
    go_upto_region 6 with fail
    have H3 := Lib.hid (H2.out.step (p + 1))
    have HO3 := Lib.hid (HO2.out.trans (Ov.set w2 1 (.int .i64 ((p + 1 : Nat) : Int))))
    rw [show (p : Int) + 1 = ((p + 1 : Nat) : Int) by omega]
    generalize w2.setCell ⟨R, 1, none⟩ (.int .i64 ((p + 1 : Nat) : Int)) = w3 at *
    have hix := Tryz.strings_IndexByte ⟨#[94, 46, 59, 40, 41, 91, 93]⟩ ((lookB s p : Nat) : Int) w3
    rw [Int.toNat_natCast] at hix
    change Calls _ _ _ _ (fun e w' => e = .returned (.int .i64 (Lib.indexByte marksL (UInt8.ofNat (lookB s p)))) ∧ w' = w3) at hix
    have hge := indexByte_ge (UInt8.ofNat (lookB s p)) marksL
    have hil := indexByte_lt (UInt8.ofNat (lookB s p)) marksL
    rw [show ((marksL.length : Nat) : Int) = 7 from rfl] at hil
    have hl1 := fun w' h' => lxLook_any R s (p + 1) b 0 w' h' hs hp (by omega)
    rw [Nat.add_zero] at hl1
    clear c0 c1 c2 cf hR2 H2 HO2
    generalize Lib.indexByte marksL (UInt8.ofNat (lookB s p)) = ix at *
    generalize lookB s p = c at *
    by_cases h0 : 0 ≤ ix
    · have HF := Lib.hid (HR1.out.trans (if_pos h0))
      obtain ⟨i, rfl⟩ : ∃ i : Nat, ix = i := ⟨ix.toNat, by omega⟩
      rw [Int.toNat_natCast] at HF
      go_wp2_with fail
      refine hix.mono ?_
      rintro e w' ⟨rfl, rfl⟩
      clear hix hl1
      go_wp2_with fail
      go_ret2
      rw [show (8 : Int) + (i : Int) = ((8 + i : Nat) : Int) by omega]
      exact .inl ⟨8 + i, [], p + 1, _, HF.out, by omega, hp, rfl, rfl, H3.out, HO3.out⟩
    · have HR2 := Lib.hid (HR1.out.trans (if_neg h0))
      by_cases h58 : c = 58
      · have HR3 := Lib.hid (HR2.out.trans (if_neg (by simp [h58])))
        subst h58
        have hl2 := hl1 w3 H3.out
        go_wp2_with fail
        refine hix.mono ?_
        rintro e w' ⟨rfl, rfl⟩
        clear hix hl1
        by_cases h61 : lookB s (p + 1) = 61
        · have HF := Lib.hid (HR3.out.trans (if_neg (by simp [h61])))
          obtain ⟨hlt, _⟩ := lookB_pos h61 (by decide)
          rw [h61] at hl2
          go_wp2_with fail
          refine hl2.mono ?_
          rintro e w4 ⟨rfl, hb4⟩
          have H4 := Lib.hid (H3.out.below hb4)
          have HO4 := Lib.hid (HO3.out.trans (Ov.of_below hb4))
          clear hl2 hb4 H3 HO3
          obtain ⟨c0, c1, c2, cf⟩ := H4.out.cells
          have hR4 := lt_of_blk H4.out
          go_wp2_with fail
          go_ret2
          have h5 := H4.out.step (p + 2)
          rw [show ((p + 2 : Nat) : Int) = ((p + 1 : Nat) : Int) + 1 by omega] at h5
          exact .inl ⟨7, [], p + 2, _, HF.out, by omega, hlt, rfl, rfl, h5, HO4.out.trans (Ov.set _ _ _)⟩
        · have HF := Lib.hid (HR3.out.trans (if_pos h61))
          have hne : ((lookB s (p + 1) : Int) != 61) = true := by simp; omega
          generalize lookB s (p + 1) = c' at *
          go_wp2_with fail
          refine hl2.mono ?_
          rintro e w4 ⟨rfl, hb4⟩
          have H4 := Lib.hid (H3.out.below hb4)
          have HO4 := Lib.hid (HO3.out.trans (Ov.of_below hb4))
          clear hl2 hb4 H3 HO3
          go_wp2_with fail
          go_ret2
          exact .inl ⟨16, [], p + 1, _, HF.out, by omega, hp, rfl, rfl, H4.out, HO4.out⟩
      · have HF := Lib.hid (HR2.out.trans (if_pos h58))
        have hne : ((c : Int) != 58) = true := by simp; omega
        have hg := giveUp_any R s (p + 1) b 3 w3 H3.out
        go_wp2_with fail
        refine hix.mono ?_
        rintro e w' ⟨rfl, rfl⟩
        clear hix hl1
        go_wp2_with fail
        refine hg.mono ?_
        rintro e w4 ⟨rfl, rfl⟩
        go_wp2_with fail
        exact ⟨rfl, .inr ⟨3, HF.out, rfl, HO3.out⟩⟩
  · have HF := Lib.hid (HR.out.symm.trans (if_pos hn))
    have hne : (t.toList == []) = false := by
      rw [ByteArray.toList_eq]
      have : t.data.toList ≠ [] := fun e => by have h9 := sb_len t; rw [show sb t = [] from e] at h9; simp at h9; omega
      cases hl : t.data.toList with
      | nil => exact absurd hl this
      | cons a l => rfl
    have hne2 : t.toList.isEmpty = false := by
      cases h9 : t.toList with
      | nil => rw [h9] at hne; simp at hne
      | cons a l => rfl
    clear hsz HR
    go_wp2_with fail
    go_ret2
    exact .inl ⟨6, _, _, t, HF.out, by omega, hol.1, rfl, HT.out, H1.out, HO1.out⟩
end Go.Proofs.YtmdkneollidkfaaGreatDoor.Fl
