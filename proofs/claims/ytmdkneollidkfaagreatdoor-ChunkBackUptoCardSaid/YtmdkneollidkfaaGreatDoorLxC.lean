/-
  The lexer: numbers, a byte behind $, Ops, Keywords behind a #.
-/
import Derived.Test.YtmdkneollidkfaaGreatDoorLxB
import Derived.Test.YtmdkneollidkfaaGreatDoorLxN
namespace Go.Proofs.YtmdkneollidkfaaGreatDoor.Fl
open Go.RowKit

/-- what stands between two places -/
def midL (s : ByteArray) (a b : Nat) : List UInt8 := ((sb s).take b).drop a
theorem mid_eq (s : ByteArray) (a b : Nat) : sb (s.extract a b) = midL s a b := sb_extract s a b
set_option maxHeartbeats 1000000 in
theorem lxNumber_any (R : Nat) (s : ByteArray) (p b : Nat) (w : World) (h : RdrAt w R s p b) (hs : s.size ≤ 16777216) (hp : p ≤ s.size) (he : EnvL w) (hR : ∀ w', Ov R w w' → EnvL w') :
    Calls Tryz.prog 177 #[.pointer (some ⟨R, 0, none⟩)] w fun e w' => (pe (midL s p (runE digitN s p)) = 0 ∧ e = .returned (.int .i64 (pv (midL s p (runE digitN s p)))) ∧ RdrAt w' R s (runE digitN s p) b ∧ Ov R w w') ∨ (pe (midL s p (runE digitN s p)) ≠ 0 ∧ e = .panicked (faultC (pe (midL s p (runE digitN s p))) b) ∧ Ov R w w') := by
  have hrun := run_digitN R s p b w h hs hp
  have hq := (runE_le (f := digitN) hp).2
  have HPa := Lib.hid (fun (w' : World) (h' : EnvL w') => parseL_env (s.extract p (runE digitN s p)) w' (by simp; omega) h')
  rw [mid_eq] at HPa
  have HR := Lib.hid hR
  clear h he hR
  generalize pe (midL s p (runE digitN s p)) = P at *
  generalize pv (midL s p (runE digitN s p)) = V at *
  generalize runE digitN s p = q at *
  go_enter Tryz.func177, Tryz.ntmps177
  go_wp2_with fail
  refine hrun.mono ?_
  rintro e w1 ⟨rfl, h1, ho1⟩
  have hpa := HPa.out w1 (HR.out w1 ho1)
  have H1 := Lib.hid h1
  have HO1 := Lib.hid ho1
  clear hrun h1 ho1 HR
  go_wp2_with fail
  refine hpa.mono ?_
  rintro e w2 ⟨rfl, hb2⟩
  have H2 := Lib.hid (H1.out.below hb2)
  have HO2 := Lib.hid (HO1.out.trans (Ov.of_below hb2))
  have hg := giveUp_any R s q b P w2 H2.out
  clear hpa hb2 H1 HO1
  by_cases h0 : P = 0
  · subst h0
    go_wp2_with fail
    go_ret
    first
    | exact .inl ⟨rfl, rfl, H2.out, HO2.out⟩
    | exact ⟨rfl, H2.out, HO2.out⟩
  · go_wp2_with fail
    refine hg.mono ?_
    rintro e w3 ⟨rfl, rfl⟩
    go_wp2_with fail
    exact ⟨rfl, .inr ⟨h0, rfl, HO2.out⟩⟩
set_option maxHeartbeats 1000000 in
theorem lxChar_any (R : Nat) (s : ByteArray) (p b : Nat) (w : World) (h : RdrAt w R s p b) (hs : s.size ≤ 16777216) (hp : p < s.size) :
    Calls Tryz.prog 178 #[.pointer (some ⟨R, 0, none⟩)] w fun e w' => (p + 1 = s.size ∧ e = .panicked (faultC 4 b) ∧ Ov R w w') ∨ (∃ h1 : p + 1 < s.size, e = .returned (.int .i64 (s[p + 1].toNat : Int)) ∧ RdrAt w' R s (p + 2) b ∧ Ov R w w') := by
  obtain ⟨c0, c1, c2, cf⟩ := h.cells
  have hR := lt_of_blk h
  have H := Lib.hid h
  clear h
  go_enter Tryz.func178, Tryz.ntmps178
  go_wp2_with fail
  by_cases he : p + 1 = s.size
  · have e1 : (p : Int) + 1 = (s.size : Int) := by omega
    go_quiet (fail)
    have hg := giveUp_any R s p b 4 (w.drewN nq) (H.out.below (_root_.Go.below_drewN (Below.refl _ _) nq))
    go_wp2_with fail
    refine hg.mono ?_
    rintro e w3 ⟨rfl, rfl⟩
    go_wp2_with fail
    exact ⟨rfl, .inl ⟨he, rfl, Ov.of_below (_root_.Go.below_drewN (Below.refl _ _) _)⟩⟩
  · have hlt : p + 1 < s.size := by omega
    have e1 : ((p : Int) + 1 == (s.size : Int)) = false := by simp; omega
    go_quiet (fail)
    go_wp2_with fail
    have H1 := Lib.hid (((H.out.below (_root_.Go.below_drewN (Below.refl _ _) nq)).step (p + 2)))
    have HO1 := Lib.hid ((Ov.of_below (R := R) (_root_.Go.below_drewN (Below.refl w.heap.size w) nq)).trans (Ov.set _ 1 (.int .i64 ((p + 2 : Nat) : Int))))
    rw [show (p : Int) + 2 = ((p + 2 : Nat) : Int) by omega]
    generalize (w.drewN nq).setCell ⟨R, 1, none⟩ (.int .i64 ((p + 2 : Nat) : Int)) = w2 at *
    clear c0 c1 c2 cf hR
    obtain ⟨c0, c1, c2, cf⟩ := H1.out.cells
    have hR := lt_of_blk H1.out
    have e2 : ((p + 2 : Nat) : Int) - 1 = ((p + 1 : Nat) : Int) := by omega
    clear e1
    generalize hp2 : p + 2 = p2 at *
    generalize hp1 : p + 1 = p1 at *
    have hc8 : (s[p1].toNat : Int) ≤ 255 := by have := s[p1].toNat_lt; omega
    go_quiet (fail)
    go_wp2_with fail
    go_ret
    subst hp1 hp2
    exact .inr ⟨hlt, rfl, H1.out.below (_root_.Go.below_drewN (Below.refl _ _) _), HO1.out.trans (Ov.of_below (_root_.Go.below_drewN (Below.refl _ _) _))⟩
/-- what an Op is made of -/
def opsL : List UInt8 := [43, 45, 42, 47, 92, 126, 60, 62, 61, 38, 44, 64, 37, 63]
def isOpc (c : UInt8) : Bool := decide (0 ≤ Lib.indexByte opsL c)
def isOpL (l : List UInt8) : Bool := if l.all isOpc then l.length == 1 || (l.length == 2 && l[1]? != some 45) else l == [124]
theorem sb_inj {s t : ByteArray} (h : sb s = sb t) : s = t := by
  cases s; cases t
  simp only [sb] at h
  rw [Array.toList_inj.1 h]
set_option maxHeartbeats 1000000 in
theorem lxOp_is (t : ByteArray) (w : World) (ht : t.size ≤ 16777216) :
    Calls Tryz.prog 107 #[.string t] w fun e w' => e = .returned (.bool (isOpL (sb t))) ∧ w = w' := by
  have hix := fun (c : UInt8) (w : World) => Tryz.strings_IndexByte ⟨#[43, 45, 42, 47, 92, 126, 60, 62, 61, 38, 44, 64, 37, 63]⟩ (c.toNat : Int) w
  go_enter Tryz.func107, Tryz.ntmps107
  go_wp2_with fail
  go_loop [6] (fun v => ∃ k : Nat, k ≤ t.size ∧ v = .int .i64 (k : Int) ∧ Hid (((sb t).take k).all isOpc = true)) (fun v => t.size - (intOf v).toNat)
  case atStart => exact ⟨0, Nat.zero_le _, rfl, Lib.hid rfl⟩
  case round =>
    obtain ⟨k, hk, rfl, HK⟩ := hrel
    by_cases hlt : k < t.size
    · have hT : (sb t).take (k + 1) = (sb t).take k ++ [t[k]] := by
        have hl : k < (sb t).length := by rw [sb_len]; exact hlt
        rw [List.take_succ_eq_append_getElem hl]; rfl
      have HT := Lib.hid hT
      clear hT
      have hi := hix t[k] w
      rw [Int.toNat_natCast, show t[k].toNat.toUInt8 = t[k] by simp] at hi
      change Calls _ _ _ _ (fun e w' => e = .returned (.int .i64 (Lib.indexByte opsL t[k])) ∧ w' = w) at hi
      obtain ⟨ix, hx⟩ : ∃ ix, Lib.indexByte opsL t[k] = ix := ⟨_, rfl⟩
      have HX := Lib.hid hx
      rw [hx] at hi
      clear hx hix
      by_cases hneg : ix < 0
      · go_wp2_with fail
        refine hi.mono ?_
        rintro e w' ⟨rfl, rfl⟩
        have HF := Lib.hid (show isOpL (sb t) = (t.toList == [124]) by
          have hna : (sb t).all isOpc = false := by
            rw [Bool.eq_false_iff]
            intro ha
            rw [List.all_eq_true] at ha
            have h1 := ha t[k] (List.mem_of_getElem? (sb_at t k hlt))
            unfold isOpc at h1
            rw [HX.out] at h1
            have := of_decide_eq_true h1
            omega
          unfold isOpL
          rw [hna, ByteArray.toList_eq]; rfl)
        go_wp2_with fail
        go_ret
        exact ⟨by rw [HF.out]; rfl, rfl⟩
      · go_wp2_with fail
        refine hi.mono ?_
        rintro e w' ⟨rfl, rfl⟩
        go_wp2_with fail
        go_round
        case rel => exact ⟨k + 1, by omega, by go_num, Lib.hid (by rw [HT.out, List.all_append, HK.out]; simp only [List.all_cons, List.all_nil, Bool.and_true, Bool.true_and]; unfold isOpc; rw [HX.out]; exact decide_eq_true (by omega))⟩
        case measure => simp [intOf]; omega
    · have e : k = t.size := by omega
      subst e
      have HA := Lib.hid (show (sb t).all isOpc = true by have := HK.out; rwa [List.take_of_length_le (by rw [sb_len]; exact Nat.le_refl _)] at this)
      have HF := Lib.hid (show isOpL (sb t) = ((sb t).length == 1 || ((sb t).length == 2 && (sb t)[1]? != some 45)) by unfold isOpL; rw [HA.out]; rfl)
      rw [sb_len] at HF
      clear hix
      by_cases h1 : t.size = 1
      · have HE := Lib.hid (show isOpL (sb t) = true by rw [HF.out, h1]; rfl)
        have e1 : (t.size : Int) = 1 := by omega
        go_wp2_with fail
        go_ret
        exact ⟨by rw [HE.out]; rfl, rfl⟩
      · by_cases h2 : t.size = 2
        · have HE := Lib.hid (show isOpL (sb t) = ((t[1].toNat : Int) != 45) by
            have g1 : (t.size == 1) = false := by simp [h1]
            have g2 : (t.size == 2) = true := by simp [h2]
            rw [HF.out, g1, g2, sb_at t 1 (by omega)]
            have : (t[1] = 45) ↔ (t[1].toNat : Int) = 45 := by
              rw [← UInt8.toNat_inj]
              show t[1].toNat = 45 ↔ _
              omega
            by_cases hc : t[1] = 45
            · rw [hc]; rfl
            · have hc2 : ¬ (t[1].toNat : Int) = 45 := fun e => hc (this.2 e)
              have a1 : (some t[1] != some (45 : UInt8)) = true := by simpa using hc
              have a2 : ((t[1].toNat : Int) != 45) = true := by simpa using hc2
              rw [a1, a2]; rfl)
          have e1 : (t.size : Int) = 2 := by omega
          go_wp2_with fail
          go_ret
          exact ⟨by rw [HE.out]; rfl, rfl⟩
        · have HE := Lib.hid (show isOpL (sb t) = false by
            rw [HF.out]; simp [h1, h2])
          have e1 : ((t.size : Int) == 1) = false := by simp; omega
          have e2 : ((t.size : Int) == 2) = false := by simp; omega
          go_wp2_with fail
          go_ret
          exact ⟨by rw [HE.out]; rfl, rfl⟩
/-- how long an Op stands at a place, of at most so many bytes -/
def opF (s : ByteArray) (p : Nat) : Nat → Nat
  | 0 => 0
  | k + 1 => if p + (k + 1) ≤ s.size ∧ isOpL (midL s p (p + (k + 1))) = true then k + 1 else opF s p k
theorem opF_le (s : ByteArray) (p : Nat) (hp : p ≤ s.size) : ∀ k, p + opF s p k ≤ s.size ∧ opF s p k ≤ k
  | 0 => ⟨hp, Nat.le_refl _⟩
  | k + 1 => by
    have := opF_le s p hp k
    unfold opF
    split
    · next h => exact ⟨h.1, Nat.le_refl _⟩
    · omega
theorem ext_ext (s : ByteArray) (p n : Nat) (h : p + n ≤ s.size) : (s.extract p s.size).extract 0 n = s.extract p (p + n) := by
  refine sb_inj ?_
  rw [sb_extract, sb_tail, sb_extract, List.drop_zero, List.drop_take]
  rw [show p + n - p = n by omega]
theorem mid_same (s : ByteArray) (p : Nat) : midL s p p = [] := by
  unfold midL
  exact List.drop_eq_nil_of_le (List.length_take_le _ _)
set_option maxHeartbeats 2000000 in
theorem lxOp_any (R : Nat) (s : ByteArray) (p b : Nat) (w : World) (h : RdrAt w R s p b) (hs : s.size ≤ 16777216) (hp : p ≤ s.size) :
    Calls Tryz.prog 200 #[.pointer (some ⟨R, 0, none⟩)] w fun e w' => ∃ t : ByteArray, e = .returned (.string t) ∧ sb t = midL s p (p + opF s p 2) ∧ RdrAt w' R s (p + opF s p 2) b ∧ Ov R w w' := by
  have H := Lib.hid h
  clear h
  obtain ⟨n, hn⟩ : ∃ n, opF s p 2 = n := ⟨_, rfl⟩
  rw [hn]
  have HN := Lib.hid hn
  clear hn
  go_enter Tryz.func200, Tryz.ntmps200
  go_wp2_with fail
  go_loopw [3] (fun v wr => ∃ k : Nat, k ≤ 2 ∧ v = .int .i64 (k : Int) ∧ Hid (opF s p k = n) ∧ Hid (RdrAt wr R s p b) ∧ Hid (Ov R w wr)) (fun v _ => (intOf v).toNat)
  case atStart => exact ⟨2, Nat.le_refl _, rfl, HN, H, Lib.hid (Ov.refl _ _)⟩
  case round =>
    clear H HN
    obtain ⟨k, hk, rfl, HE, HR, HO⟩ := hrel
    by_cases h0 : k = 0
    · subst h0
      have HZ := Lib.hid (show n = 0 from HE.out.symm)
      go_wp2_with fail
      go_ret
      rw [HZ.out]
      exact ⟨_, rfl, (mid_same s p).symm, HR.out, HO.out⟩
    · obtain ⟨c0, c1, c2, cf⟩ := HR.out.cells
      have hR := lt_of_blk HR.out
      have hk0 : (0 : Int) < (k : Int) := by omega
      go_upto_region 4 with fail
      go_cut [4] (fun v wx => v = .string (s.extract p s.size) ∧ Hid (Below wr.heap.size wr wx))
      case first =>
        go_quiet (fail)
        go_wp2_with fail
        all_goals go_meet
        all_goals exact ⟨rfl, Lib.hid (_root_.Go.below_drewN (Below.refl _ _) _)⟩
      case rest =>
        obtain ⟨rfl, HB1⟩ := hcut
        have H1 := Lib.hid (HR.out.below HB1.out)
        have HO1 := Lib.hid (HO.out.trans (Ov.of_below HB1.out))
        clear c0 c1 c2 cf hR HR HO HB1
        have hsz : (s.extract p s.size).size = s.size - p := by simp
        by_cases hfit : p + k ≤ s.size
        · have hop := lxOp_is (s.extract p (p + k)) wc (by simp; omega)
          rw [mid_eq, ← ext_ext s p k hfit] at hop
          have HX := Lib.hid (ext_ext s p k hfit)
          generalize s.extract p s.size = t at *
          have hkt : k ≤ t.size := by omega
          have hst : opF s p k = if isOpL (midL s p (p + k)) = true then k else opF s p (k - 1) := by
            obtain ⟨j, rfl⟩ : ∃ j, k = j + 1 := ⟨k - 1, by omega⟩
            rw [opF]
            by_cases hB : isOpL (midL s p (p + (j + 1))) = true
            · rw [if_pos ⟨hfit, hB⟩, if_pos hB]
            · rw [if_neg (fun h => hB h.2), if_neg hB]; rfl
          rw [HE.out] at hst
          have HSt := Lib.hid hst
          clear hsz hst
          cases hB : isOpL (midL s p (p + k))
          · have HE2 := Lib.hid (HSt.out.trans (if_neg (by rw [hB]; simp)))
            rw [hB] at hop
            clear hB
            go_wp2_with fail
            refine hop.mono ?_
            rintro e w' ⟨rfl, rfl⟩
            go_wp2_with fail
            go_roundw
            case rel => exact ⟨k - 1, by omega, by congr 1; omega, Lib.hid HE2.out.symm, H1, HO1⟩
            case measure => simp [intOf]; omega
          · have HE2 := Lib.hid (HSt.out.trans (if_pos hB))
            rw [hB] at hop
            clear hB
            go_wp2_with fail
            refine hop.mono ?_
            rintro e w' ⟨rfl, rfl⟩
            obtain ⟨c0, c1, c2, cf⟩ := H1.out.cells
            have hR := lt_of_blk H1.out
            go_wp2_with fail
            go_ret
            rw [HE2.out]
            have h9 := H1.out.step (p + k)
            rw [show ((p + k : Nat) : Int) = (p : Int) + (k : Int) by omega] at h9
            exact ⟨_, rfl, by rw [HX.out, mid_eq], h9, HO1.out.trans (Ov.set _ _ _)⟩
        · have hnk : s.size - p < k := by omega
          generalize s.extract p s.size = t at *
          have hkt : t.size < k := by omega
          have HE2 := Lib.hid (show n = opF s p (k - 1) by
            rw [← HE.out]
            obtain ⟨j, rfl⟩ : ∃ j, k = j + 1 := ⟨k - 1, by omega⟩
            rw [opF, if_neg (fun h => hfit h.1)]; rfl)
          clear hsz
          go_wp2_with fail
          go_roundw
          case rel => exact ⟨k - 1, by omega, by congr 1; omega, Lib.hid HE2.out.symm, H1, HO1⟩
          case measure => simp [intOf]; omega
end Go.Proofs.YtmdkneollidkfaaGreatDoor.Fl
