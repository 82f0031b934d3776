/-
  Decode: an image of memory that nothing is wrong with, read back.
-/
import Derived.Test.YthppamfhkcdjdaaDoorDecode
namespace Go.Proofs.YthppamfhkcdjdaaDoor.Fl
open Go.RowKit

set_option maxRecDepth 100000 in
set_option maxHeartbeats 8000000 in
theorem decode_any (os : List Ob) (ws : List Nat) (root size c : Nat) (A : Option Addr) (w : World) (h0 : 16 ≤ size) (h1 : size ≤ 16777216) (hrt : isP ws root) (h2 : 0 < os.length) (hL : (Lof os).length ≤ 400) (hl : ∀ x ∈ Lof os, x < 18446744073709551616)
    (hok : ∀ o ∈ os, o.Ok) (hcl : ∀ o ∈ os, CleanO o) (hh : ∀ o ∈ os, o.hash = 0) (hp : ∀ p, isP ws p ↔ ∃ k, k < os.length ∧ p = 2 * pos os k)
    (hr : Rd w w.heap.size A (cb (imgB 0 root ((Lof os).drop 2)))) (hc : (imgB 0 root ((Lof os).drop 2)).length ≤ c) :
    Calls Tryd.prog 29 #[.slice A (imgB 0 root ((Lof os).drop 2)).length c, .int .i64 (size : Int)] w (DecPost os ws root size w) := by
  have hxl := imgB_len 0 root ((Lof os).drop 2)
  have hDl : ((Lof os).drop 2).length ≤ 398 := by simp; omega
  have hD64 : ∀ x ∈ (Lof os).drop 2, x < 18446744073709551616 := fun x hx => hl x (List.mem_of_mem_drop hx)
  have hok' := img_ok 0 root ((Lof os).drop 2) (by omega)
  have hmid := img_mid root ((Lof os).drop 2)
  have hiw := iwrong_any _ c A w hr hc (by omega)
  have hld : ∀ (w' : World) (A' : Option Addr) (c' : Nat), (Lof os).length ≤ size → Rd w' w'.heap.size A' (cw ((Lof os).drop 2)) → (A' = none → ((Lof os).drop 2).length = 0) →
      Calls Tryd.prog 43 #[.int .i64 (size : Int), .int .u32 0, .slice A' ((Lof os).drop 2).length c'] w' (LoadPost os size w') :=
    fun w' A' c' hf hr' hA' => load_ok c' A' w' h0 (by omega) hf hr' hA' hl hok hcl hh
  have HLd := Lib.hid hld
  have HRt := Lib.hid hrt
  have hrt64 : root < 18446744073709551616 := by obtain ⟨_, _, h, _⟩ := hrt; omega
  have HRt64 := Lib.hid hrt64
  have HP := Lib.hid hp
  have HOs := Lib.hid h2
  have HLn : Hid ((Lof os).length = 2 + ((Lof os).drop 2).length) := Lib.hid (by rw [List.length_drop, Nat.add_comm, Nat.sub_add_cancel]; have := pos_top os h2; rw [pos_zero] at this; omega)
  clear hl hok hcl hh hld hp h2 hL hrt hrt64
  generalize (Lof os).drop 2 = D at *
  obtain ⟨xs, hxs⟩ : ∃ xs, imgB 0 root D = xs := ⟨_, rfl⟩
  rw [hxs] at hr hc hxl hok' hmid hiw ⊢
  clear hxs
  obtain ⟨b, off, rfl, hb, -⟩ := rdb_at hr (by omega : 0 < xs.length)
  have HXl := Lib.hid hxl
  rw [hxl] at hiw hc ⊢
  clear hxl
  have HR := Lib.hid hr
  have HI := Lib.hid hok'
  have HD64 := Lib.hid hD64
  have HM := Lib.hid hmid
  have g1 : ¬ ((size : Int) < 16) := by omega
  have g2 : ¬ ((size : Int) > 16777216) := by omega
  have g3 : ¬ (268435456 < 36 + 8 * (D.length : Int)) := by omega
  clear hr hok' hD64 hmid hb
  go_enter Tryd.func29, Tryd.ntmps29
  go_wp2_with fail
  refine hiw.mono ?_
  rintro e w1 ⟨r, rfl, hr0, hb1⟩
  obtain rfl : r = 0 := hr0.2 HI.out
  have HB1 := Lib.hid hb1
  have hm : Rd w1 w1.heap.size (some ⟨b, off + 8, none⟩) (cb (wb (D.length :: 0 :: root :: D))) := by
    rw [← HM.out]
    exact ((rdb_take (rdb_drop HR.out 8) _).below hb1 (Nat.le_refl _)).more hb1.size
  have hun := unwords_any (wb (D.length :: 0 :: root :: D)) (c - 8) w1.heap.size _ w1 hm (Nat.le_refl _) (by rw [wb_len]; simp; omega) (by rw [wb_len]; simp; omega)
  rw [show (wb (D.length :: 0 :: root :: D)).length = 36 + 8 * D.length - 4 - 8 by rw [wb_len]; simp; omega] at hun
  have k8 : ¬ (c = 8) := by omega
  have HFit : Hid (2 < (Lof os).length) := Lib.hid (by have := pos_top os HOs.out; rw [pos_zero] at this; omega)
  have hD1 : 1 ≤ D.length := by have := HFit.out; have := HLn.out; omega
  clear hiw hr0 hb1 hm
  go_wp2_with fail
  refine hun.mono ?_
  rintro e w2 ⟨v2, r2, rfl, hb2, hu2⟩
  rw [if_pos (by rw [wb_len]; omega)] at hu2
  obtain ⟨rfl, hO2⟩ := hu2
  have hns : uw (wb (D.length :: 0 :: root :: D)) ((wb (D.length :: 0 :: root :: D)).length / 8) = D.length :: 0 :: root :: D := by
    rw [wb_len, Nat.mul_div_cancel_left _ (by decide)]
    refine uw_wb _ fun x hx => ?_
    rcases List.mem_cons.1 hx with rfl | hx
    · omega
    rcases List.mem_cons.1 hx with rfl | hx
    · omega
    rcases List.mem_cons.1 hx with rfl | hx
    · exact HRt64.out
    exact HD64.out x hx
  rw [hns] at hO2
  obtain ⟨b2, c2, rfl, hc2, hr2⟩ : ∃ b2 c2, v2 = .slice (some ⟨b2, 0, none⟩) (D.length + 3) c2 ∧ D.length + 3 ≤ c2 ∧ (b2 < w2.heap.size ∧ ∀ j v, (cw (D.length :: 0 :: root :: D))[j]? = some v → w2.cell? ⟨b2, j, none⟩ = some v) := by
    rcases hO2.2 with ⟨_, h⟩ | ⟨g', cap', cur', hv, hbg, hg, hn, _, _, _⟩
    · simp at h
    · obtain ⟨A', c', e', hr', -⟩ := ownw_rd hO2
      rw [hv] at e'
      injection e' with e1 e2 e3
      subst e1 e3
      rcases hr' with h | ⟨b', o', e1, hlt, hcl⟩
      · simp [cw] at h
      · injection e1 with e1
        injection e1 with e1 e2
        subst e1 e2
        exact ⟨g', _, hv, hn, hlt, fun j v hj => by have := hcl j v hj; rwa [Nat.zero_add] at this⟩
  have q1 : w2.cell? ⟨b2, 1, none⟩ = some (.int .u64 0) := hr2.2 1 _ rfl
  have q2 : w2.cell? ⟨b2, 2, none⟩ = some (.int .u64 (root : Int)) := hr2.2 2 _ rfl
  have HR2 : Hid (Rd w2 w2.heap.size (some ⟨b2, 3, none⟩) (cw D)) := Lib.hid (.inr ⟨b2, 3, rfl, hr2.1, fun j v hj => by
    have := hr2.2 (3 + j) v (by rw [← hj, Nat.add_comm]; rfl)
    exact this⟩)
  have HB2 := Lib.hid (HB1.out.trans (hb2.mono HB1.out.size))
  have k3 : ¬ (c2 = 3) := by omega
  clear hun hb2 hO2 hns hr2
  go_wp2_with fail
  go_region
  go_wp2_with (at_make; refine wpList_make_wcap _ rfl _ _ rfl (D.length + 3) (by omega) rfl rfl (by omega) ?_; intro w3 HO3 HB3)
  obtain ⟨wd, hwd⟩ : ∃ wd, w2.drew = wd := ⟨_, rfl⟩
  have HRd := Lib.hid ((HR2.out.below ((Below.refl w2.heap.size w2).drew) (Nat.le_refl _)).more (B' := w2.drew.heap.size) (Nat.le_refl _))
  have HBd := Lib.hid (HB2.out.drew)
  have HSz : Hid (w2.heap.size = w2.drew.heap.size) := Lib.hid rfl
  rw [hwd] at HO3 HB3 HRd HBd HSz
  clear hwd HR2 HB2 q1 q2
  go_loopw [54, 12, 14] (fun i v _ wr => ∃ (k : Nat) (ts : List Nat) (A' : Option Addr) (c' : Nat), k ≤ D.length ∧ i = .int .i64 (k : Int) ∧ v = .slice A' ts.length c' ∧ Hid (ts = D.take k) ∧ Hid (OwnH wr wd.heap.size (.slice A' ts.length c') ts) ∧ Hid (Below wd.heap.size wd wr)) (fun i _ _ _ => D.length - (intOf i).toNat)
  case atStart => exact ⟨0, [], _, _, Nat.zero_le _, rfl, rfl, Lib.hid rfl, (by rw [HSz.out]; exact HO3), HB3⟩
  case round =>
    clear HO3 HB3
    obtain ⟨k, ts, A3, c3, hk, rfl, rfl, HT, HO, HB⟩ := hrel
    by_cases hlt : k < D.length
    · have hcl : wr.cell? ⟨b2, 3 + k, none⟩ = some (.int .u64 (D[k] : Int)) := by
        obtain ⟨b', o', e, _, h⟩ := rdw_at (HRd.out.below HB.out (Nat.le_refl _)) hlt
        injection e with e
        injection e with e1 e2
        subst e1 e2
        exact h
      have hbv : Below wr.heap.size wr (wr.alloc (.cells #[.int .u64 (D[k] : Int)] 49)) := (Below.refl _ _).alloc (Nat.le_refl _) _
      have HOv : Hid (OwnH (wr.alloc (.cells #[.int .u64 (D[k] : Int)] 49)) wd.heap.size (.slice A3 ts.length c3) ts) := Lib.hid (HO.out.keep fun j cur h => hbv.block j (lt_of_block h))
      have HRv : Hid (Rd (wr.alloc (.cells #[.int .u64 (D[k] : Int)] 49)) (wr.alloc (.cells #[.int .u64 (D[k] : Int)] 49)).heap.size (some ⟨wr.heap.size, 0, none⟩) (cw [D[k]])) := Lib.hid (rd_block (heap_alloc_new wr _) (by simp))
      have HTl : Hid (ts.length ≤ 400) := Lib.hid (by rw [HT.out]; simp; omega)
      have HBs := Lib.hid (HB.out.trans (hbv.mono HB.out.size))
      clear hbv
      go_wp2_with (at_builtin; refine wpList_append_d (base := wd.heap.size) (news := [D[k]]) rfl _ _ rfl rfl rfl HOv.out HRv.out (fun h => by cases h) (by have := HTl.out; omega) (by simp) HBs.out.size ?_; intro A4 t4 c4 w4 HT4 HO4 HB4)
      go_roundw
      case rel => exact ⟨k + 1, t4, A4, c4, hlt, by simp, rfl, Lib.hid (by rw [HT4.out, HT.out, List.take_succ_eq_append_getElem hlt]), HO4, Lib.hid (HBs.out.trans HB4.out)⟩
      case measure => simp [intOf]; omega
    · obtain rfl : k = D.length := by omega
      obtain rfl : ts = D := by rw [HT.out, List.take_length]
      have hrd := ownH_rd HO.out
      have hnn : A3 = none → ts.length = 0 := fun h => by
        rcases HO.out.2 with ⟨_, h0⟩ | ⟨g', cap', cur', e, _⟩
        · exact h0
        · injection e with e
          rw [h] at e; cases e
      have HBx := Lib.hid (HBd.out.trans (HB.out.mono HBd.out.size))
      by_cases hf : (Lof os).length ≤ size
      · have hlo := HLd.out wr A3 c3 hf hrd hnn
        have HF := Lib.hid hf
        clear hrd hnn hf HO HT HB HBd
        go_wp2_with fail
        refine hlo.mono ?_
        rintro e w5 ⟨g, gc, cap, gb, gb2, ws', rfl, hobs, hb5⟩
        have HOb := Lib.hid hobs
        have HB5 := Lib.hid (HBx.out.trans (hb5.mono HBx.out.size))
        have h4 : isP ws' root := (hobs.isP root).2 ((HP.out root).1 HRt.out)
        have hha := hhas_dec root w5 hobs.heap HRt64.out
        rw [decide_eq_true h4] at hha
        have hcd := closed_any HOb.out hb5.size
        rw [closedB_congr (ws' := ws) (fun p => (HOb.out.isP p).trans (HP.out p).symm)] at hcd
        have HH := Lib.hid hha
        clear hlo hobs hb5 h4 hha
        cases hbo : closedB ws os with
        | true =>
          rw [hbo] at hcd
          have HBo := Lib.hid hbo
          clear hbo
          go_wp2_with fail
          refine HH.out.mono ?_
          rintro e w' ⟨rfl, rfl⟩
          go_wp2_with fail
          refine hcd.mono ?_
          rintro e w6 ⟨rfl, hb6⟩
          go_wp2_with fail
          go_ret3
          exact ⟨_, root, 0, rfl, HB5.out.trans (hb6.mono HB5.out.size), fun h => absurd HF.out (by omega), fun _ h => absurd (HBo.out.symm.trans h) (by decide), fun _ _ => ⟨rfl, rfl, _, g, gc, cap, gb, gb2, ws', rfl, HBx.out.size, HOb.out.below hb6⟩⟩
        | false =>
          rw [hbo] at hcd
          have HBo := Lib.hid hbo
          clear hbo
          go_wp2_with fail
          refine HH.out.mono ?_
          rintro e w' ⟨rfl, rfl⟩
          go_wp2_with fail
          refine hcd.mono ?_
          rintro e w6 ⟨rfl, hb6⟩
          go_wp2_with fail
          go_ret3
          exact ⟨_, 0, 13, rfl, HB5.out.trans (hb6.mono HB5.out.size), fun h => absurd HF.out (by omega), fun _ _ => ⟨rfl, rfl⟩, fun _ h => absurd (HBo.out.symm.trans h) (by decide)⟩
      · have hlo := load_full size c3 ts A3 wr h0 (by omega) (by have := HLn.out; omega)
        have HF := Lib.hid hf
        clear hrd hnn hf HO HT HB HBd
        go_wp2_with fail
        refine hlo.mono ?_
        rintro e w5 ⟨rfl, hb5⟩
        have HB5 := Lib.hid (HBx.out.trans (hb5.mono HBx.out.size))
        clear hlo hb5
        go_wp2_with fail
        go_ret3
        exact ⟨_, 0, 8, rfl, HB5.out, fun _ => ⟨rfl, rfl⟩, fun h => absurd h HF.out, fun h => absurd h HF.out⟩
end Go.Proofs.YthppamfhkcdjdaaDoor.Fl
