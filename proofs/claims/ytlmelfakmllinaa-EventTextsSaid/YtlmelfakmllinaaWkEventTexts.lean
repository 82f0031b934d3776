/-
  The law EventTexts: true for every row of events.
-/
import Derived.Test.YtlmelfakmllinaaEvJ
import Derived.Test.YtlmelfakmllinaaEvT
namespace Go.Proofs.Ytlmelfakmllinaa.Fl
open Go.RowKit

theorem can_small {x : Ev} (h : smallE x) : smallE (canE x) := by
  unfold canE smallE
  have h1 := h.1
  have h2 := h.2
  split
  · exact ⟨h1, by simp⟩
  · split
    · exact ⟨by simp, h2⟩
    · exact ⟨by simp, by simp⟩
theorem can_text (l : List Ev) (h : l.all plainK = true) : textE (l.map canE) = textE l := by
  induction l with
  | nil => rfl
  | cons x l ih =>
    rw [List.all_cons, Bool.and_eq_true] at h
    have hx := can_line x
    rw [h.1] at hx
    rw [List.map_cons, textE_cons, textE_cons, ih h.2, eq_of_beq hx]
set_option maxRecDepth 100000 in
set_option maxHeartbeats 8000000 in
theorem walk_EventTexts (Aa : Option Addr) (ca : Nat) (la : List EE) (w : World) (ha : Rd w w.heap.size Aa (ee_ la)) (hab : EvBs w w.heap.size la) (hm : ∀ w', Below w.heap.size w w' → MaxE w') :
    Calls Try.prog 3 #[.slice Aa la.length ca] w fun e w' => e = .returned (.bool true) ∧ Below w.heap.size w w' := by
  have haw := awake_anyE w
  have HM := Lib.hid hm
  have HoA := Lib.hid (fun (w' : World) (h : Below w.heap.size w w') => own_anyE la Aa ca w.heap.size w' (ha.below h (Nat.le_refl _)) (hab.below h (Nat.le_refl _)) h.size)
  clear ha hab hm
  go_enter Try.func3, Try.ntmps3
  go_upto_region 4 with (first
    | (go_at_call 6; refine haw.mono ?_; rintro e w1 ⟨rfl, hb1⟩; have HB1 := Lib.hid hb1; have hoA := HoA.out w1 hb1; clear haw hb1)
    | (go_at_call 7; refine hoA.mono ?_; rintro e w2 ⟨xs, Ax, cx, rfl, hxe, hxo, hxb, hb2⟩; have HXe := Lib.hid hxe; have HXo := Lib.hid hxo; have HXb := Lib.hid hxb; have HB2 := Lib.hid (HB1.out.trans (hb2.mono HB1.out.size)); clear hoA hxe hxo hxb hb2))
  have hxs : ∀ x ∈ xs, smallE x.1 := fun x hx => ownE_small _ _ (by rw [← HXe.out]; exact List.mem_map_of_mem hx)
  have hxl : xs.length ≤ 20 := by have := ownE_len (evs la); rw [← HXe.out, List.length_map] at this; exact this
  have HX := Lib.hid (evsAt_own HXo.out HXb.out hxs)
  have HXS := Lib.hid hxs
  clear HXo HXb HoA HB1 HXe hxs
  have hta := told_anyE xs Ax cx w2.heap.size w2 HX.out (Nat.le_refl _) (by omega)
  have HTx := Lib.hid (fun (w' : World) (h : Below w2.heap.size w2 w') => text_anyE xs Ax cx w2.heap.size w' (HX.out.below h (Nat.le_refl _)) h.size (by omega))
  have HDg := Lib.hid (fun (w' : World) (h : Below w2.heap.size w2 w') => digest_any xs Ax cx w2.heap.size w' (HX.out.below h (Nat.le_refl _)) h.size (by omega))
  have HSh := Lib.hid (fun (w' : World) (h : Below w2.heap.size w2 w') => shown_anyE xs Ax cx w2.heap.size w' (HX.out.below h (Nat.le_refl _)) h.size (by omega))
  have HPs := Lib.hid (fun (w' : World) (h : Below w2.heap.size w2 w') => parse_text (evs xs) w' (evs_small HXS.out) (by rw [List.length_map]; omega) (fun w'' h2 => HM.out w'' (HB2.out.trans ((h.trans (h2.mono h.size)).mono HB2.out.size))))
  have htl := textE_len (evs_small HXS.out)
  rw [List.length_map] at htl
  obtain ⟨TX, hTX⟩ : ∃ T, textE (evs xs) = T := ⟨_, rfl⟩
  have HTX := Lib.hid hTX
  rw [hTX] at HTx HDg HPs htl
  go_upto_region 6 with (first
    | (go_at_call 8; refine hta.mono ?_; rintro e w3 ⟨A3, c3, rfl, ho3, hb3⟩; have HO3 := Lib.hid ho3; have HB3 := Lib.hid hb3; have htx := HTx.out w3 hb3; clear hta ho3 hb3)
    | (go_at_call 9; refine htx.mono ?_; rintro e w4 ⟨rfl, hb4⟩; have HB4 := Lib.hid (HB3.out.trans (hb4.mono HB3.out.size)); have HO4 := Lib.hid (HO3.out.below hb4); clear htx hb4))
  have HR4 : Hid (EvsAt w4 w4.heap.size A3 xs) := Lib.hid ⟨ownRv_rd HO4.out, ((HX.out.below HB4.out (Nat.le_refl _)).bs).more HB4.out.size, HXS.out⟩
  have hrt := rtext_any xs A3 c3 w4.heap.size w4 HR4.out (Nat.le_refl _) (by omega)
  rw [hTX] at hrt
  clear hTX
  go_wp2_with (first
    | (go_at_call 10; refine hrt.mono ?_; rintro e w5 ⟨rfl, hb5⟩; have HB5 := Lib.hid (HB4.out.trans (hb5.mono HB4.out.size)); have hs45 := hb5.size; have HR5 := Lib.hid (HR4.out.below hb5 (Nat.le_refl _)); have hdg := HDg.out w5 HB5.out; clear hrt hb5)
    | (go_at_call 11; refine hdg.mono ?_; rintro e w6 ⟨rfl, hb6⟩; have HB6 := Lib.hid (HB5.out.trans (hb6.mono HB5.out.size)); have hs46 := Nat.le_trans hs45 hb6.size; have HR6 := Lib.hid (HR5.out.below hb6 hs45); clear hdg hb6))
  obtain ⟨c7, w7, hcv, hr7, hb7⟩ := conv_bytesE w6 TX
  have HCV := Lib.hid hcv
  have hrc := rcrc_any TX c7 w7.heap.size (some ⟨w6.heap.size, 0, none⟩) w7 hr7 (by omega)
  have HB7 := Lib.hid (HB6.out.trans (hb7.mono HB6.out.size))
  have hs47 := Nat.le_trans hs46 hb7.size
  have HR7 := Lib.hid (HR6.out.below hb7 hs46)
  clear hcv hr7 hb7
  rw [HCV.out]
  simp only [Result.andThen]
  rw [Oper.upon_value]
  clear HCV
  go_wp2_with (go_at_call 12; refine hrc.mono ?_; rintro e w8 ⟨rfl, rfl⟩; clear hrc)
  have hsp := hs47
  clear HTx HDg HB3 HB4 HB5 HB6 HO3 HO4 HR4 HR5 HR6 hs45 hs46
  go_loopw [6, 7, 35] (fun s u v wr => ∃ (k : Nat) (ts : List UInt8) (A2 : Option Addr) (c2 : Nat) (p : Bool), k ≤ xs.length ∧ s = .slice A2 ts.length c2 ∧ u = .bool p ∧ v = .int .i64 (k : Int) ∧ Hid (ts = shownE (evs (xs.take k)) ∧ p = (evs (xs.take k)).all plainK) ∧ Hid (Own wr w7.heap.size (.slice A2 ts.length c2) ts) ∧ Hid (Below w7.heap.size w7 wr)) (fun _ _ v _ => xs.length - (intOf v).toNat)
  case atStart => exact ⟨0, [], none, 0, true, Nat.zero_le _, rfl, rfl, rfl, Lib.hid ⟨rfl, rfl⟩, Lib.hid (World.ownsRow_nil _ _ _ _), Lib.hid (Below.refl _ _)⟩
  case round =>
    obtain ⟨k, ts, A2, c2, p, hk, rfl, rfl, rfl, HTs, HI, HO⟩ := hrel
    have hsz := HO.out.size
    by_cases hlt : k < xs.length
    case neg =>
      have hq : ¬ ((k : Int) < (xs.length : Int)) := by omega
      have HE := Lib.hid (show ts = shownE (evs xs) ∧ p = (evs xs).all plainK by have := HTs.out; rwa [List.take_of_length_le (by omega)] at this)
      have HB9 := Lib.hid (HB7.out.trans (HO.out.mono HB7.out.size))
      have hsh := HSh.out wr HB9.out
      go_wp2_with fail
      refine hsh.mono ?_
      rintro e w11 ⟨A11, c11, rfl, ho11, hb11⟩
      have HB11 := Lib.hid (HB9.out.trans (hb11.mono HB9.out.size))
      have heq := equal_same ts c11 c2 w11.heap.size w11.heap.size A11 A2 w11 (by rw [HE.out.1]; exact (ownE_rd ho11).1) (ownE_rd (OwnE_below HI.out hb11)).1
      have hps := HPs.out w11 HB11.out
      rw [← HE.out.1]
      have HP2 := Lib.hid HE.out.2
      clear hsh ho11 hb11
      cases p with
      | false =>
        have hps2 := hps.mono fun e w' h => (show ∃ n : Nat, e = .returned (.tuple #[.slice none 0 0, .int .i64 (n : Int), .int .i64 3]) ∧ Below w11.heap.size w11 w' from h.elim (fun h => by rw [← HP2.out] at h; exact absurd h.1 (by decide)) (fun h => h.2))
        clear hps
        go_wp2_with (first
          | (go_at_call 13; refine heq.mono ?_; rintro e w12 ⟨rfl, rfl⟩; clear heq)
          | (go_at_call 15; refine hps2.mono ?_; rintro e w13 ⟨n, rfl, hb13⟩; have HB13 := Lib.hid (HB2.out.trans ((HB11.out.trans (hb13.mono HB11.out.size)).mono HB2.out.size)); clear hps2 hb13))
        go_ret
        exact ⟨rfl, HB13.out⟩
      | true =>
        have hps2 := hps.mono fun e w' h => (show ∃ es A c, e = .returned (.tuple #[.slice A es.length c, .int .i64 0, .int .i64 0]) ∧ evs es = (evs xs).map canE ∧ OwnV w' w11.heap.size (.slice A es.length c) es ∧ OwnBs w' w11.heap.size es ∧ Below w11.heap.size w11 w' from h.elim (fun h => h.2) (fun h => by rw [← HP2.out] at h; exact absurd h.1 (by decide)))
        clear hps
        go_upto_region 22 with (first
          | (go_at_call 13; refine heq.mono ?_; rintro e w12 ⟨rfl, rfl⟩; clear heq)
          | (go_at_call 15; refine hps2.mono ?_; rintro e w13 ⟨es, A13, c13, rfl, hev, hov, hob, hb13⟩; have HEv := Lib.hid hev; have HOv := Lib.hid hov; have HOb := Lib.hid hob; have HB13 := Lib.hid (HB11.out.trans (hb13.mono HB11.out.size)); clear hps2 hev hov hob hb13))
        have hel : es.length = xs.length := by have := congrArg List.length HEv.out; simpa using this
        have hes : ∀ z ∈ es, smallE z.1 := fun z hz => by
          have h1 : z.1 ∈ (evs xs).map canE := by rw [← HEv.out]; exact List.mem_map_of_mem hz
          obtain ⟨y, hy, e⟩ := List.mem_map.1 h1
          rw [← e]
          exact can_small (evs_small HXS.out y hy)
        have htx := text_anyE es A13 c13 w13.heap.size w13 (evsAt_own HOv.out HOb.out hes) (Nat.le_refl _) (by omega)
        rw [HEv.out, can_text _ HP2.out.symm, HTX.out, hel] at htx
        rw [hel]
        clear hes
        go_wp2_with (go_at_call 9; refine htx.mono ?_; rintro e w14 ⟨rfl, hb14⟩; have HB14 := Lib.hid (HB2.out.trans ((HB13.out.trans (hb14.mono HB13.out.size)).mono HB2.out.size)); clear htx hb14)
        go_ret
        exact ⟨rfl, HB14.out⟩
    have H2 := HR7.out.below (HO.out.mono hs47) (Nat.le_refl _)
    obtain ⟨g, off, rfl, hg, c0, c1, c2'⟩ := ee_at H2.rd hlt
    obtain ⟨r1, r2, r3⟩ := H2.bs _ (List.getElem_mem hlt)
    have HS := Lib.hid (H2.sm _ (List.getElem_mem hlt))
    have hq : (k : Int) < (xs.length : Int) := by omega
    have hlg : g < wr.heap.size := by omega
    have HT : Hid (xs.take (k + 1) = xs.take k ++ [xs[k]]) := Lib.hid (List.take_succ_eq_append_getElem hlt)
    have hln : ts.length ≤ 1000000 := by
      have h1 := shownE_len (evs_small (xs := xs.take k) fun x hx => H2.sm x (List.mem_of_mem_take hx))
      have h2 : (evs (xs.take k)).length ≤ 40 := by rw [List.length_map, List.length_take]; omega
      have h3 := Nat.mul_le_mul_right 200 h2
      rw [HTs.out.1]
      omega
    have hw2 := heap_alloc_new wr (.cells #[.int .i64 xs[k].1.kd, .slice xs[k].2.1 xs[k].1.bs.length xs[k].2.2, .string ⟨xs[k].1.nm.toArray⟩] 34)
    have hb2 : Below wr.heap.size wr (wr.alloc (.cells #[.int .i64 xs[k].1.kd, .slice xs[k].2.1 xs[k].1.bs.length xs[k].2.2, .string ⟨xs[k].1.nm.toArray⟩] 34)) := (Below.refl _ _).alloc (Nat.le_refl _) _
    clear H2
    generalize xs[k] = x at *
    have HI2 := Lib.hid (OwnE_below HI.out hb2)
    have HO2 := Lib.hid (HO.out.trans (hb2.mono hsz))
    have hr2 := (r1.below (hb2.mono (Nat.le_trans hs47 hsz)) (Nat.le_refl _)).more (Nat.le_trans hs47 HO2.out.size)
    go_upto_region 13 with fail
    generalize wr.alloc (.cells #[.int .i64 x.1.kd, .slice x.2.1 x.1.bs.length x.2.2, .string ⟨x.1.nm.toArray⟩] 34) = w9 at *
    obtain ⟨f0, f1, f2, _⟩ := cells3E hw2
    have hl9 := lt_of_blk hw2
    have hsb : x.1.bs.length ≤ 1000000 := by have := HS.out.1; omega
    have hos := HO2.out.size
    have HPl : Hid ((evs (xs.take (k + 1))).all plainK = (p && plainK x.1)) := Lib.hid (by rw [HT.out, evs_snoc, List.all_append, ← HTs.out.2]; simp)
    have HShw : Hid (shownE (evs (xs.take (k + 1))) = ts ++ (if x.1.kd = 1 then x.1.bs else [])) := Lib.hid (by rw [HT.out, shown_snoc, ← HTs.out.1])
    clear hb2 c0 c1 c2' r1 r2 HI
    have HW9 := Lib.hid hw2
    have HNE : Hid (some wr.heap.size ≠ (Value.slice A2 ts.length c2).ownBlock) := Lib.hid (fun e => by
      have h1 := (World.ownsRow.lt HI2.out wr.heap.size e.symm)
      rcases HI2.out.2 with ⟨hv, _⟩ | ⟨g', cap, cur, hv, _, hg', _⟩
      · rw [hv] at e; cases e
      · rw [hv] at e
        injection e with e
        subst e
        rw [HW9.out] at hg'
        injection hg' with hg'
        injection hg' with _ hg'
        revert hg'
        decide)
    by_cases h1 : x.1.kd = 1
    · cases p with
      | true =>
        go_wp2_with (at_builtin; refine wpList_append_e (base := w7.heap.size) (v := .slice A2 ts.length c2) (xs := ts) (news := x.1.bs) rfl _ _ rfl rfl rfl HI2.out hr2 (fun h => by rw [(r3 h).1]; rfl) hln hsb hos ?_; intro A4 t4 c4 w4' HT4 HO4' HB4'; have f4 := cells3E ((HB4'.out.2 wr.heap.size hl9 (HNE.out)).trans HW9.out); have hl4 := lt_of_blk ((HB4'.out.2 wr.heap.size hl9 (HNE.out)).trans HW9.out))
        go_roundw
        case rel => exact ⟨k + 1, t4, A4, c4, true, by omega, rfl, rfl, by simp, Lib.hid ⟨by rw [HShw.out, if_pos h1, HT4.out], by rw [HPl.out]; simp [plainK, h1]⟩, HO4', Lib.hid (HO2.out.trans HB4'.out.1)⟩
        case measure => simp [intOf]; omega
      | false =>
        go_wp2_with (at_builtin; refine wpList_append_e (base := w7.heap.size) (v := .slice A2 ts.length c2) (xs := ts) (news := x.1.bs) rfl _ _ rfl rfl rfl HI2.out hr2 (fun h => by rw [(r3 h).1]; rfl) hln hsb hos ?_; intro A4 t4 c4 w4' HT4 HO4' HB4'; have f4 := cells3E ((HB4'.out.2 wr.heap.size hl9 (HNE.out)).trans HW9.out); have hl4 := lt_of_blk ((HB4'.out.2 wr.heap.size hl9 (HNE.out)).trans HW9.out))
        go_roundw
        case rel => exact ⟨k + 1, t4, A4, c4, false, by omega, rfl, rfl, by simp, Lib.hid ⟨by rw [HShw.out, if_pos h1, HT4.out], by rw [HPl.out]; simp [plainK, h1]⟩, HO4', Lib.hid (HO2.out.trans HB4'.out.1)⟩
        case measure => simp [intOf]; omega
    · cases p with
      | false =>
        go_wp2_with fail
        go_roundw
        case rel => exact ⟨k + 1, ts, A2, c2, false, by omega, rfl, rfl, by simp, Lib.hid ⟨by rw [HShw.out, if_neg h1, List.append_nil], by rw [HPl.out]; simp⟩, HI2, HO2⟩
        case measure => simp [intOf]; omega
      | true =>
        by_cases h2 : 1 ≤ x.1.kd
        · by_cases h3 : x.1.kd ≤ 3
          · go_wp2_with fail
            go_roundw
            case rel => exact ⟨k + 1, ts, A2, c2, true, by omega, rfl, by simp, by simp, Lib.hid ⟨by rw [HShw.out, if_neg h1, List.append_nil], by rw [HPl.out]; simp [plainK, h2, h3]⟩, HI2, HO2⟩
            case measure => simp [intOf]; omega
          · go_wp2_with fail
            go_roundw
            case rel => exact ⟨k + 1, ts, A2, c2, false, by omega, rfl, by simp, by simp, Lib.hid ⟨by rw [HShw.out, if_neg h1, List.append_nil], by rw [HPl.out]; simp [plainK, h2, h3]⟩, HI2, HO2⟩
            case measure => simp [intOf]; omega
        · go_wp2_with fail
          go_roundw
          case rel => exact ⟨k + 1, ts, A2, c2, false, by omega, rfl, by simp, by simp, Lib.hid ⟨by rw [HShw.out, if_neg h1, List.append_nil], by rw [HPl.out]; simp [plainK, h2]⟩, HI2, HO2⟩
          case measure => simp [intOf]; omega
end Go.Proofs.Ytlmelfakmllinaa.Fl
