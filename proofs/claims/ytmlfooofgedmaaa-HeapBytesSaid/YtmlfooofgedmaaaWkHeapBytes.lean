/-
  The walk of HeapBytes.
-/
import Derived.Test.YtmlfooofgedmaaaHeapL
import Derived.Test.YtmlfooofgedmaaaMem
namespace Go.Proofs.Ytmlfooofgedmaaa.Fl
open Go.RowKit

theorem own_slice {w : World} {base : Nat} {v : Value} {xs : List UInt8} (h : Own w base v xs) (h0 : 0 < xs.length) : ∃ G c, v = .slice (some ⟨G, 0, none⟩) xs.length c ∧ base ≤ G ∧ G < w.heap.size := by
  rcases h.2 with ⟨_, h1⟩ | ⟨g, cap, cur, e, hb, hg, _⟩
  · omega
  · exact ⟨g, cap, e, hb, lt_of_block hg⟩
theorem own_keep {w w' : World} {base : Nat} {v : Value} {xs : List UInt8} (h : Own w base v xs) (hk : ∀ k, v.ownBlock = some k → w'.heap[k]? = w.heap[k]?) : Own w' base v xs := by
  refine ⟨h.1, ?_⟩
  rcases h.2 with h0 | ⟨g, cap, cur, e, hb, hg, hr⟩
  · exact .inl h0
  · exact .inr ⟨g, cap, cur, e, hb, (hk g (by rw [e]; rfl)).trans hg, hr⟩
theorem BS.gl {w : World} {base g gc cap gb gb2 : Nat} {P : List UInt8} (h : BS w base g gc cap gb gb2 P) : g < w.heap.size ∧ gc < w.heap.size ∧ gb < w.heap.size ∧ gb2 < w.heap.size := by
  obtain ⟨L, ws, h1, _⟩ := h
  exact h1.gl
theorem BS.under {w w' : World} {base g gc cap gb gb2 B : Nat} {P : List UInt8} (h : BS w base g gc cap gb gb2 P) (hb : Below B w w') (hl : g < B ∧ gc < B ∧ gb < B ∧ gb2 < B) : BS w' base g gc cap gb gb2 P := by
  obtain ⟨L, ws, h1, h2⟩ := h
  exact ⟨L, ws, h1.at_ (hb.block _ hl.1) (hb.block _ hl.2.1) (hb.block _ hl.2.2.1) (hb.block _ hl.2.2.2), h2⟩
theorem vSl {A : Option Addr} {a b c : Nat} (h : a = b) : Value.slice A a c = .slice A b c := by rw [h]
set_option maxRecDepth 100000 in
set_option maxHeartbeats 4000000 in
theorem hbytes_any (ys : List UInt8) (len cap0 : Nat) (A : Option Addr) (k0 : Int) (b0 : UInt8) (w : World) (hr : Rd w w.heap.size A (cb ys)) (hA0 : A = none → ys = [] ∧ cap0 = 0) (hmin : min len 300 = ys.length) (hlc : len ≤ cap0) :
    Calls Try.prog 8 #[.slice A len cap0, .int .i64 k0, .int .u8 (b0.toNat : Int)] w fun e w' => e = .returned (.bool true) ∧ Below w.heap.size w w' := by
  have hnew : ∀ w', Calls Try.prog 20 #[.int .i64 200] w' (NewHPost w' 200) := fun w' => new_ok 200 w' (by decide) (by decide)
  have HR := Lib.hid hr
  have HM := Lib.hid hmin
  have hy3 : ys.length ≤ 300 := by omega
  clear hr hmin
  go_enter Try.func8, Try.ntmps8
  go_wp2_with fail
  refine (awake_heap _).mono ?_
  rintro e w1 ⟨rfl, hb1⟩
  go_upto_if 27 with fail
  go_cut [0] (fun v wx => v = .slice A ys.length cap0 ∧ w1 = wx)
  case first =>
    by_cases hc : 300 < len
    · clear hnew hy3 hb1 HR
      go_wp2_with fail
      all_goals go_meet
      all_goals exact ⟨vSl (by have := HM.out; omega), rfl⟩
    · clear hnew hy3 hb1 HR
      go_wp2_with fail
      all_goals go_meet
      all_goals exact ⟨vSl (by have := HM.out; omega), rfl⟩
  case rest =>
    obtain ⟨rfl, rfl⟩ := hcut
    go_wp2_with fail
    refine (hnew w1).mono ?_
    rintro e w2 ⟨g, gc, gb, gb2, rfl, h2, hb2⟩
    have hgc0 : w1.heap.size ≤ gc := by obtain ⟨cur, _, hbc, _⟩ := h2.row; exact hbc
    have hg0 := h2.bg
    have hgb0 := h2.bb2
    have HW1 := Lib.hid (show w.heap.size ≤ w1.heap.size from hb1.size)
    have H2 := Lib.hid h2
    have s2 := Lib.hid hb2.size
    have hbw2 : Below w.heap.size w w2 := hb1.trans (hb2.mono hb1.size)
    obtain ⟨base, hbase⟩ : ∃ base, w1.heap.size = base := ⟨_, rfl⟩
    rw [hbase] at hgc0 hg0 hgb0 HW1 H2 s2
    clear h2 hb2 hb1 hnew HM hlc
    go_wp2_with fail
    refine (bs_x H2.out s2.out).mono ?_
    rintro e w3 ⟨gc3, cap3, rfl, h3, hgc3, has3⟩
    have H3 := Lib.hid h3
    have s3 := Lib.hid (Nat.le_trans s2.out has3.size)
    have hbw3 : Below w.heap.size w w3 := hbw2.trans ((has3.below s2.out hg0 hgc0 hgb0).mono HW1.out)
    have hgc3' : base ≤ gc3 := by obtain ⟨cur, _, hbc, _⟩ := h3.row; exact hbc
    clear h3 has3 hbw2 H2 hgc3
    go_wp2_with fail
    refine (bs_w hy3 H3.out s3.out).mono ?_
    rintro e w4 ⟨gc4, cap4, rfl, h4, hgc4, has4⟩
    have H4 := Lib.hid h4
    have s4 := Lib.hid (Nat.le_trans s3.out has4.size)
    have hbw4 : Below w.heap.size w w4 := hbw3.trans ((has4.below s3.out hg0 hgc3' hgb0).mono HW1.out)
    have hgc4' : base ≤ gc4 := by obtain ⟨cur, _, hbc, _⟩ := h4.row; exact hbc
    clear h4 has4 hbw3 H3 hgc4 hgc3'
    go_wp2_with fail
    refine (bs_y hy3 H4.out s4.out).mono ?_
    rintro e w5 ⟨gc5, cap5, rfl, h5, hgc5, has5⟩
    have H5 := Lib.hid h5
    have s5 := Lib.hid (Nat.le_trans s4.out has5.size)
    have hbw5 : Below w.heap.size w w5 := hbw4.trans ((has5.below s4.out hg0 hgc4' hgb0).mono HW1.out)
    have hgc5' : base ≤ gc5 := by obtain ⟨L, ws, hh, _⟩ := h5; obtain ⟨cur, _, hbc, _⟩ := hh.row; exact hbc
    clear h5 has5 hbw4 H4 hgc5 hgc4' hgc0
    obtain ⟨Y, hY⟩ : ∃ Y, ((7 + (ys.length + 7) / 8 : Nat) : Int) * 2 = Y := ⟨_, rfl⟩
    rw [hY]
    have HY := Lib.hid hY
    clear hY
    go_wp2_with fail
    go_loopw [63] (fun iv wr => ∃ (k : Nat) (P : List UInt8), k ≤ ys.length ∧ iv = .int .i64 k ∧ P.length = ys.length ∧ Hid (BS wr base g gc5 cap5 gb gb2 P) ∧ Hid (∀ j, j < k → P[j]? = ys[j]?) ∧ Hid (base ≤ wr.heap.size) ∧ Below w.heap.size w wr) (fun iv _ => ys.length - (intOf iv).toNat)
    case atStart => exact ⟨0, List.replicate ys.length 0, Nat.zero_le _, rfl, by simp, H5, Lib.hid (fun j hj => by omega), s5, hbw5⟩
    case round =>
      obtain ⟨k, P, hk, rfl, hP, HB, HQ, HS, hbl⟩ := hrel
      clear H5 s5 hbw5
      by_cases hlt : k < ys.length
      · obtain ⟨b, off, rfl, _, hcell⟩ := rdb_at (HR.out.below hbl (Nat.le_refl _)) hlt
        have hput := Lib.hid (bs_put k ys[k] HB.out (by omega))
        have R2 := Lib.hid (fill_byte HQ.out hlt hP)
        have R3 := Lib.hid (show (P.set k ys[k]).length = ys.length by rw [List.length_set]; exact hP)
        generalize ys[k] = y at hcell hput R2 R3
        generalize P.set k y = P2 at hput R2 R3
        clear HQ hP
        go_wp2_with fail
        refine hput.out.mono ?_
        rintro e w6 ⟨rfl, h6, has6⟩
        have H6 := Lib.hid h6
        have s6 := Lib.hid (Nat.le_trans HS.out has6.size)
        have hb6 : Below w.heap.size w w6 := hbl.trans ((has6.below HS.out hg0 hgc5' hgb0).mono HW1.out)
        clear h6 has6 hput HB HS hbl
        go_wp2_with fail
        go_roundw
        case rel => exact ⟨k + 1, P2, by omega, by simp, R3.out, H6, R2, s6, hb6⟩
        case measure => simp [intOf]; omega
      · have e : k = ys.length := by omega
        subst e
        obtain rfl : P = ys := List.ext_getElem? fun j => by
          rcases Nat.lt_or_ge j ys.length with h | h
          · exact HQ.out j h
          · rw [List.getElem?_eq_none (by omega), List.getElem?_eq_none (by omega)]
        clear HQ hk hP hlt
        have hcopy := Lib.hid (copy_any P cap0 w.heap.size A wr (HR.out.below hbl (Nat.le_refl _)) hbl.size (by omega) hA0)
        go_wp2_with fail
        refine hcopy.out.mono ?_
        rintro e w6 ⟨v, rfl, hO, hb6⟩
        have HO := Lib.hid hO
        have H6 := Lib.hid (HB.out.below hb6)
        have hl6 := Lib.hid HB.out.gl
        have s6 := Lib.hid (Nat.le_trans HS.out hb6.size)
        have Hb6 := Lib.hid hb6.size
        have hbw6 : Below w.heap.size w w6 := hbl.trans (hb6.mono hbl.size)
        have hsw := Lib.hid hbl.size
        clear hO hb6 hcopy HB HS hbl
        generalize wr.heap.size = R at *
        by_cases hin : 0 ≤ k0 ∧ k0 < (P.length : Int)
        · obtain ⟨hk0, hk1⟩ := hin
          obtain ⟨K, rfl⟩ := Int.eq_ofNat_of_zero_le hk0
          have hKl : K < P.length := by omega
          obtain ⟨G, cG, rfl, hG1, hG2⟩ := own_slice HO.out (by omega)
          have hput := Lib.hid (bs_put K b0 H6.out hKl)
          go_wp2_with fail
          refine hput.out.mono ?_
          rintro e w7 ⟨rfl, h7, has7⟩
          have hl := hl6.out
          have hO7 := own_keep (w' := w7) HO.out (fun k hk => by
            simp [Value.ownBlock] at hk
            subst hk
            exact has7.block _ hG2 (by omega) (by omega) (by omega))
          have hc7 := own_cell hO7 rfl hKl
          have hf7 := own_free hO7 rfl K
          obtain ⟨w8, hw8⟩ : ∃ w8, w7.setCell ⟨G, K, none⟩ (.int .u8 (b0.toNat : Int)) = w8 := ⟨_, rfl⟩
          have hO8 := own_set hO7 rfl K b0 rfl
          have hu8 : Below R w7 (w7.setCell ⟨G, K, none⟩ (.int .u8 (b0.toNat : Int))) := (Below.refl _ _).setCell hG1 _
          rw [hw8] at hO8 hu8
          have H8 := Lib.hid (h7.under hu8 ⟨hl.1, hl.2.1, hl.2.2.1, hl.2.2.2⟩)
          have hb8 : Below w.heap.size w w8 := (hbw6.trans ((has7.below s6.out hg0 hgc5' hgb0).mono HW1.out)).trans (hu8.mono hsw.out)
          have HPl := Lib.hid (show (P.set K b0).length = P.length by simp)
          obtain ⟨c7, hc7'⟩ : ∃ u, w7.cell? ⟨G, K, none⟩ = some u := ⟨_, hc7⟩
          generalize P.set K b0 = PP at hO8 H8 HPl
          obtain ⟨AV, cV, hv, hRV, hzv⟩ := own_rd (xs := PP) (v := .slice (some ⟨G, 0, none⟩) P.length cG) (by
            have := hO8
            exact this)
          have HRV := Lib.hid hRV
          have hAV : AV = some ⟨G, 0, none⟩ ∧ cV = cG := by
            injection hv with e1 e2 e3
            exact ⟨e1.symm, e3.symm⟩
          obtain ⟨rfl, rfl⟩ := hAV
          clear hv hzv hRV hc7 hO7 hO8 hu8 h7 has7 hput H6 HO hl
          go_wp2_with fail
          clear hw8
          refine (bs_bytes H8.out (by have := HPl.out; omega)).mono ?_
          rintro e w9 ⟨v9, rfl, hO9, hb9⟩
          obtain ⟨A9, c9, hv9, hR9, hz9⟩ := own_rd hO9
          clear hz9 hO9
          rw [HPl.out] at hv9
          subst hv9
          have H9 := Lib.hid (H8.out.below hb9)
          have hs9 := hb9.size
          go_wp2_with fail
          refine (bs_getx H9.out).mono ?_
          rintro e w10 ⟨rfl, hb10⟩
          have H10 := Lib.hid (H9.out.below hb10)
          have hgy := bs_gety H10.out
          rw [HPl.out, HY.out] at hgy
          have HGY := Lib.hid hgy
          clear hgy
          have hs10 := hb10.size
          go_wp2_with fail
          refine HGY.out.mono ?_
          rintro e w11 ⟨rfl, hb11⟩
          have heq := equal_same PP c9 cV w9.heap.size w8.heap.size A9 (some ⟨G, 0, none⟩) w11 ((hR9.below hb10 (Nat.le_refl _)).below hb11 hs10) (((HRV.out.below hb9 (Nat.le_refl _)).below hb10 hs9).below hb11 (by omega))
          rw [HPl.out] at heq
          have HEQ := Lib.hid heq
          have hfin : Below w.heap.size w w11 := hb8.trans ((hb9.mono (by have := hb8.size; omega)).trans ((hb10.mono (by have := hb8.size; omega)).trans (hb11.mono (by have := hb8.size; omega))))
          clear heq hR9 hb9 hb10 hb11
          go_wp2_with (go_at_call 29; (with_reducible refine HEQ.out.mono ?_); rintro e w' ⟨rfl, rfl⟩)
          go_ret
          exact ⟨rfl, hfin⟩
        · have hout : k0 < 0 ∨ (P.length : Int) ≤ k0 := by omega
          have hput := Lib.hid (bs_none k0 (b0.toNat : Int) H6.out hout)
          obtain ⟨AV, cV, hv, hRV, hzv⟩ := own_rd HO.out
          subst hv
          clear hzv
          have hin2 : ¬ (0 ≤ k0 ∧ k0 < (P.length : Int)) := by omega
          clear hin hin2
          rcases hout with hout | hout
          · go_wp2_with fail
            refine hput.out.mono ?_
            rintro e w8 ⟨rfl, hb7⟩
            have H8 := Lib.hid (H6.out.below hb7)
            have HRV := Lib.hid (hRV.below hb7 (Nat.le_refl _) |>.more hb7.size)
            have hb8 : Below w.heap.size w w8 := hbw6.trans (hb7.mono hbw6.size)
            clear hput H6 HO hRV hb7
            go_wp2_with fail
            refine (bs_bytes H8.out (by omega)).mono ?_
            rintro e w9 ⟨v9, rfl, hO9, hb9⟩
            obtain ⟨A9, c9, hv9, hR9, hz9⟩ := own_rd hO9
            clear hz9 hO9
            subst hv9
            have H9 := Lib.hid (H8.out.below hb9)
            have hs9 := hb9.size
            go_wp2_with fail
            refine (bs_getx H9.out).mono ?_
            rintro e w10 ⟨rfl, hb10⟩
            have H10 := Lib.hid (H9.out.below hb10)
            have hgy := bs_gety H10.out
            rw [HY.out] at hgy
            have HGY := Lib.hid hgy
            clear hgy
            have hs10 := hb10.size
            go_wp2_with fail
            refine HGY.out.mono ?_
            rintro e w11 ⟨rfl, hb11⟩
            have heq := equal_same P c9 cV w9.heap.size w8.heap.size A9 AV w11 ((hR9.below hb10 (Nat.le_refl _)).below hb11 hs10) (((HRV.out.below hb9 (Nat.le_refl _)).below hb10 hs9).below hb11 (by omega))
            have HEQ := Lib.hid heq
            have hfin : Below w.heap.size w w11 := hb8.trans ((hb9.mono (by have := hb8.size; omega)).trans ((hb10.mono (by have := hb8.size; omega)).trans (hb11.mono (by have := hb8.size; omega))))
            clear heq hR9 hb9 hb10 hb11
            go_wp2_with (go_at_call 29; (with_reducible refine HEQ.out.mono ?_); rintro e w' ⟨rfl, rfl⟩)
            go_ret
            exact ⟨rfl, hfin⟩
          · have hk0 : 0 ≤ k0 := by omega
            go_wp2_with fail
            refine hput.out.mono ?_
            rintro e w8 ⟨rfl, hb7⟩
            have H8 := Lib.hid (H6.out.below hb7)
            have HRV := Lib.hid (hRV.below hb7 (Nat.le_refl _) |>.more hb7.size)
            have hb8 : Below w.heap.size w w8 := hbw6.trans (hb7.mono hbw6.size)
            clear hput H6 HO hRV hb7
            go_wp2_with fail
            refine (bs_bytes H8.out (by omega)).mono ?_
            rintro e w9 ⟨v9, rfl, hO9, hb9⟩
            obtain ⟨A9, c9, hv9, hR9, hz9⟩ := own_rd hO9
            clear hz9 hO9
            subst hv9
            have H9 := Lib.hid (H8.out.below hb9)
            have hs9 := hb9.size
            go_wp2_with fail
            refine (bs_getx H9.out).mono ?_
            rintro e w10 ⟨rfl, hb10⟩
            have H10 := Lib.hid (H9.out.below hb10)
            have hgy := bs_gety H10.out
            rw [HY.out] at hgy
            have HGY := Lib.hid hgy
            clear hgy
            have hs10 := hb10.size
            go_wp2_with fail
            refine HGY.out.mono ?_
            rintro e w11 ⟨rfl, hb11⟩
            have heq := equal_same P c9 cV w9.heap.size w8.heap.size A9 AV w11 ((hR9.below hb10 (Nat.le_refl _)).below hb11 hs10) (((HRV.out.below hb9 (Nat.le_refl _)).below hb10 hs9).below hb11 (by omega))
            have HEQ := Lib.hid heq
            have hfin : Below w.heap.size w w11 := hb8.trans ((hb9.mono (by have := hb8.size; omega)).trans ((hb10.mono (by have := hb8.size; omega)).trans (hb11.mono (by have := hb8.size; omega))))
            clear heq hR9 hb9 hb10 hb11
            go_wp2_with (go_at_call 29; (with_reducible refine HEQ.out.mono ?_); rintro e w' ⟨rfl, rfl⟩)
            go_ret
            exact ⟨rfl, hfin⟩
theorem walk_HeapBytes (A : Option Addr) (len cap : Nat) (zs : List Int) (k b : Int) (W : World) (h : IsRow .u8 W A len cap zs) (_wk : (Lit.int .i64 k).wf = true) (wb : (Lit.int .u8 b).wf = true) :
    Calls Try.prog 8 #[.slice A len cap, .int .i64 k, .int .u8 b] W fun e w' => e = .returned (.bool true) ∧ Below W.heap.size W w' := by
  obtain ⟨xs, hx, hc, _, hr, hn, _⟩ := bytes_of_row h
  have hb := bounds_u8 wb
  obtain ⟨c, rfl⟩ : ∃ c : UInt8, b = (c.toNat : Int) := ⟨UInt8.ofNat b.toNat, by rw [UInt8.toNat_ofNat']; omega⟩
  exact hbytes_any (xs.take 300) len cap A k c W (by rw [← cb_take]; exact hr.take_ 300) (fun h0 => by
    obtain ⟨h1, h2⟩ := hn h0
    exact ⟨by rw [List.eq_nil_of_length_eq_zero (hx.trans h1)]; simp, h2⟩) (by rw [List.length_take, hx, Nat.min_comm]) hc
end Go.Proofs.Ytmlfooofgedmaaa.Fl
