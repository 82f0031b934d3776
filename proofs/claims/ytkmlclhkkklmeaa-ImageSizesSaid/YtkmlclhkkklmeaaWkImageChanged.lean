/-
  The walk of ImageChanged.
-/
import Derived.Test.YtkmlclhkkklmeaaClosed
import Derived.Test.YtkmlclhkkklmeaaEnc
import Derived.Test.YtkmlclhkkklmeaaLay
import Derived.Test.YtkmlclhkkklmeaaArgs
namespace Go.Proofs.Ytkmlclhkkklmeaa.Fl
open Go.RowKit

/-! ### the fixed fact -/
def aw7a : List Ob := [newOb 4 1 1 1 1]
def aw7 : List Ob := aw7a ++ [newOb 4 1 1 1 4]
theorem obs_new {w : World} {base g gc gb gb2 n : Nat} (h : HeapAt w base g gc 2 gb gb2 n 0 [0, 0] (List.replicate ((n + 63) / 64) 0)) : ObsAt w base g gc 2 gb gb2 n 0 [] (List.replicate ((n + 63) / 64) 0) :=
  ⟨h, fun i => by rw [bitAt_zero]; simp, fun o ho => by cases ho⟩
theorem aw7_len : (Lof aw7).length = 8 := by decide
theorem aw7_closed {w : World} {base g gc cap gb gb2 : Nat} {ws : List Nat} (h : ObsAt w base g gc cap gb gb2 40 0 aw7 ws) : closedB ws aw7 = true := by
  have h4 : isP ws 4 := (h.isP 4).2 ⟨0, by decide, by decide⟩
  unfold closedB
  rw [List.all_eq_true]
  intro o ho
  have : o = newOb 4 1 1 1 1 ∨ o = newOb 4 1 1 1 4 := by
    unfold aw7 aw7a at ho
    simp at ho; exact ho
  have g1 : goodW ws 1 = true := by unfold goodW; simp
  have g4 : goodW ws 4 = true := by unfold goodW; simp [h4]
  rcases this with rfl | rfl
  · unfold closedO
    show (decide (isP ws 4) && (false || [1].all (goodW ws))) = true
    simp [h4, g1]
  · unfold closedO
    show (decide (isP ws 4) && (false || [4].all (goodW ws))) = true
    simp [h4, g4]
set_option maxRecDepth 100000 in
set_option maxHeartbeats 4000000 in
theorem awake7_any (w : World) :
    Calls Try.prog 6 #[] w fun e w' => e = .returned (.bool true) ∧ Below w.heap.size w w' := by
  have hnew : Calls Try.prog 17 #[.int .i64 40] w (NewHPost w 40) := new_ok 40 w (by decide) (by decide)
  go_enter Try.func6, Try.ntmps6
  go_wp2_with fail
  refine hnew.mono ?_
  rintro e w1 ⟨g, gc, gb, gb2, rfl, h1, hb1⟩
  have H1 := Lib.hid (obs_new h1)
  have HB1 := Lib.hid hb1
  clear h1 hb1 hnew
  have ha := obs_alloc 4 1 1 1 1 w1 H1.out (by decide) (by decide) (by decide) (by decide) (by decide) (by decide) HB1.out.size
  go_wp2_with fail
  refine ha.mono ?_
  rintro e w2 ⟨gc2, cap2, ws2, rfl, h2, -, has2⟩
  obtain ⟨cur, _, hbc, _⟩ := H1.out.heap.row
  have HB2 := Lib.hid (HB1.out.trans (has2.below HB1.out.size H1.out.heap.bg hbc H1.out.heap.bb2))
  have H2 := Lib.hid h2
  clear ha h2 has2 hbc H1 HB1
  have ha := obs_alloc 4 1 1 1 4 w2 H2.out (by decide) (by decide) (by decide) (by decide) (by decide) (by decide) HB2.out.size
  rw [show ((Lof []).length : Int) * 2 = 4 from rfl]
  go_wp2_with fail
  refine ha.mono ?_
  rintro e w3 ⟨gc3, cap3, ws3, rfl, h3, -, has3⟩
  obtain ⟨cur, _, hbc, _⟩ := H2.out.heap.row
  have HB3 := Lib.hid (HB2.out.trans (has3.below HB2.out.size H2.out.heap.bg hbc H2.out.heap.bb2))
  have H3 : Hid (ObsAt w3 w.heap.size g gc3 cap3 gb gb2 40 0 aw7 ws3) := Lib.hid h3
  clear ha h3 has3 hbc H2 HB2
  have h4 : isP ws3 4 := (H3.out.isP 4).2 ⟨0, by decide, by decide⟩
  have hen := encode_any (root := 4) w3 H3.out.heap h4 (by decide) (by decide) (by decide)
  clear h4
  go_wp2_with fail
  refine hen.mono ?_
  rintro e w4 ⟨A, c, rfl, ho, hb4⟩
  have hl84 : (imgB 0 4 ((Lof aw7).drop 2)).length = 84 := by rw [imgB_len]; decide
  have htk : (imgB 0 4 ((Lof aw7).drop 2)).take 4 = [70, 78, 68, 76] := by
    have h8 := imgB_op 0 4 ((Lof aw7).drop 2)
    have := congrArg (List.take 4) h8
    rw [List.take_take] at this
    exact this
  have hc84 : 84 ≤ c := by
    rcases ho.2 with ⟨_, h⟩ | ⟨g', cap', cur', h1, _, _, h2, _⟩
    · rw [hl84] at h; cases h
    · injection h1 with _ _ h1
      subst h1
      omega
  obtain ⟨A', c', e', hr, -⟩ := own_rd ho
  injection e' with e1 e2 e3
  subst e1
  have hcv := conv_str c (rdb_take hr 4)
  rw [htk, str_of, show ([70, 78, 68, 76] : List UInt8).length = 4 from rfl, show ([70, 78, 68, 76] : List UInt8).toArray = #[70, 78, 68, 76] from rfl] at hcv
  rw [hl84] at *
  have H4 := Lib.hid (H3.out.below hb4)
  have HB4 := Lib.hid (HB3.out.trans (hb4.mono HB3.out.size))
  have hcl := closed_any H4.out HB4.out.size
  rw [aw7_closed H4.out] at hcl
  clear ho hr hb4 hen htk e2 e3 hl84 HB3 H3
  go_wp2_with fail
  refine hcl.mono ?_
  rintro e w5 ⟨rfl, hb5⟩
  have HB5 := Lib.hid (HB4.out.trans (hb5.mono HB4.out.size))
  clear hb5
  go_wp2_with fail
  go_ret
  exact ⟨rfl, HB5.out⟩
/-! ### bytes with something wrong -/
def NoDecode (w : World) (e : Ending) (w' : World) : Prop := ∃ r : Nat, r ≠ 0 ∧ e = .returned (.tuple #[.pointer none, .int .u64 0, .int .i64 (r : Int)]) ∧ Below w.heap.size w w'
theorem decode_bad (xs : List UInt8) (c : Nat) (A : Option Addr) (w : World) (hr : Rd w w.heap.size A (cb xs)) (hc : xs.length ≤ c) (hl : xs.length ≤ 4096) (hbad : ¬ ImgOk xs) :
    Calls Try.prog 10 #[.slice A xs.length c, .int .i64 400] w (NoDecode w) := by
  have hw := iwrong_any xs c A w hr hc hl
  have HBd := Lib.hid hbad
  clear hr hbad
  go_enter Try.func10, Try.ntmps10
  go_wp2_with fail
  refine hw.mono ?_
  rintro e w1 ⟨r, rfl, h0, hb⟩
  have hr0 : r ≠ 0 := fun h => HBd.out (h0.1 h)
  have hne : ((r : Int) != 0) = true := by simp [hr0]
  have HF : Hid (NoDecode w (.returned (.tuple #[.pointer none, .int .u64 0, .int .i64 (r : Int)])) w1) := Lib.hid ⟨r, hr0, rfl, hb⟩
  clear hw h0 hb hr0
  go_wp2_with fail
  exact bodyPost_ret (v := .tuple #[.pointer none, .int .u64 0, .int .i64 (r : Int)]) (by simp [results, Try.results10, go_sem]) rfl HF.out
theorem rem_of (z : Int) (n : Nat) (h0 : 0 < n) (hn : n ≤ 100000) : ∃ K : Nat, (wrap64 (z.tmod (n : Int) + (n : Int))).tmod (n : Int) = (K : Int) ∧ K < n := by
  have h : -(n : Int) < z.tmod n ∧ z.tmod n < n := by
    rcases Int.le_total 0 z with h | h
    · rw [Int.tmod_eq_emod_of_nonneg h]
      have := Int.emod_lt_of_pos z (b := (n : Int)) (by omega)
      have := Int.emod_nonneg z (b := (n : Int)) (by omega)
      omega
    · obtain ⟨y, rfl⟩ : ∃ y, z = -y := ⟨-z, by omega⟩
      rw [Int.neg_tmod, Int.tmod_eq_emod_of_nonneg (by omega)]
      have := Int.emod_lt_of_pos y (b := (n : Int)) (by omega)
      have := Int.emod_nonneg y (b := (n : Int)) (by omega)
      omega
  have hw : wrap64 (z.tmod n + n) = z.tmod n + n := by unfold wrap64; omega
  rw [hw, Int.tmod_eq_emod_of_nonneg (by omega)]
  have := Int.emod_lt_of_pos (z.tmod n + n) (b := (n : Int)) (by omega)
  have := Int.emod_nonneg (z.tmod n + n) (b := (n : Int)) (by omega)
  exact ⟨((z.tmod n + n) % n).toNat, by omega, by omega⟩
theorem img_changed' {last root : Nat} {D : List Nat} {xs : List UInt8} (h : imgB last root D = xs) (hL : D.length < 2305843009213693952) {i : Nat} {c : UInt8} (hi : i < xs.length) (hc : xs[i] ≠ c) : ¬ ImgOk (xs.set i c) := by
  subst h
  exact img_changed last root D hL hi hc
set_option maxRecDepth 100000 in
set_option maxHeartbeats 4000000 in
theorem changed_any (AK AL : Option Addr) (zs : List Int) (ls : List Nat) (ck cL : Nat) (z : Int) (C : UInt8) (w : World) (hk : Rd w w.heap.size AK (zs.map (Value.int .i64))) (hl : Rd w w.heap.size AL (cw ls)) (hkl : zs.length ≤ ck) (hck : ck ≤ 9223372036854775807) (hll : ls.length ≤ 9223372036854775807)
    (hkw : ∀ z ∈ zs, (Lit.int .i64 z).wf = true) (hlw : ∀ x ∈ ls, x < 18446744073709551616) :
    Calls Try.prog 3 #[.agg #[.slice AK zs.length ck, .slice AL ls.length cL], .int .i64 z, .int .u8 (C.toNat : Int)] w fun e w' => e = .returned (.bool true) ∧ Below w.heap.size w w' := by
  have HK := Lib.hid hk
  have HL := Lib.hid hl
  have HC := Lib.hid (And.intro hkl (And.intro hck hll))
  have HKW := Lib.hid hkw
  have HLW := Lib.hid hlw
  clear hk hl hkl hck hll hkw hlw
  go_enter Try.func3, Try.ntmps3
  go_wp2_with fail
  refine (awake7_any _).mono ?_
  rintro e w1 ⟨rfl, hb1⟩
  have hb0 : Below w.heap.size w w1 := ((Below.refl _ _).alloc (Nat.le_refl _) _).trans (hb1.mono (by simp))
  have hG : w1.heap[w.heap.size]? = some (.cells #[.slice AK zs.length ck, .slice AL ls.length cL] 25 (0, 0)) := (hb1.block _ (by simp)).trans (heap_alloc_new w _)
  have hl1 := lay_any AK AL zs ls ck cL w1 (HK.out.below hb0 (Nat.le_refl _) |>.more hb0.size) (HL.out.below hb0 (Nat.le_refl _) |>.more hb0.size) HC.out.1 HC.out.2.1 HC.out.2.2 HKW.out HLW.out
  have HB1 := Lib.hid hb0
  have f1 := cells2 hG
  clear hb1 hb0 hG
  go_wp2_with fail
  refine hl1.mono ?_
  rintro e w2 ⟨lo, base, g, gc, cap, gb, gb2, c, A, ws, os, j, rfl, hL, hok, hj⟩
  have HB2 := Lib.hid (HB1.out.trans (hL.below.mono HB1.out.size))
  have HLd := Lib.hid hL
  have HS1 := Lib.hid HB1.out.size
  have HLen : Hid ((Lof os).length ≤ 72) := Lib.hid (by have := hok.cells; omega)
  clear hl1 hL f1 hok hj HK HL HC HKW HLW
  go_upto_region 4 with fail
  obtain ⟨w3, hw3⟩ : ∃ w3, w2.alloc (.cells #[.int .i64 200, .slice A os.length c, .int .u32 0] 31) = w3 := ⟨_, rfl⟩
  have hb3 : Below w2.heap.size w2 w3 := by rw [← hw3]; exact (Below.refl _ _).alloc (Nat.le_refl _) _
  have hW3 : w3.heap[w2.heap.size]? = some (.cells #[.int .i64 200, .slice A os.length c, .int .u32 0] 31 (0, 0)) := by rw [← hw3]; exact heap_alloc_new w2 _
  have f3 := cells3 hW3
  have HB3 := Lib.hid (HB2.out.trans (hb3.mono HB2.out.size))
  have HO3 := Lib.hid (HLd.out.obs.below hb3)
  rw [hw3]
  clear hb3 hW3 HLd hw3
  by_cases h0 : os.length = 0
  · have h0' : ((os.length : Int) == 0) = true := beq_iff_eq.2 (by omega)
    clear h0
    go_wp2_with fail
    go_ret
    exact ⟨rfl, HB3.out⟩
  · have h0' : ((os.length : Int) == 0) = false := beq_eq_false_iff_ne.2 (by omega)
    have h0'' : 0 < os.length := by omega
    have hfi := ofirst_any HO3.out
    rw [standK_lt h0'', pos_zero] at hfi
    rw [show ((2 * 2 : Nat) : Int) = 4 from rfl] at hfi
    have h4 : isP ws 4 := (HO3.out.isP 4).2 ⟨0, h0'', rfl⟩
    have hl2 : 2 < (Lof os).length := by have := pos_top os h0''; rw [pos_zero] at this; omega
    have hen := encode_any (root := 4) w3 HO3.out.heap h4 hl2 (by have := HLen.out; omega) (by decide)
    have HLn : Hid (((Lof os).drop 2).length ≤ 70) := Lib.hid (by have := HLen.out; simp; omega)
    unfold EncPost at hen
    generalize (Lof os).drop 2 = D at hen HLn
    obtain ⟨xs, hxs⟩ : ∃ xs, imgB 0 4 D = xs := ⟨_, rfl⟩
    have HXs := Lib.hid hxs
    have hxl : 36 ≤ xs.length ∧ xs.length ≤ 4000 := by rw [← hxs, imgB_len]; have := HLn.out; omega
    rw [hxs] at hen
    clear h0 h4 hl2 h0'' hxs
    go_wp2_with fail
    refine hfi.mono ?_
    rintro e w' ⟨rfl, rfl⟩
    go_wp2_with fail
    refine hen.mono ?_
    rintro e w4 ⟨A4, c4, rfl, ho, hb4⟩
    have HB4 := Lib.hid (HB3.out.trans (hb4.mono HB3.out.size))
    have HSz3 := Lib.hid HB3.out.size
    obtain ⟨g4, rfl, hg4, hc4⟩ : ∃ g4, A4 = some ⟨g4, 0, none⟩ ∧ w3.heap.size ≤ g4 ∧ xs.length ≤ c4 := by
      rcases ho.2 with ⟨_, h⟩ | ⟨g', cap', cur', h1, hb, _, h2, _⟩
      · omega
      · injection h1 with h1 _ h3
        subst h1 h3
        exact ⟨g', rfl, hb, h2⟩
    have HO := Lib.hid ho
    obtain ⟨K, hK, hKl⟩ := rem_of z xs.length (by omega) (by omega)
    have hn0 : ((xs.length : Int) == 0) = false := beq_eq_false_iff_ne.2 (by omega)
    have hcell := own_cell HO.out rfl hKl
    have hfree := own_free HO.out rfl K
    clear hfi hen ho hb4 f3
    by_cases hx : xs[K] = C
    · have hxe : ((xs[K].toNat : Int) == (C.toNat : Int)) = true := by rw [hx]; exact beq_self_eq_true _
      clear hx
      go_wp2_with fail
      go_ret
      exact ⟨rfl, HB4.out⟩
    · have hxe : ((xs[K].toNat : Int) == (C.toNat : Int)) = false := beq_eq_false_iff_ne.2 (fun h => hx (UInt8.toNat_inj.1 (by omega)))
      have hbad := img_changed' HXs.out (by have := HLn.out; omega) hKl hx
      have HO5 := Lib.hid (own_set HO.out rfl K C rfl)
      obtain ⟨w5, hw5⟩ : ∃ w5, w4.setCell ⟨g4, K, none⟩ (.int .u8 (C.toNat : Int)) = w5 := ⟨_, rfl⟩
      have HB5 : Hid (Below w.heap.size w w5) := Lib.hid (by rw [← hw5]; exact HB4.out.setCell (p := ⟨g4, K, none⟩) (by have := HSz3.out; show w.heap.size ≤ g4; omega) _)
      rw [hw5] at HO5
      have hrd : Rd w5 w5.heap.size (some ⟨g4, 0, none⟩) (cb (xs.set K C)) := by
        have h := HO5.out
        rw [show xs.length = (xs.set K C).length by rw [List.length_set]] at h
        obtain ⟨A, c, e, hr, _⟩ := own_rd h
        injection e with e1
        subst e1
        exact hr
      have hde := decode_bad (xs.set K C) c4 _ w5 hrd (by rw [List.length_set]; exact hc4) (by rw [List.length_set]; omega) hbad
      rw [List.length_set] at hde
      clear hx hbad hrd
      go_wp2_with fail
      refine hde.mono ?_
      rintro e w6 ⟨r, hr0, rfl, hb6⟩
      have HB6 := Lib.hid (HB5.out.trans (hb6.mono HB5.out.size))
      have hne : ((r : Int) != 0) = true := by simp [hr0]
      clear hb6 hde hr0 hw5
      go_wp2_with fail
      go_ret
      exact ⟨rfl, HB6.out⟩
theorem walk_ImageChanged (s : Option Addr) (len cap : Nat) (zs : List Int) (s' : Option Addr) (len' cap' : Nat) (zs' : List Int) (n c : Int) (W : World) (h : IsRow .i64 W s len cap zs) (h' : IsRow .u64 W s' len' cap' zs') (_wn : (Lit.int .i64 n).wf = true) (wc : (Lit.int .u8 c).wf = true) :
    Calls Try.prog 3 #[.agg #[.slice s len cap, .slice s' len' cap'], .int .i64 n, .int .u8 c] W fun e w' => e = .returned (.bool true) ∧ Below W.heap.size W w' := by
  obtain ⟨cs, rfl, hlc, hcm, hr, _, hw⟩ := ints_row h
  obtain ⟨ls, rfl, hlc', hcm', hr', hlw⟩ := words_row h'
  have hb := bounds_u8 wc
  have hm : maxLen ≤ 9223372036854775807 := by unfold maxLen; omega
  have e : c = ((UInt8.ofNat c.toNat).toNat : Int) := by
    rw [UInt8.toNat_ofNat', Nat.mod_eq_of_lt (by omega)]; omega
  rw [e]
  exact changed_any s s' cs ls cap cap' n (UInt8.ofNat c.toNat) W hr hr' hlc (by omega) (by omega) hw hlw
end Go.Proofs.Ytkmlclhkkklmeaa.Fl
