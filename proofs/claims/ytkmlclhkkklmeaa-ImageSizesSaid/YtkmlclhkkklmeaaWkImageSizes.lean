/-
  The walk of ImageSizes.
-/
import Derived.Test.YtkmlclhkkklmeaaDecodeB
import Derived.Test.YtkmlclhkkklmeaaWkImageChanged
namespace Go.Proofs.Ytkmlclhkkklmeaa.Fl
open Go.RowKit

theorem laid_clean {os : List Ob} {j : Nat} (h : LaidOk os j) : (∀ o ∈ os, CleanO o) ∧ ∀ o ∈ os, o.hash = 0 := by
  refine ⟨fun o ho => ?_, fun o ho => (h.each o ho).1⟩
  intro hk _
  have := (h.each o ho).2.2.2 hk
  refine ⟨by rw [this]; decide, ?_⟩
  rw [List.getElem_of_eq this]
  simp
set_option maxRecDepth 100000 in
set_option maxHeartbeats 8000000 in
theorem sizes_any (AK AL : Option Addr) (zs : List Int) (ls : List Nat) (ck cL : Nat) (z : Int) (w : World) (hk : Rd w w.heap.size AK (zs.map (Value.int .i64))) (hl : Rd w w.heap.size AL (cw ls)) (hkl : zs.length ≤ ck) (hck : ck ≤ 9223372036854775807) (hll : ls.length ≤ 9223372036854775807)
    (hkw : ∀ z ∈ zs, (Lit.int .i64 z).wf = true) (hlw : ∀ x ∈ ls, x < 18446744073709551616) :
    Calls Try.prog 4 #[.agg #[.slice AK zs.length ck, .slice AL ls.length cL], .int .i64 z] w fun e w' => e = .returned (.bool true) ∧ Below w.heap.size w w' := by
  have HK := Lib.hid hk
  have HL := Lib.hid hl
  have HC := Lib.hid (And.intro hkl (And.intro hck hll))
  have HKW := Lib.hid hkw
  have HLW := Lib.hid hlw
  clear hk hl hkl hck hll hkw hlw
  go_enter Try.func4, Try.ntmps4
  go_wp2_with fail
  refine (awake7_any _).mono ?_
  rintro e w1 ⟨rfl, hb1⟩
  have hb0 : Below w.heap.size w w1 := ((Below.refl _ _).alloc (Nat.le_refl _) _).trans (hb1.mono (by simp))
  have hG : w1.heap[w.heap.size]? = some (.cells #[.slice AK zs.length ck, .slice AL ls.length cL] 25 (0, 0)) := (hb1.block _ (by simp)).trans (heap_alloc_new w _)
  have hl1 := lay_any AK AL zs ls ck cL w1 (HK.out.below hb0 (Nat.le_refl _) |>.more hb0.size) (HL.out.below hb0 (Nat.le_refl _) |>.more hb0.size) HC.out.1 HC.out.2.1 HC.out.2.2 HKW.out HLW.out
  have HB1 := Lib.hid hb0
  have f1 := cells2 hG
  clear hb1 hb0 hG
  go_wp2_with fail
  refine hl1.mono ?_
  rintro e w2 ⟨lo, base, g, gc, cap, gb, gb2, c, A, ws, os, j, rfl, hL, hok, hj⟩
  have HB2 := Lib.hid (HB1.out.trans (hL.below.mono HB1.out.size))
  have HLd := Lib.hid hL
  have HOk := Lib.hid hok
  have HLen : Hid ((Lof os).length ≤ 72) := Lib.hid (by have := hok.cells; omega)
  clear hl1 hL f1 hok hj HK HL HC HKW HLW
  go_upto_region 4 with fail
  obtain ⟨w3, hw3⟩ : ∃ w3, w2.alloc (.cells #[.int .i64 200, .slice A os.length c, .int .u32 0] 31) = w3 := ⟨_, rfl⟩
  have hb3 : Below w2.heap.size w2 w3 := by rw [← hw3]; exact (Below.refl _ _).alloc (Nat.le_refl _) _
  have hW3 : w3.heap[w2.heap.size]? = some (.cells #[.int .i64 200, .slice A os.length c, .int .u32 0] 31 (0, 0)) := by rw [← hw3]; exact heap_alloc_new w2 _
  have f3 := cells3 hW3
  have HB3 := Lib.hid (HB2.out.trans (hb3.mono HB2.out.size))
  have HO3 := Lib.hid (HLd.out.obs.below hb3)
  have HBa : Hid (base ≤ w3.heap.size) := Lib.hid (Nat.le_trans (Nat.le_trans (Nat.le_of_lt (Nat.lt_of_le_of_lt HLd.out.obs.heap.bg (lt_of_block HLd.out.obs.heap.hd))) hb3.size) (Nat.le_refl _))
  rw [hw3]
  clear hb3 hW3 HLd hw3
  by_cases h0 : os.length = 0
  · have h0' : ((os.length : Int) == 0) = true := beq_iff_eq.2 (by omega)
    clear h0
    go_wp2_with fail
    go_ret
    exact ⟨rfl, HB3.out⟩
  · have h0' : ((os.length : Int) == 0) = false := beq_eq_false_iff_ne.2 (by omega)
    have h0'' : 0 < os.length := by omega
    have H0 := Lib.hid h0''
    have hfi := ofirst_any HO3.out
    rw [standK_lt h0'', pos_zero] at hfi
    rw [show ((2 * 2 : Nat) : Int) = 4 from rfl] at hfi
    have h4 : isP ws 4 := (HO3.out.isP 4).2 ⟨0, h0'', rfl⟩
    have hl2 : 2 < (Lof os).length := by have := pos_top os h0''; rw [pos_zero] at this; omega
    have hen := encode_any (root := 4) w3 HO3.out.heap h4 hl2 (by have := HLen.out; omega) (by decide)
    obtain ⟨xs, hxs⟩ : ∃ xs, imgB 0 4 ((Lof os).drop 2) = xs := ⟨_, rfl⟩
    have HXs := Lib.hid hxs
    have hxl : xs.length = 36 + 8 * ((Lof os).length - 2) := by rw [← hxs, imgB_len, List.length_drop]
    unfold EncPost at hen
    rw [hxs] at hen
    clear h0 h4 h0'' hxs
    go_wp2_with fail
    refine hfi.mono ?_
    rintro e w' ⟨rfl, rfl⟩
    have HXl := Lib.hid hxl
    clear hxl
    go_wp2_with fail
    refine hen.mono ?_
    rintro e w4 ⟨A4, c4, rfl, ho, hb4⟩
    have HB4 := Lib.hid (HB3.out.trans (hb4.mono HB3.out.size))
    have HO4 := Lib.hid (HO3.out.below hb4)
    have HSz4 : Hid (w3.heap.size ≤ w4.heap.size) := Lib.hid hb4.size
    have hus := used_any w4 HO4.out.heap
    obtain ⟨A', c', e', hr4, -⟩ := own_rd ho
    injection e' with e1 e2 e3
    subst e1 e3
    have HR4 := Lib.hid hr4
    have HC4 : Hid (xs.length ≤ c4) := Lib.hid (by
      rcases ho.2 with ⟨_, h⟩ | ⟨g', cap', cur', h1, hb, _, h2, _⟩
      · have := HXl.out; omega
      · injection h1 with _ _ h3
        subst h3
        exact h2)
    have hl72 := HLen.out
    have hne : ((xs.length : Int) != 36 + 8 * (((Lof os).length : Int) - 2)) = false := by have := HXl.out; simp; omega
    clear hfi hen hb4 f3 HO3 hr4 ho
    go_wp2_with fail
    refine hus.mono ?_
    rintro e w' ⟨rfl, rfl⟩
    clear hus
    go_upto_region 9 with fail
    go_cut [1] (fun v wx => ∃ n : Nat, v = .int .i64 (n : Int) ∧ 16 ≤ n ∧ n ≤ 300 ∧ w4 = wx)
    case first =>
      by_cases z1 : 300 < z
      · go_wp2_with fail
        go_meet
        exact ⟨300, rfl, by decide, by decide, rfl⟩
      · by_cases z2 : 16 < z
        · obtain ⟨n, rfl⟩ : ∃ n : Nat, z = (n : Int) := ⟨z.toNat, by omega⟩
          go_wp2_with fail
          go_meet
          exact ⟨n, rfl, by omega, by omega, rfl⟩
        · go_wp2_with fail
          go_meet
          exact ⟨16, rfl, by decide, by decide, rfl⟩
    case rest =>
      obtain ⟨n, rfl, hn1, hn2, rfl⟩ := hcut
      have HFin : Hid (∀ w', Below w4.heap.size w4 w' → Below w.heap.size w w') := Lib.hid fun w' hb => HB4.out.trans (hb.mono HB4.out.size)
      have hl64 := HO4.out.heap.lt
      have hcl := laid_clean HOk.out
      have hde := decode_any os ws n c4 A4 w4 hn1 (by omega) H0.out (by omega) hl64 HO4.out.ok hcl.1 hcl.2 HO4.out.isP (by rw [HXs.out]; exact HR4.out) (by rw [HXs.out]; exact HC4.out)
      rw [HXs.out] at hde
      clear hne hl64 hcl HB4 HB3
      go_wp2_with fail
      refine hde.mono ?_
      rintro e w5 ⟨v, x, r, rfl, hb5, d1, d2, d3⟩
      have HO5 := Lib.hid (HO4.out.below hb5)
      have hcd := closed_any HO5.out (Nat.le_trans HBa.out (by have := HSz4.out; have := hb5.size; omega))
      have hus := used_any w5 HO5.out.heap
      have HB5 := Lib.hid (HFin.out w5 hb5)
      have HFin5 : Hid (∀ w', Below w5.heap.size w5 w' → Below w.heap.size w w') := Lib.hid fun w' hb => HB5.out.trans (hb.mono HB5.out.size)
      have D1 := Lib.hid d1
      have D2 := Lib.hid d2
      have D3 := Lib.hid d3
      clear hde hb5 d1 d2 d3 hus
      cases hbo : closedB ws os with
      | true =>
        rw [hbo] at hcd
        have HBo := Lib.hid hbo
        clear hbo
        go_wp2_with fail
        refine hcd.mono ?_
        rintro e w6 ⟨rfl, hb6⟩
        have hus := used_any w6 (HO5.out.below hb6).heap
        have HB6 := Lib.hid (HFin5.out w6 hb6)
        clear hcd hb6
        rcases Nat.lt_or_ge n (Lof os).length with hf | hf
        · obtain ⟨rfl, rfl⟩ := D1.out hf
          have hge : decide ((Lof os).length ≤ n) = false := decide_eq_false (by omega)
          go_wp2_with (go_at_call 11; (with_reducible refine hus.mono ?_); rintro e w' ⟨rfl, rfl⟩)
          go_ret
          refine ⟨?_, HB6.out⟩
          simp
        · obtain ⟨rfl, a, rfl⟩ := D3.out hf HBo.out
          go_wp2_with (go_at_call 11; (with_reducible refine hus.mono ?_); rintro e w' ⟨rfl, rfl⟩)
          go_ret
          exact ⟨rfl, HB6.out⟩
      | false =>
        rw [hbo] at hcd
        have HBo := Lib.hid hbo
        clear hbo
        go_wp2_with fail
        refine hcd.mono ?_
        rintro e w6 ⟨rfl, hb6⟩
        have HB6 := Lib.hid (HFin5.out w6 hb6)
        clear hcd hb6
        have hv : r ≠ 0 ∧ v = .pointer none := by
          rcases Nat.lt_or_ge n (Lof os).length with hf | hf
          · obtain ⟨rfl, rfl⟩ := D1.out hf
            exact ⟨by decide, rfl⟩
          · obtain ⟨rfl, rfl⟩ := D2.out hf HBo.out
            exact ⟨by decide, rfl⟩
        obtain ⟨hr0, rfl⟩ := hv
        have hre : ((r : Int) != 0) = true := by simp [hr0]
        clear hr0
        go_wp2_with fail
        go_ret
        exact ⟨rfl, HB6.out⟩
theorem walk_ImageSizes (s : Option Addr) (len cap : Nat) (zs : List Int) (s' : Option Addr) (len' cap' : Nat) (zs' : List Int) (n : Int) (W : World) (h : IsRow .i64 W s len cap zs) (h' : IsRow .u64 W s' len' cap' zs') (_wn : (Lit.int .i64 n).wf = true) :
    Calls Try.prog 4 #[.agg #[.slice s len cap, .slice s' len' cap'], .int .i64 n] W fun e w' => e = .returned (.bool true) ∧ Below W.heap.size W w' := by
  obtain ⟨cs, rfl, hlc, hcm, hr, _, hw⟩ := ints_row h
  obtain ⟨ls, rfl, hlc', hcm', hr', hlw⟩ := words_row h'
  have hm : maxLen ≤ 9223372036854775807 := by unfold maxLen; omega
  exact sizes_any s s' cs ls cap cap' n W hr hr' hlc (by omega) (by omega) hw hlw
end Go.Proofs.Ytkmlclhkkklmeaa.Fl
