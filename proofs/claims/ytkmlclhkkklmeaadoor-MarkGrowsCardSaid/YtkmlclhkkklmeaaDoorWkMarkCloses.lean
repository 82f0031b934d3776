/-
  The walk of MarkCloses.
-/
import Derived.Test.YtkmlclhkkklmeaaDoorFound
import Derived.Test.YtkmlclhkkklmeaaDoorArgs
import Derived.Test.YtkmlclhkkklmeaaDoorPMem
namespace Go.Proofs.YtkmlclhkkklmeaaDoor.Fl
open Go.RowKit

theorem led_none {ld : Nat → List Nat} {rs : List Nat} (h : ∀ x ∈ rs, ¬ isW x) {x : Nat} : ¬ Led ld rs x := by
  intro hl
  induction hl with
  | root h1 h2 => exact h _ h1 h2
  | step _ _ _ ih => exact ih
/-- what stands behind Reach: memory that was laid, the table -/
structure ClS (w0 w : World) (base g gc cap gb gb2 : Nat) (ws : List Nat) (os : List Ob) : Prop where
  obs : ObsAt w base g gc cap gb gb2 200 0 os ws
  env : EnvB w
  bas : base ≤ w.heap.size
  bel : Below w0.heap.size w0 w
section
variable {w0 w w' : World} {base g gc cap gb gb2 : Nat} {ws : List Nat} {os : List Ob}
theorem ClS.below (h : ClS w0 w base g gc cap gb gb2 ws os) (hb : Below w.heap.size w w') : ClS w0 w' base g gc cap gb gb2 ws os :=
  ⟨h.obs.below hb, h.env.below hb, Nat.le_trans h.bas hb.size, h.bel.trans (hb.mono h.bel.size)⟩
def ClHas (fs : List Nat) (P : Nat) (w : World) (e : Ending) (w' : World) : Prop := e = .returned (.bool (decide (2 * P ∈ fs))) ∧ w = w'
theorem cl_at {k : Nat} (h : ObsAt w base g gc cap gb gb2 200 0 os ws) (hk : k < os.length) (w1 : World) :
    Calls Tryd.prog 14 #[.int .u64 (standK os k : Int)] w1 fun e w' => e = .returned (.tuple #[.int .i64 (pos os k : Int), .int .i64 0]) ∧ w1 = w' := by
  have h1 := pos_top os hk
  have h2 := h.len
  have h3 := pos_two os k
  have e := at_in (standK os k : Int) w1 (by rw [standK_lt hk]; omega) (by rw [standK_lt hk]; omega) (by rw [standK_lt hk]; omega)
  rw [show (standK os k : Int) / 2 = (pos os k : Int) by rw [standK_lt hk]; omega] at e
  exact e
def ClAfter (os : List Ob) (k : Nat) (w : World) (e : Ending) (w' : World) : Prop := e = .returned (.int .u64 (standK os (k + 1) : Int)) ∧ Below w.heap.size w w'
theorem cl_after {k : Nat} (hk : k < os.length) (h : ClS w0 w base g gc cap gb gb2 ws os) :
    Calls Tryd.prog 13 #[.pointer (some ⟨g, 0, none⟩), .int .u64 (standK os k : Int)] w (ClAfter os k w) := by
  have e := oafter_any hk h.bas h.obs
  rw [show (pos os k : Int) * 2 = (standK os k : Int) by rw [standK_lt hk]; omega] at e
  exact e
end
set_option maxRecDepth 100000 in
set_option maxHeartbeats 4000000 in
theorem closes_any (AK AL : Option Addr) (zs : List Int) (ls : List Nat) (ck cL x : Nat) (w : World) (hk : Rd w w.heap.size AK (zs.map (Value.int .i64))) (hl : Rd w w.heap.size AL (cw ls)) (hkl : zs.length ≤ ck) (hck : ck ≤ 9223372036854775807) (hll : ls.length ≤ 9223372036854775807)
    (hkw : ∀ z ∈ zs, (Lit.int .i64 z).wf = true) (hlw : ∀ x ∈ ls, x < 18446744073709551616) (hx : x < 18446744073709551616) (he : EnvB w) :
    Calls Tryd.prog 3 #[.agg #[.slice AK zs.length ck, .slice AL ls.length cL], .int .u64 (x : Int)] w fun e w' => e = .returned (.bool true) ∧ Below w.heap.size w w' := by
  have HK := Lib.hid hk
  have HL := Lib.hid hl
  have HC := Lib.hid (And.intro hkl (And.intro hck hll))
  have HKW := Lib.hid hkw
  have HLW := Lib.hid hlw
  have HX := Lib.hid hx
  clear hk hl hkl hck hll hkw hlw hx
  go_enter Tryd.func3, Tryd.ntmps3
  go_wp2_with fail
  refine (awake_mark _).mono ?_
  rintro e w1 ⟨rfl, hb1⟩
  have hb0 : Below w.heap.size w w1 := ((Below.refl _ _).alloc (Nat.le_refl _) _).trans (hb1.mono (by simp))
  have hG : w1.heap[w.heap.size]? = some (.cells #[.slice AK zs.length ck, .slice AL ls.length cL] 25 (0, 0)) := (hb1.block _ (by simp)).trans (heap_alloc_new w _)
  have hl1 := lay_any AK AL zs ls ck cL w1 (HK.out.below hb0 (Nat.le_refl _) |>.more hb0.size) (HL.out.below hb0 (Nat.le_refl _) |>.more hb0.size) HC.out.1 HC.out.2.1 HC.out.2.2 HKW.out HLW.out
  have HB1 := Lib.hid hb0
  have f1 := cells2 hG
  clear hb1 hb0 hG
  go_wp2_with fail
  refine hl1.mono ?_
  rintro e w2 ⟨lo, base, g, gc, cap, gb, gb2, c, A, ws, os, j, rfl, hL, hok, hj⟩
  have HB2 := Lib.hid (HB1.out.trans (hL.below.mono HB1.out.size))
  have HLd := Lib.hid hL
  have HS1 := Lib.hid HB1.out.size
  clear hl1 hL f1 hok hj HK HL HC HKW HLW
  go_wp2_with fail
  obtain ⟨w3, hw3⟩ : ∃ w3, (w2.alloc (.cells #[.int .i64 200, .slice A os.length c, .int .u32 0] 32)).alloc (.cells #[.int .u64 (x : Int)] 26) = w3 := ⟨_, rfl⟩
  have hb3 : Below w2.heap.size w2 w3 := by rw [← hw3]; exact ((Below.refl _ _).alloc (Nat.le_refl _) _).alloc (by simp) _
  have hrd : Rd w3 w3.heap.size (some ⟨w2.heap.size + 1, 0, none⟩) (cw [x]) := by
    rw [← hw3]
    have := rd_block (heap_alloc_new (w2.alloc (.cells #[.int .i64 200, .slice A os.length c, .int .u32 0] 32)) (.cells #[.int .u64 (x : Int)] 26)) (B := w2.heap.size + 2) (by simp)
    simpa [cw] using this
  have hro := roots_any 200 0 c 1 [x] w3 (HLd.out.doc.below hb3) hb3.size HLd.out.obs.len hrd (by simp) (by intro y hy; simp at hy; subst hy; exact HX.out)
  have hrs : ∀ y ∈ rootL os [x], y < 18446744073709551616 := by
    intro y hy
    unfold rootL at hy
    obtain ⟨z, hz, rfl⟩ := List.mem_map.1 hy
    simp at hz
    subst hz
    exact rootX_lt HLd.out.obs.len HX.out
  have hrl : (rootL os [x]).length ≤ 9223372036854775807 := by unfold rootL; simp
  have HB3 := Lib.hid (HB2.out.trans (hb3.mono HB2.out.size))
  have HO3 := Lib.hid (HLd.out.obs.below hb3)
  have HBa : Hid (base ≤ w2.heap.size) := Lib.hid (Nat.le_of_lt (Nat.lt_of_le_of_lt HLd.out.obs.heap.bg HLd.out.obs.heap.gl.1))
  have HB23 := Lib.hid hb3.size
  rw [hw3]
  generalize rootL os [x] = rs at hro hrs hrl
  clear hb3 hrd HLd HX hw3
  refine hro.mono ?_
  rintro e w4 ⟨A1, c1, A2, c2, rfl, hr1, -, -, hb4⟩
  have HB4 := Lib.hid (HB3.out.trans (hb4.mono HB3.out.size))
  have HO4 := Lib.hid (HO3.out.below hb4)
  have HB34 := Lib.hid hb4.size
  have hre := reach_obs (c := c1) HO4.out hr1 hrs hrl
  clear hro hb4 hr1 hrs hrl HO3
  rcases hre with ⟨fs, hled, hre⟩ | ⟨_, hre⟩
  case inr =>
    go_wp2_with fail
    refine hre.mono ?_
    rintro e w5 ⟨rfl, hb5⟩
    have HB5 := Lib.hid (HB4.out.trans (hb5.mono HB4.out.size))
    clear hb5 hre
    go_wp2_with fail
    go_ret
    exact ⟨rfl, HB5.out⟩
  have HLed := Lib.hid hled
  clear hled
  obtain ⟨n, hn⟩ : ∃ n, sumC (cnOf os) fs = n := ⟨_, rfl⟩
  rw [hn] at hre
  have HN := Lib.hid hn
  clear hn
  go_wp2_with fail
  refine hre.mono ?_
  rintro e w5 ⟨sb, rfl, hF, hb5⟩
  have HS : Hid (ClS w w5 base g gc cap gb gb2 ws os) := Lib.hid ⟨HO4.out.below hb5, he.below (HB4.out.trans (hb5.mono HB4.out.size)), by have := HBa.out; have := HB23.out; have := HB34.out; have := hb5.size; omega, HB4.out.trans (hb5.mono HB4.out.size)⟩
  have HF := Lib.hid hF
  clear hre hF hb5 HO4 HB4 HB3 HB34 HB23 HBa HB2 HB1 HS1 he
  go_wp2_with fail
  refine (ofirst_any HS.out.obs).mono ?_
  rintro e w' ⟨rfl, rfl⟩
  go_wp2_with fail
  go_loopw [13] (fun p wr => ∃ k, k ≤ os.length ∧ p = .int .u64 (standK os k : Int) ∧ Hid (ClS w wr base g gc cap gb gb2 ws os) ∧ Hid (Found wr sb 200 fs)) (fun p _ => leftK os p)
  case atStart => exact ⟨0, Nat.zero_le _, rfl, HS, HF⟩
  case round =>
    clear HS HF
    obtain ⟨k, hk, rfl, HS, HF⟩ := hrel
    by_cases hlt : k < os.length
    · have hat := fun w1 => cl_at HS.out.obs hlt w1
      have hhas := found_has HF.out (pos os k)
      have haf := fun (wx : World) (h : ClS w wx base g gc cap gb gb2 ws os) => cl_after hlt h
      have hq2 : 2 * pos os k = standK os k := (standK_lt hlt).symm
      have hne : ((standK os k : Int) != 0) = true := by rw [standK_lt hlt]; have := pos_two os k; simp; omega
      have hq64 : standK os k < 18446744073709551616 := by rw [standK_lt hlt]; have := pos_top os hlt; have := HS.out.obs.len; omega
      have HMs := Lib.hid (leftK_step hlt)
      rw [hq2] at hhas
      obtain ⟨Q, hQ⟩ : ∃ Q, standK os k = Q := ⟨_, rfl⟩
      obtain ⟨P, hP⟩ : ∃ P, pos os k = P := ⟨_, rfl⟩
      rw [hQ, hP] at hat
      rw [hQ] at hne haf hhas hq64 HMs
      rw [hP] at hhas
      rw [hQ]
      clear hQ hP hq2
      have HAf := Lib.hid haf
      have H64 := Lib.hid hq64
      clear haf hq64
      go_wp2_with fail
      refine (hat _).mono ?_
      rintro e w' ⟨rfl, rfl⟩
      go_wp2_with fail
      refine hhas.mono ?_
      rintro e w' ⟨rfl, rfl⟩
      clear hat hhas
      by_cases hm : Q ∈ fs
      · rw [decide_eq_true hm]
        have hbw : Below wr.heap.size wr (wr.alloc (.cells #[.int .u64 (Q : Int)] 42)) := (Below.refl _ _).alloc (Nat.le_refl _) _
        have HS6 := Lib.hid (HS.out.below hbw)
        have HF6 := Lib.hid (HF.out.below hbw)
        have hre := reach_obs (c := 1) HS6.out.obs (rd_one wr Q) (by intro y hy; simp at hy; subst hy; exact H64.out) (by simp)
        obtain ⟨w6, hw6⟩ : ∃ w6, wr.alloc (.cells #[.int .u64 (Q : Int)] 42) = w6 := ⟨_, rfl⟩
        rw [hw6] at hre HS6 HF6
        rcases hre with ⟨ts, hled, hre⟩ | ⟨hno, -⟩
        case inr => exact absurd hno (HLed.out.tight hm)
        obtain ⟨hsub, hle⟩ := HLed.out.one (cn := cnOf os) hm hled
        rw [HN.out] at hle
        generalize sumC (cnOf os) ts = mm at hre hle
        have hle' : ¬ ((mm : Int) > (n : Int)) := by omega
        have HSub := Lib.hid hsub
        clear hsub hled hm hle hbw HS HF
        go_wp2_with fail
        refine hre.mono ?_
        rintro e w7 ⟨tb, rfl, hT, hb7⟩
        have HS7 := Lib.hid (HS6.out.below hb7)
        have HF7 := Lib.hid (HF6.out.below hb7)
        have HT7 := Lib.hid hT
        clear hT hb7 hre HS6 HF6 hw6
        go_wp2_with fail
        refine (found_next (z := 0) (m := 0) HT7.out HS7.out.env rfl).mono ?_
        rintro e w8 ⟨r, rfl, hnx, hb8⟩
        have HS8 := Lib.hid (HS7.out.below hb8)
        have HF8 := Lib.hid (HF7.out.below hb8)
        have HT8 := Lib.hid (HT7.out.below hb8)
        have HNx := Lib.hid hnx
        clear hnx hb8 HS7 HF7 HT7
        go_wp2_with fail
        go_loopw [19] (fun v wx => ∃ (q : Nat) (r : Int), v = .int .i64 r ∧ Hid (NextF ts 200 q r) ∧ Hid (ClS w wx base g gc cap gb gb2 ws os) ∧ Hid (Found wx sb 200 fs) ∧ Hid (Found wx tb 200 ts)) (fun v _ => nxm 200 v)
        case atStart => exact ⟨0, r, rfl, HNx, HS8, HF8, HT8⟩
        case round =>
          clear HNx HS8 HF8 HT8
          obtain ⟨q, r, rfl, HNx, HS, HF, HT⟩ := hrel
          rcases HNx.out with ⟨rfl, -⟩ | ⟨i, rfl, -, hi, hmem, -⟩
          · go_wp2_with fail
            refine (HAf.out _ HS.out).mono ?_
            rintro e w9 ⟨rfl, hb9⟩
            have HS9 := Lib.hid (HS.out.below hb9)
            have HF9 := Lib.hid (HF.out.below hb9)
            clear hb9
            go_wp2_with fail
            go_roundw
            case rel => exact ⟨k + 1, hlt, rfl, HS9, HF9⟩
            case measure => exact HMs.out
          · have hin : 2 * i ∈ fs := HSub.out _ hmem
            have hh := found_has HF.out i
            rw [decide_eq_true hin] at hh
            clear hin hmem
            have hnx := found_next (z := (i : Int) + 1) (m := i + 1) HT.out HS.out.env (by omega)
            go_wp2_with fail
            refine hh.mono ?_
            rintro e w' ⟨rfl, rfl⟩
            go_wp2_with fail
            refine hnx.mono ?_
            rintro e w9 ⟨r2, rfl, hn2, hb9⟩
            have HS9 := Lib.hid (HS.out.below hb9)
            have HF9 := Lib.hid (HF.out.below hb9)
            have HT9 := Lib.hid (HT.out.below hb9)
            have HM := Lib.hid (nxm_lt hi hn2)
            have HN2 := Lib.hid hn2
            clear hb9 hn2 hnx hh
            go_wp2_with fail
            go_roundw
            case rel => exact ⟨_, r2, rfl, HN2, HS9, HF9, HT9⟩
            case measure => exact HM.out
      · rw [decide_eq_false hm]
        go_wp2_with fail
        refine (HAf.out _ HS.out).mono ?_
        rintro e w9 ⟨rfl, hb9⟩
        have HS9 := Lib.hid (HS.out.below hb9)
        have HF9 := Lib.hid (HF.out.below hb9)
        clear hb9
        go_wp2_with fail
        go_roundw
        case rel => exact ⟨k + 1, hlt, rfl, HS9, HF9⟩
        case measure => exact HMs.out
    · have hz : (standK os k : Int) = 0 := by rw [standK_end (by omega)]; rfl
      rw [hz]
      clear hz hlt hk
      have hbw : Below wr.heap.size wr (wr.alloc (.cells #[.int .u64 0, .int .u64 1, .int .u64 3] 42)) := (Below.refl _ _).alloc (Nat.le_refl _) _
      have HS6 := Lib.hid (HS.out.below hbw)
      have hrd : Rd (wr.alloc (.cells #[.int .u64 0, .int .u64 1, .int .u64 3] 42)) (wr.alloc (.cells #[.int .u64 0, .int .u64 1, .int .u64 3] 42)).heap.size (some ⟨wr.heap.size, 0, none⟩) (cw [0, 1, 3]) := rd_block (heap_alloc_new wr _) (by simp)
      have hre := reach_obs (c := 3) HS6.out.obs hrd (by intro y hy; simp at hy; omega) (by simp)
      obtain ⟨w6, hw6⟩ : ∃ w6, wr.alloc (.cells #[.int .u64 0, .int .u64 1, .int .u64 3] 42) = w6 := ⟨_, rfl⟩
      rw [hw6] at hre HS6
      have hnl : ∀ y : Nat, ¬ Led (ldOf os) [0, 1, 3] y := fun y => led_none (by intro z hz; simp at hz; unfold isW; omega)
      rcases hre with ⟨ts, hled, hre⟩ | ⟨⟨y, hy, -⟩, -⟩
      case inr => exact absurd hy (hnl y)
      obtain rfl : ts = [] := List.eq_nil_iff_forall_not_mem.2 fun y hy => hnl y ((hled.mem y).1 hy)
      clear hled hnl hbw hrd HS HF
      go_wp2_with fail
      refine hre.mono ?_
      rintro e w7 ⟨tb, rfl, hT, hb7⟩
      have HS7 := Lib.hid (HS6.out.below hb7)
      have hnx := found_next (z := 0) (m := 0) hT HS7.out.env rfl
      clear hT hb7 hre HS6 hw6
      rw [show ((sumC (cnOf os) [] : Nat) : Int) = 0 from rfl]
      go_wp2_with fail
      refine hnx.mono ?_
      rintro e w8 ⟨r, rfl, hn, hb8⟩
      have HB8 := Lib.hid (HS7.out.below hb8).bel
      obtain rfl : r = -1 := by
        rcases hn with ⟨h, -⟩ | ⟨i, -, -, -, h, -⟩
        · exact h
        · cases h
      clear hn hb8
      go_wp2_with fail
      go_ret
      exact ⟨rfl, HB8.out⟩
theorem walk_MarkCloses (s : Option Addr) (len cap : Nat) (zs : List Int) (s' : Option Addr) (len' cap' : Nat) (zs' : List Int) (x : Int) (W : World) (h : IsRow .i64 W s len cap zs) (h' : IsRow .u64 W s' len' cap' zs') (wx : (Lit.int .u64 x).wf = true) (he : EnvB W) :
    Calls Tryd.prog 3 #[.agg #[.slice s len cap, .slice s' len' cap'], .int .u64 x] W fun e w' => e = .returned (.bool true) ∧ Below W.heap.size W w' := by
  obtain ⟨cs, rfl, hlc, hcm, hr, _, hw⟩ := ints_row h
  obtain ⟨ls, rfl, hlc', hcm', hr', hlw⟩ := words_row h'
  obtain ⟨X, rfl, hX⟩ := word_wf wx
  have hm : maxLen ≤ 9223372036854775807 := by unfold maxLen; omega
  exact closes_any s s' cs ls cap cap' X W hr hr' hlc (by omega) (by omega) hw hlw hX he
end Go.Proofs.YtkmlclhkkklmeaaDoor.Fl
