/-
  The walk of MarkGrows.
-/
import Derived.Test.YtkmlclhkkklmeaaDoorWkMarkCloses
namespace Go.Proofs.YtkmlclhkkklmeaaDoor.Fl
open Go.RowKit

theorem rootL_lt {os : List Ob} {l : List Nat} (hl : (Lof os).length ≤ 16777216) (h : ∀ x ∈ l, x < 18446744073709551616) : ∀ y ∈ rootL os l, y < 18446744073709551616 := by
  intro y hy
  unfold rootL at hy
  obtain ⟨z, hz, rfl⟩ := List.mem_map.1 hy
  exact rootX_lt hl (h _ (List.mem_of_mem_take hz))
theorem rootL_len (os : List Ob) (l : List Nat) : (rootL os l).length ≤ 6 := by unfold rootL; simp; omega
theorem led_more {ld : Nat → List Nat} {rs rs' : List Nat} (h : ∀ x ∈ rs, x ∈ rs') {x : Nat} (hl : Led ld rs x) : Led ld rs' x := hl.mono fun _ hy hw => .root (h _ hy) hw
/-- append of words onto a row of the call's own -/
theorem wpList_append_w {w : World} {base c : Nat} {A : Option Addr} {xs news : List Nat} {v : Value} {ops : Array Oper} {rest : List Oper} {o : Oper} {a : Act} {Q : Exit → Act → World → Prop} (hg : o.guard = none) (s x : Operand) (ho : o.op = .call { callee := .builtin .append, args := #[s, x], argTypes := #[35, 35] })
    (hs : a.eval s = v) (hx : a.eval x = .slice A news.length c) (hown : OwnH w base v xs) (hr : Rd w w.heap.size A (cw news)) (hA : A = none → news.length = 0) (hl : xs.length ≤ 1000000) (hl2 : news.length ≤ 1000000) (hb : base ≤ w.heap.size)
    (h : ∀ A' ts c' w', Hid (ts = xs ++ news) → Hid (OwnH w' base (.slice A' ts.length c') ts) → Hid (Below base w w') → wpList Tryd.prog ops Q rest (a.put o.dst (.slice A' ts.length c')) w') : wpList Tryd.prog ops Q (o :: rest) a w := by
  obtain ⟨i0, hi, hz0, hz1, hz2⟩ := info_parts wordinfo
  refine wpList_append_rd (base := base) (size := 1) (bytes := 8) (n := xs.length) (m := news.length) (c := c) (v := v) (xs := cw xs) (news := cw news) hg s x ho Tryd.underlying35 hi hz0 hz1 hz2 rfl (by decide) hs hx hown hr (by rw [cw_len]; omega) hA (cw_one news) (by unfold maxLen; omega) (by omega) hb ?_
  intro v' w' happ
  obtain ⟨A', c', rfl, _, _⟩ := happ.slice
  have e : xs.length + news.length = (xs ++ news).length := by simp
  have ho := happ.own
  rw [e, show cw xs ++ cw news = cw (xs ++ news) by simp [cw]] at ho
  rw [e]
  exact h A' (xs ++ news) c' w' (Lib.hid rfl) (Lib.hid ho) (Lib.hid ((Below.refl _ _).grown happ.grown hb (fun j hj => (World.ownsRow.lt hown j hj).1)))
set_option maxRecDepth 100000 in
set_option maxHeartbeats 4000000 in
theorem grows_any (AK AL : Option Addr) (zs : List Int) (ls : List Nat) (ck cL : Nat) (AA AB : Option Addr) (av bs : List Nat) (cA cB : Nat) (w : World) (hk : Rd w w.heap.size AK (zs.map (Value.int .i64))) (hl : Rd w w.heap.size AL (cw ls)) (hkl : zs.length ≤ ck) (hck : ck ≤ 9223372036854775807) (hll : ls.length ≤ 9223372036854775807)
    (hkw : ∀ z ∈ zs, (Lit.int .i64 z).wf = true) (hlw : ∀ x ∈ ls, x < 18446744073709551616) (hra : Rd w w.heap.size AA (cw av)) (hrb : Rd w w.heap.size AB (cw bs)) (hal : av.length ≤ 9223372036854775807) (hbl : bs.length ≤ 9223372036854775807) (haw : ∀ x ∈ av, x < 18446744073709551616) (hbw : ∀ x ∈ bs, x < 18446744073709551616) (he : EnvB w) :
    Calls Tryd.prog 4 #[.agg #[.slice AK zs.length ck, .slice AL ls.length cL], .slice AA av.length cA, .slice AB bs.length cB] w fun e w' => e = .returned (.bool true) ∧ Below w.heap.size w w' := by
  have HK := Lib.hid hk
  have HL := Lib.hid hl
  have HC := Lib.hid (And.intro hkl (And.intro hck hll))
  have HKW := Lib.hid hkw
  have HLW := Lib.hid hlw
  have HRA := Lib.hid hra
  have HRB := Lib.hid hrb
  have HAL := Lib.hid (And.intro hal hbl)
  have HAW := Lib.hid (And.intro haw hbw)
  clear hk hl hkl hck hll hkw hlw hra hrb hal hbl haw hbw
  go_enter Tryd.func4, Tryd.ntmps4
  go_wp2_with fail
  refine (awake_mark _).mono ?_
  rintro e w1 ⟨rfl, hb1⟩
  have hb0 : Below w.heap.size w w1 := ((Below.refl _ _).alloc (Nat.le_refl _) _).trans (hb1.mono (by simp))
  have hG : w1.heap[w.heap.size]? = some (.cells #[.slice AK zs.length ck, .slice AL ls.length cL] 25 (0, 0)) := (hb1.block _ (by simp)).trans (heap_alloc_new w _)
  have hl1 := lay_any AK AL zs ls ck cL w1 (HK.out.below hb0 (Nat.le_refl _) |>.more hb0.size) (HL.out.below hb0 (Nat.le_refl _) |>.more hb0.size) HC.out.1 HC.out.2.1 HC.out.2.2 HKW.out HLW.out
  have HB1 := Lib.hid hb0
  have f1 := cells2 hG
  clear hb1 hb0 hG
  go_wp2_with fail
  refine hl1.mono ?_
  rintro e w2 ⟨lo, base, g, gc, cap, gb, gb2, c, A, ws, os, j, rfl, hL, hok, hj⟩
  have HB2 := Lib.hid (HB1.out.trans (hL.below.mono HB1.out.size))
  have HLd := Lib.hid hL
  have HS1 := Lib.hid HB1.out.size
  clear hl1 hL f1 hok hj HK HL HC HKW HLW
  go_wp2_with fail
  obtain ⟨w3, hw3⟩ : ∃ w3, w2.alloc (.cells #[.int .i64 200, .slice A os.length c, .int .u32 0] 32) = w3 := ⟨_, rfl⟩
  have hb3 : Below w2.heap.size w2 w3 := by rw [← hw3]; exact (Below.refl _ _).alloc (Nat.le_refl _) _
  have hW3 : w3.heap[w2.heap.size]? = some (.cells #[.int .i64 200, .slice A os.length c, .int .u32 0] 32 (0, 0)) := by rw [← hw3]; exact heap_alloc_new w2 _
  have f3 := cells3 hW3
  have HB3 := Lib.hid (HB2.out.trans (hb3.mono HB2.out.size))
  have HO3 := Lib.hid (HLd.out.obs.below hb3)
  have HD3 := Lib.hid (HLd.out.doc.below hb3)
  have HBa : Hid (base ≤ w2.heap.size) := Lib.hid (Nat.le_of_lt (Nat.lt_of_le_of_lt HLd.out.obs.heap.bg HLd.out.obs.heap.gl.1))
  have HB23 := Lib.hid hb3.size
  have HW3 := Lib.hid hW3
  have hro := roots_any 200 0 c cA av w3 HD3.out hb3.size HO3.out.len ((HRA.out.below HB3.out (Nat.le_refl _)).more HB3.out.size) HAL.out.1 HAW.out.1
  have HX := Lib.hid (rootL_lt HO3.out.len HAW.out.1)
  have HXl := Lib.hid (rootL_len os av)
  generalize rootL os av = xs at hro HX HXl
  rw [hw3]
  clear hb3 HLd hW3 hw3
  refine hro.mono ?_
  rintro e w4 ⟨A1, c1, A2, c2, rfl, hr1, -, hn1, hb4⟩
  have HB4 := Lib.hid (HB3.out.trans (hb4.mono HB3.out.size))
  have HO4 := Lib.hid (HO3.out.below hb4)
  have HR4 := Lib.hid hr1
  have HN1 := Lib.hid hn1
  have f4 := cells3 ((hb4.block _ (lt_of_block HW3.out)).trans HW3.out)
  have hro := roots_any 200 0 c cB bs w4 (HD3.out.below (hb4.mono HB23.out)) (Nat.le_trans HB23.out hb4.size) HO4.out.len ((HRB.out.below HB4.out (Nat.le_refl _)).more HB4.out.size) HAL.out.2 HAW.out.2
  have HB34 := Lib.hid (Nat.le_trans HB23.out hb4.size)
  have HY := Lib.hid (rootL_lt HO4.out.len HAW.out.2)
  have HYl := Lib.hid (rootL_len os bs)
  generalize rootL os bs = ys at hro HY HYl
  clear hb4 hr1 hn1 f3 HD3 HO3 HB23 HRA HRB HAL HAW
  go_wp2_with fail
  refine hro.mono ?_
  rintro e w5 ⟨A3, c3, A4, c4, rfl, hr3, -, hn3, hb5⟩
  have HO5 := Lib.hid (HO4.out.below hb5)
  have HB5 := Lib.hid (HB4.out.trans (hb5.mono HB4.out.size))
  have HR5 := Lib.hid (HR4.out.below hb5 (Nat.le_refl _) |>.more hb5.size)
  have HR6 := Lib.hid hr3
  have HN3 := Lib.hid hn3
  have HB45 := Lib.hid (Nat.le_trans HB34.out hb5.size)
  clear hro hb5 hr3 hn3 f4 HO4 HB4 HR4 HB34 HW3
  have hre := reach_either (c := c1) HO5.out HR5.out HX.out (by have := HXl.out; omega)
  go_wp2_with fail
  refine hre.mono ?_
  rintro e w6 ⟨S1, n1, z1, rfl, hE, hb6⟩
  have HO6 := Lib.hid (HO5.out.below hb6)
  have HB6 := Lib.hid (HB5.out.trans (hb6.mono HB5.out.size))
  have HRx := Lib.hid (HR5.out.below hb6 (Nat.le_refl _) |>.more hb6.size)
  have HRy := Lib.hid (HR6.out.below hb6 (Nat.le_refl _) |>.more hb6.size)
  have HE1 := Lib.hid hE
  clear hre hE hb6 HO5 HB5 HR5 HR6
  have hbv : Below w6.heap.size w6 (w6.alloc (.cells #[] 42)) := (Below.refl _ _).alloc (Nat.le_refl _) _
  have HRxv := Lib.hid ((HRx.out.below hbv (Nat.le_refl _)).more hbv.size)
  have HOv : Hid (OwnH (w6.alloc (.cells #[] 42)) w6.heap.size (.slice (some ⟨w6.heap.size, 0, none⟩) 0 0) []) := Lib.hid (own_void w6 42 1 w6.heap.size (Nat.le_refl _))
  go_wp2_with (first
    | (at_builtin; refine wpList_append_w (base := w6.heap.size) rfl _ _ rfl rfl rfl HOv.out HRxv.out HN1.out (by simp) (by have := HXl.out; omega) hbv.size ?_; intro A5 t1 c5 w7 HT1 HO7 HB7)
    | (at_builtin; refine wpList_append_w (base := w6.heap.size) rfl _ _ rfl rfl rfl HO7.out ((HRy.out.below (hbv.trans HB7.out) (Nat.le_refl _)).more (hbv.trans HB7.out).size) HN3.out (by have := HXl.out; rw [HT1.out]; simp; omega) (by have := HYl.out; omega) (hbv.trans HB7.out).size ?_; intro A6 t2 c6 w8 HT2 HO8 HB8))
  have HT : Hid (t2 = xs ++ ys) := Lib.hid (by rw [HT2.out, HT1.out]; rfl)
  have hb68 := (hbv.trans HB7.out).trans HB8.out
  have HO9 := Lib.hid (HO6.out.below hb68)
  have HB9 := Lib.hid (HB6.out.trans (hb68.mono HB6.out.size))
  have HE9 := Lib.hid (HE1.out.below hb68)
  have HRx9 := Lib.hid ((HRx.out.below hb68 (Nat.le_refl _)).more hb68.size)
  have HRy9 := Lib.hid ((HRy.out.below hb68 (Nat.le_refl _)).more hb68.size)
  have hre := reach_either (c := c6) HO9.out (ownsRow_rd HO8.out) (by rw [HT.out]; intro y hy; rcases List.mem_append.1 hy with h | h; exact HX.out y h; exact HY.out y h) (by rw [HT.out, List.length_append]; have := HXl.out; have := HYl.out; omega)
  clear hbv HRxv HOv HT1 HO7 HB7 HT2 HO8 HB8 hb68 HO6 HB6 HE1 HRx HRy
  refine hre.mono ?_
  rintro e w9 ⟨S2, n2, z2, rfl, hE2, hb9⟩
  have HO10 := Lib.hid (HO9.out.below hb9)
  have HB10 := Lib.hid (HB9.out.trans (hb9.mono HB9.out.size))
  have HE1 := Lib.hid (HE9.out.below hb9)
  have HE2 := Lib.hid hE2
  have HRx := Lib.hid ((HRx9.out.below hb9 (Nat.le_refl _)).more hb9.size)
  have HRy := Lib.hid ((HRy9.out.below hb9 (Nat.le_refl _)).more hb9.size)
  clear hre hE2 hb9 HO9 HB9 HE9 HRx9 HRy9
  have hbv : Below w9.heap.size w9 (w9.alloc (.cells #[] 42)) := (Below.refl _ _).alloc (Nat.le_refl _) _
  have HRyv := Lib.hid ((HRy.out.below hbv (Nat.le_refl _)).more hbv.size)
  have HOv : Hid (OwnH (w9.alloc (.cells #[] 42)) w9.heap.size (.slice (some ⟨w9.heap.size, 0, none⟩) 0 0) []) := Lib.hid (own_void w9 42 1 w9.heap.size (Nat.le_refl _))
  go_wp2_with (first
    | (at_builtin; refine wpList_append_w (base := w9.heap.size) rfl _ _ rfl rfl rfl HOv.out HRyv.out HN3.out (by simp) (by have := HYl.out; omega) hbv.size ?_; intro A7 t3 c7 w10 HT3 HO7 HB7)
    | (at_builtin; refine wpList_append_w (base := w9.heap.size) rfl _ _ rfl rfl rfl HO7.out ((HRx.out.below (hbv.trans HB7.out) (Nat.le_refl _)).more (hbv.trans HB7.out).size) HN1.out (by have := HYl.out; rw [HT3.out]; simp; omega) (by have := HXl.out; omega) (hbv.trans HB7.out).size ?_; intro A8 t4 c8 w11 HT4 HO8 HB8))
  have HU : Hid (t4 = ys ++ xs) := Lib.hid (by rw [HT4.out, HT3.out]; rfl)
  have hb68 := (hbv.trans HB7.out).trans HB8.out
  have HO11 := Lib.hid (HO10.out.below hb68)
  have HB11 := Lib.hid (HB10.out.trans (hb68.mono HB10.out.size))
  have HF1 := Lib.hid (HE1.out.below hb68)
  have HF2 := Lib.hid (HE2.out.below hb68)
  have hre := reach_either (c := c8) HO11.out (ownsRow_rd HO8.out) (by rw [HU.out]; intro y hy; rcases List.mem_append.1 hy with h | h; exact HY.out y h; exact HX.out y h) (by rw [HU.out, List.length_append]; have := HXl.out; have := HYl.out; omega)
  clear hbv HRyv HOv HT3 HO7 HB7 HT4 HO8 HB8 hb68 HO10 HB10 HE1 HE2 HRx HRy HN1 HN3 HX HY HXl HYl HB45 HBa
  refine hre.mono ?_
  rintro e w12 ⟨S3, n3, z3, rfl, hE3, hb12⟩
  have HB12 := Lib.hid (HB11.out.trans (hb12.mono HB11.out.size))
  have he1 := HF1.out.below hb12
  have he2 := HF2.out.below hb12
  have HEn := Lib.hid (he.below HB12.out)
  clear hre hb12 HF1 HF2 HO11 HB11 he
  have m12 : ∀ x ∈ xs, x ∈ t2 := fun x hx => by rw [HT.out]; simp [hx]
  have m23 : ∀ x, x ∈ t2 ↔ x ∈ t4 := fun x => by rw [HT.out, HU.out]; simp [or_comm]
  rcases he2 with ⟨sb2, fs2, rfl, rfl, rfl, led2, f2⟩ | ⟨rfl, rfl, rfl, x, hx, hnx⟩
  · rcases hE3 with ⟨sb3, fs3, rfl, rfl, rfl, led3, f3⟩ | ⟨-, -, -, y, hy, hny⟩
    case inr => exact absurd ⟨y, led_more (fun z hz => (m23 z).2 hz) hy, hny⟩ led2.loose
    rcases he1 with ⟨sb1, fs1, rfl, rfl, rfl, led1, f1⟩ | ⟨-, -, -, y, hy, hny⟩
    case inr => exact absurd ⟨y, led_more m12 hy, hny⟩ led2.loose
    obtain ⟨hsub, hle⟩ := led1.sub (cn := cnOf os) led2 (fun y hy hw => .root (m12 y hy) hw)
    obtain ⟨hsm, heq⟩ := led2.same (cn := cnOf os) led3 m23
    have HSub := Lib.hid hsub
    have HSm := Lib.hid hsm
    obtain ⟨k1, hk1⟩ : ∃ k1, sumC (cnOf os) fs1 = k1 := ⟨_, rfl⟩
    obtain ⟨k2, hk2⟩ : ∃ k2, sumC (cnOf os) fs2 = k2 := ⟨_, rfl⟩
    rw [← heq, hk2, hk1]
    rw [hk1, hk2] at hle
    have hle' : ((k1 : Int) ≤ (k2 : Int)) := by omega
    have F1 := Lib.hid f1
    have F2 := Lib.hid f2
    have F3 := Lib.hid f3
    clear hk1 hk2 heq hle hsub hsm led1 led2 led3 m12 m23 f1 f2 f3 HT HU
    go_wp2_with fail
    refine (found_next (z := 0) (m := 0) F1.out HEn.out rfl).mono ?_
    rintro e w13 ⟨r, rfl, hnx, hb13⟩
    have G1 := Lib.hid (F1.out.below hb13)
    have G2 := Lib.hid (F2.out.below hb13)
    have G3 := Lib.hid (F3.out.below hb13)
    have HEg := Lib.hid (HEn.out.below hb13)
    have HB13 := Lib.hid (HB12.out.trans (hb13.mono HB12.out.size))
    have HNx := Lib.hid hnx
    clear hnx hb13 F1 F2 F3 HEn HB12
    go_wp2_with fail
    go_loopw [23] (fun v wx => ∃ (q : Nat) (r : Int), v = .int .i64 r ∧ Hid (NextF fs1 200 q r) ∧ Hid (Found wx sb1 200 fs1) ∧ Hid (Found wx sb2 200 fs2) ∧ Hid (Found wx sb3 200 fs3) ∧ Hid (EnvB wx) ∧ Hid (Below w.heap.size w wx)) (fun v _ => nxm 200 v)
    case atStart => exact ⟨0, r, rfl, HNx, G1, G2, G3, HEg, HB13⟩
    case round =>
      clear HNx G1 G2 G3 HEg HB13
      obtain ⟨q, r, rfl, HNx, G1, G2, G3, HEg, HB13⟩ := hrel
      rcases HNx.out with ⟨rfl, -⟩ | ⟨i, rfl, -, hi, hmem, -⟩
      · have hsa := found_same G2.out G3.out HSm.out
        go_wp2_with fail
        refine hsa.mono ?_
        rintro e w14 ⟨rfl, hb14⟩
        have HB14 := Lib.hid (HB13.out.trans (hb14.mono HB13.out.size))
        clear hb14 hsa
        go_wp2_with fail
        go_ret
        exact ⟨rfl, HB14.out⟩
      · have hin : 2 * i ∈ fs2 := HSub.out _ hmem
        have hh := found_has G2.out i
        rw [decide_eq_true hin] at hh
        clear hin hmem
        have hnx := found_next (z := (i : Int) + 1) (m := i + 1) G1.out HEg.out (by omega)
        go_wp2_with fail
        refine hh.mono ?_
        rintro e w' ⟨rfl, rfl⟩
        go_wp2_with fail
        refine hnx.mono ?_
        rintro e w9 ⟨r2, rfl, hn2, hb9⟩
        have K1 := Lib.hid (G1.out.below hb9)
        have K2 := Lib.hid (G2.out.below hb9)
        have K3 := Lib.hid (G3.out.below hb9)
        have KE := Lib.hid (HEg.out.below hb9)
        have KB := Lib.hid (HB13.out.trans (hb9.mono HB13.out.size))
        have HM := Lib.hid (nxm_lt hi hn2)
        have HN2 := Lib.hid hn2
        clear hb9 hn2 hnx hh
        go_wp2_with fail
        go_roundw
        case rel => exact ⟨_, r2, rfl, HN2, K1, K2, K3, KE, KB⟩
        case measure => exact HM.out
  · rcases hE3 with ⟨sb3, fs3, -, -, -, led3, -⟩ | ⟨rfl, rfl, rfl, -⟩
    case inl => exact absurd ⟨x, led_more (fun z hz => (m23 z).1 hz) hx, hnx⟩ led3.loose
    clear m12 m23 hx hnx
    rcases he1 with ⟨sb1, fs1, rfl, rfl, rfl, -, -⟩ | ⟨rfl, rfl, rfl, -⟩
    · go_wp2_with fail
      go_ret
      exact ⟨rfl, HB12.out⟩
    · go_wp2_with fail
      go_ret
      exact ⟨rfl, HB12.out⟩
theorem walk_MarkGrows (s : Option Addr) (len cap : Nat) (zs : List Int) (s' : Option Addr) (len' cap' : Nat) (zs' : List Int) (sA : Option Addr) (lenA capA : Nat) (zA : List Int) (sB : Option Addr) (lenB capB : Nat) (zB : List Int) (W : World) (h : IsRow .i64 W s len cap zs) (h' : IsRow .u64 W s' len' cap' zs') (hA : IsRow .u64 W sA lenA capA zA) (hB : IsRow .u64 W sB lenB capB zB) (he : EnvB W) :
    Calls Tryd.prog 4 #[.agg #[.slice s len cap, .slice s' len' cap'], .slice sA lenA capA, .slice sB lenB capB] W fun e w' => e = .returned (.bool true) ∧ Below W.heap.size W w' := by
  obtain ⟨cs, rfl, hlc, hcm, hr, _, hw⟩ := ints_row h
  obtain ⟨ls, rfl, hlc', hcm', hr', hlw⟩ := words_row h'
  obtain ⟨as', rfl, hlA, hcA, hrA, hwA⟩ := words_row hA
  obtain ⟨bs', rfl, hlB, hcB, hrB, hwB⟩ := words_row hB
  have hm : maxLen ≤ 9223372036854775807 := by unfold maxLen; omega
  exact grows_any s s' cs ls cap cap' sA sB as' bs' capA capB W hr hr' hlc (by omega) (by omega) hw hlw hrA hrB (by omega) (by omega) hwA hwB he
end Go.Proofs.YtkmlclhkkklmeaaDoor.Fl
