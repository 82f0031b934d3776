/-
  The walk of GcSame.
-/
import Derived.Test.YthppamfhkcdjdaaDoorGPlace
import Derived.Test.YthppamfhkcdjdaaDoorGRunB
import Derived.Test.YthppamfhkcdjdaaDoorGAw
import Derived.Test.YthppamfhkcdjdaaDoorLaidC
import Derived.Test.YthppamfhkcdjdaaDoorStand
import Derived.Test.YthppamfhkcdjdaaDoorClosed
import Derived.Test.YthppamfhkcdjdaaDoorPArgs
import Derived.Test.YthppamfhkcdjdaaDoorPGColl
namespace Go.Proofs.YthppamfhkcdjdaaDoor.Fl
open Go.RowKit Go.Maps

/-- a store into a map of the call's own, at a step of a region that draws -/
theorem step_map_u {w : World} {B n : Nat} {D : DataW Unit} {ops : Array Oper} {o : Oper} {a : Act} {K : Act → World → Prop} {Q : Exit → Act → World → Prop} {E : Prop} (hg : o.guard = none) (m x v : Operand) (hop : o.op = Op.mapUpdate 42 m x v)
    (hm : a.eval m = .map (some B)) (hown : w.ownsMap Tryd.prog 43 (plainElem Tryd.prog 3) B n D) (hn : n < maxLen) {y z : Nat} {yv : Int} (hyv : yv = (y : Int)) (hx : a.eval x = .int .u64 yv) (hv : a.eval v = .int .i64 (z : Int)) (hy : y < 18446744073709551616) (hz : z ≤ 9223372036854775807)
    (h : ∀ w', w'.ownsMap Tryd.prog 43 (plainElem Tryd.prog 3) B (n + 1) (D.put (.int .u64 (y : Int)) (.lit (.int .i64 (z : Int)))) → w.grownBy w' (some B) → K (a.put o.dst undef) w') :
    if Region.wanted o (yielded ops a.tmps) = true then Oper.wp Tryd.prog o a w K Q else E := by
  have hw : Region.wanted o (yielded ops a.tmps) = true := by simp [Region.wanted, hg]
  rw [if_pos hw]
  subst hyv
  obtain ⟨w', hrun, r1, r2⟩ := hown.update keyedU Tryd.underlying42 hn (keyU hy) (val := .int .i64 (z : Int)) (ps := []) (plainElem_int Tryd.underlying3 (WalkArith.wf_i64 (by omega)))
  unfold Oper.wp
  simp [execOp, hop, hm, hx, hv, hrun, Result.andThen]
  exact h w' r1 r2
theorem coll_len2 {f : FuncId} {args : Array Value} {base g size : Nat} {os' : List Ob} {rs : List Nat} {gl : Nat → Nat} {w : World} (h : Calls Tryd.prog f args w (CollPost base g size os' (rs.map gl) w)) :
    Calls Tryd.prog f args w fun e w' => ∃ A' c', e = .returned (.tuple #[.slice A' rs.length c', .int .i64 0]) ∧ Coll base g size os' (rs.map gl) A' w w' :=
  h.mono fun e w' ⟨A', c', he, hc⟩ => ⟨A', c', by rw [he, List.length_map], hc⟩
theorem ord_len2 {f : FuncId} {args : Array Value} {fs : List Nat} {gl : Nat → Nat} {w : World} (h : Calls Tryd.prog f args w (OrdPost (fs.map gl) w)) :
    Calls Tryd.prog f args w fun e w' => ∃ A c', e = .returned (.tuple #[.slice A fs.length c', .int .i64 0]) ∧ Rd w' w'.heap.size A (cw (fs.map gl)) ∧ Below w.heap.size w w' :=
  h.mono fun e w' ⟨A, c', he, hr, _, hb⟩ => ⟨A, c', by rw [he, List.length_map], hr, hb⟩
/-- what stands while the law compares -/
structure GsS (w0 w : World) (lo base g S6 Bo c cO c9 : Nat) (A AO A9 : Option Addr) (os M : List Ob) (ws' ks ow : List Nat) : Prop where
  obs : ∃ gc cap gb gb2, ObsAt w base g gc cap gb gb2 200 0 M ws'
  doc : DocAt w lo w.heap.size A os
  box : w.heap[S6]? = some (.cells #[.int .i64 200, .slice A os.length c, .int .u32 0] 31 (0, 0))
  ord : w.ownsRow 0 3 1 (.slice AO ks.length cO) ks.length (iv ks)
  ob : w.heap[Bo]? = some (.cells #[.slice A9 ks.length c9] 34 (0, 0))
  row : Rd w w.heap.size A9 (cw ow)
  bel : Below w0.heap.size w0 w
theorem cell_block {w : World} {b o : Nat} {v : Value} (h : w.cell? ⟨b, o, none⟩ = some v) : ∃ cs T fr, w.heap[b]? = some (Obj.cells cs T fr) := by
  cases hb : w.heap[b]? with
  | none => simp [World.cell?, hb] at h
  | some x =>
    cases x with
    | cells cs T fr => exact ⟨cs, T, fr, rfl⟩
    | _ => simp [World.cell?, hb] at h
theorem Rd.kept {w w' : World} {B : Nat} {A : Option Addr} {vs : List Value} (h : Rd w B A vs) (hk : ∀ (k : Nat) cs T fr, w.heap[k]? = some (Obj.cells cs T fr) → w'.heap[k]? = w.heap[k]?) : Rd w' B A vs := by
  rcases h with h | ⟨b, off, e, hb, hc⟩
  · exact .inl h
  · refine .inr ⟨b, off, e, hb, fun j v hj => ?_⟩
    have h1 := hc j v hj
    obtain ⟨cs, T, fr, h2⟩ := cell_block h1
    exact (World.cell?_of_block (a := ⟨b, off + j, none⟩) (hk _ _ _ _ h2)).trans h1
theorem GsS.keep {w0 w w' : World} {lo base g S6 Bo c cO c9 : Nat} {A AO A9 : Option Addr} {os M : List Ob} {ws' ks ow : List Nat} (h : GsS w0 w lo base g S6 Bo c cO c9 A AO A9 os M ws' ks ow) (hk : ∀ (k : Nat) cs T fr, w.heap[k]? = some (Obj.cells cs T fr) → w'.heap[k]? = w.heap[k]?) (hs : w.heap.size ≤ w'.heap.size) (hb : Below w0.heap.size w0 w') : GsS w0 w' lo base g S6 Bo c cO c9 A AO A9 os M ws' ks ow := by
  obtain ⟨_, _, _, _, ho⟩ := h.obs
  obtain ⟨cur, hg, _⟩ := ho.heap.row
  obtain ⟨c1, hb1⟩ := ho.heap.bits.hd
  obtain ⟨cu, hb2, _⟩ := ho.heap.bits.wd
  exact ⟨⟨_, _, _, _, ⟨ho.heap.at_ (hk _ _ _ _ ho.heap.hd) (hk _ _ _ _ hg) (hk _ _ _ _ hb1) (hk _ _ _ _ hb2), ho.set, ho.ok⟩⟩, (h.doc.keepD fun T b cur _ _ _ hc => hk _ _ _ _ hc).more hs, (hk _ _ _ _ h.box).trans h.box, row_at h.ord fun b cur hc => hk _ _ _ _ hc, (hk _ _ _ _ h.ob).trans h.ob, (h.row.kept hk).more hs, hb⟩
theorem GsS.below {w0 w w' : World} {lo base g S6 Bo c cO c9 : Nat} {A AO A9 : Option Addr} {os M : List Ob} {ws' ks ow : List Nat} (h : GsS w0 w lo base g S6 Bo c cO c9 A AO A9 os M ws' ks ow) (hb : Below w.heap.size w w') : GsS w0 w' lo base g S6 Bo c cO c9 A AO A9 os M ws' ks ow :=
  h.keep (fun k cs T fr hc => hb.block k (lt_of_block hc)) hb.size (h.bel.trans (hb.mono h.bel.size))
theorem GsS.map {w0 w w' : World} {lo base g S6 Bo c cO c9 B n : Nat} {A AO A9 : Option Addr} {os M : List Ob} {ws' ks ow : List Nat} {D : DataW Unit} (h : GsS w0 w lo base g S6 Bo c cO c9 A AO A9 os M ws' ks ow) (hm : w.ownsMap Tryd.prog 43 (plainElem Tryd.prog 3) B n D) (hB : w0.heap.size ≤ B) (hg : w.grownBy w' (some B)) : GsS w0 w' lo base g S6 Bo c cO c9 A AO A9 os M ws' ks ow :=
  h.keep (fun k cs T fr hc => hg.block k (lt_of_block hc) (fun e => by
    injection e with e
    subst e
    obtain ⟨es, cl, hm2, _⟩ := hm
    rw [hc] at hm2
    cases hm2)) hg.size (h.bel.grown hg h.bel.size (fun k hk => by injection hk with hk; omega))
/-- the map, and the variable that holds it -/
structure GsM (w : World) (B Bp n : Nat) (os : List Ob) (ks : List Nat) (D : DataW Unit) : Prop where
  own : w.ownsMap Tryd.prog 43 (plainElem Tryd.prog 3) B n D
  box : w.heap[Bp]? = some (.cells #[.map (some B)] 42 (0, 0))
  pl : PlI os ks n D
theorem GsM.below {w w' : World} {B Bp n : Nat} {os : List Ob} {ks : List Nat} {D : DataW Unit} (h : GsM w B Bp n os ks D) (hb : Below w.heap.size w w') : GsM w' B Bp n os ks D := by
  have hl := h.own.lt
  obtain ⟨es, cl, h1, h2⟩ := h.own
  exact ⟨⟨es, cl, (hb.block _ hl).trans h1, h2⟩, (hb.block _ (lt_of_block h.box)).trans h.box, h.pl⟩
theorem grown_undrew {w w' : World} {r : Option Nat} (h : w.drew.grownBy w' r) : w.grownBy w' r := ⟨h.os, h.tape, h.output, h.size, h.block⟩
theorem grown_cells {w w' : World} {B n : Nat} {D : DataW Unit} (hm : w.ownsMap Tryd.prog 43 (plainElem Tryd.prog 3) B n D) (hg : w.grownBy w' (some B)) (k : Nat) (cs : Array Value) (T : TypeId) (fr) (hc : w.heap[k]? = some (Obj.cells cs T fr)) : w'.heap[k]? = w.heap[k]? :=
  hg.block k (lt_of_block hc) (fun e => by
    injection e with e
    subst e
    obtain ⟨es, cl, hm2, _⟩ := hm
    rw [hc] at hm2
    cases hm2)
theorem rdw_in {w : World} {B b off : Nat} {ws : List Nat} (h : Rd w B (some ⟨b, off, none⟩) (cw ws)) {k : Nat} (hk : k < ws.length) : b < B ∧ w.cell? ⟨b, off + k, none⟩ = some (.int .u64 (ws[k] : Int)) := by
  obtain ⟨b', off', e, hb, hc⟩ := rdw_at h hk
  injection e with e
  injection e with e1 e2
  subst e1 e2
  exact ⟨hb, hc⟩
section
variable {os : List Ob} {ks : List Nat} {xs : List (Kx os (PP os ks))}
theorem gs_obj (hst : Stays os (PP os ks) xs) {k : Nat} (hm : k ∈ ks) (hk : k < os.length) : ∃ j, ∃ hj : j < (moved os (ksOf xs)).length, goal os (ksOf xs) (2 * pos os k) = 2 * pos (moved os (ksOf xs)) j ∧ (moved os (ksOf xs))[j] = turnO (goal os (ksOf xs)) os[k] := by
  obtain ⟨j, hj, e1, e2⟩ := kept_at hst.ks ((hst.kept _).1 (List.mem_map.2 ⟨k, hm, rfl⟩))
  have hl := hst.ks.lt _ (List.getElem_mem hj)
  have hk2 : k = (ksOf xs)[j] := pos_inj os hk hl (by omega)
  have hj2 : j < (moved os (ksOf xs)).length := by rw [moved_len hst.ks]; exact hj
  have hg := moved_get hst.ks hj
  rw [List.getElem?_eq_getElem hj2] at hg
  injection hg with hg
  refine ⟨j, hj2, e2, ?_⟩
  rw [hg]
  congr 1
  simp only [hk2]
def GHead (gl : Nat → Nat) (o : Ob) (w : World) (e : Ending) (w' : World) : Prop := e = .returned (.tuple #[.agg #[.int .u64 (gl o.cl : Int), .int .i64 (o.kind : Int), .int .i64 (o.sz : Int), .int .u32 (o.hash : Int), .bool o.mark], .int .i64 0]) ∧ Below w.heap.size w w'
def GGet (x : Nat) (w : World) (e : Ending) (w' : World) : Prop := e = .returned (.tuple #[.int .u64 (x : Int), .int .i64 0]) ∧ Below w.heap.size w w'
theorem gs_head {w : World} {base g gc cap gb gb2 : Nat} {ws' : List Nat} (hst : Stays os (PP os ks) xs) {k : Nat} (hm : k ∈ ks) (hk : k < os.length) (h : ObsAt w base g gc cap gb gb2 200 0 (moved os (ksOf xs)) ws') :
    Calls Tryd.prog 14 #[.pointer (some ⟨g, 0, none⟩), .int .u64 (goal os (ksOf xs) (2 * pos os k) : Int)] w (GHead (goal os (ksOf xs)) os[k] w) := by
  obtain ⟨j, hj, e1, e2⟩ := gs_obj hst hm hk
  have hh := ohead_any hj h
  rw [standK_lt hj, ← e1] at hh
  unfold CHead at hh
  rw [e2] at hh
  exact hh
theorem gs_get {w : World} {base g gc cap gb gb2 : Nat} {ws' : List Nat} (hst : Stays os (PP os ks) xs) {k q : Nat} (hm : k ∈ ks) (hk : k < os.length) (h : ObsAt w base g gc cap gb gb2 200 0 (moved os (ksOf xs)) ws') (hq : q < os[k].words.length) :
    Calls Tryd.prog 15 #[.pointer (some ⟨g, 0, none⟩), .int .u64 (goal os (ksOf xs) (2 * pos os k) : Int), .int .i64 (q : Int)] w (GGet (goal os (ksOf xs) os[k].words[q]) w) := by
  obtain ⟨j, hj, e1, e2⟩ := gs_obj hst hm hk
  have h2 : os[k].kind ≠ 2 := fun e => by unfold Ob.words at hq; rw [if_pos e] at hq; simp at hq
  have hw : os[k].words = os[k].xs := by unfold Ob.words; rw [if_neg h2]
  have hx : ((moved os (ksOf xs))[j]).xs = os[k].xs.map (goal os (ksOf xs)) := by
    rw [e2]; unfold turnO; exact if_neg h2
  have hq2 : q < ((moved os (ksOf xs))[j]).xs.length := by rw [hx, List.length_map, ← hw]; exact hq
  have hh := oget_any hj h (by rw [e2]; exact h2) hq2
  rw [standK_lt hj, ← e1] at hh
  have e3 : ((moved os (ksOf xs))[j]).xs[q] = goal os (ksOf xs) os[k].words[q] := by
    simp only [hx, List.getElem_map, hw]
  rw [e3] at hh
  exact hh
theorem gs_same {w0 w : World} {lo base g S6 Bo c cO c9 B Bp : Nat} {A AO A9 : Option Addr} {M : List Ob} {ws' : List Nat} {D : DataW Unit} {gl : Nat → Nat} (hG : GsS w0 w lo base g S6 Bo c cO c9 A AO A9 os M ws' ks ((PP os ks).map gl)) (hM : GsM w B Bp ks.length os ks D) {z : Nat} (hz : isW z → z ∈ PP os ks) (hn : ¬ isW z → gl z = z) (hks : ks.length ≤ 16777216) (hz64 : z < 18446744073709551616) :
    Calls Tryd.prog 13 #[.int .u64 (gl z : Int), .int .u64 (z : Int), .pointer (some ⟨Bp, 0, none⟩), .pointer (some ⟨Bo, 0, none⟩)] w fun e w' => e = .returned (.bool true) ∧ Below w.heap.size w w' := by
  have hS : SameW w Bp Bo B ks.length c9 ks D A9 ((PP os ks).map gl) := ⟨(one_cellW hM.box).1, (one_cellW hG.ob).1, ⟨lt_of_block hM.box, lt_of_block hG.ob⟩, hM.own, hG.row⟩
  by_cases hw : isW z
  · obtain ⟨k, hk, e⟩ := List.mem_map.1 (hz hw)
    obtain ⟨i, hi, rfl⟩ := List.mem_iff_getElem.1 hk
    exact same6_in hS hM.pl hi e hz64 hks
  · have h1 := same6_out hS hM.pl (y := z) (fun i hi e => hw (by have := pos_two os ks[i]; unfold isW; omega)) hz64
    rw [hn hw]
    exact h1
end
set_option maxRecDepth 100000 in
set_option maxHeartbeats 8000000 in
theorem gsame_any (AK AL : Option Addr) (zs : List Int) (ls : List Nat) (ck cL : Nat) (AA : Option Addr) (av : List Nat) (cA : Nat) (w : World) (hk : Rd w w.heap.size AK (zs.map (Value.int .i64))) (hl : Rd w w.heap.size AL (cw ls)) (hkl : zs.length ≤ ck) (hck : ck ≤ 9223372036854775807) (hll : ls.length ≤ 9223372036854775807)
    (hkw : ∀ z ∈ zs, (Lit.int .i64 z).wf = true) (hlw : ∀ x ∈ ls, x < 18446744073709551616) (hra : Rd w w.heap.size AA (cw av)) (hal : av.length ≤ 9223372036854775807) (haw : ∀ x ∈ av, x < 18446744073709551616) (he : EnvB w) :
    Calls Tryd.prog 3 #[.agg #[.slice AK zs.length ck, .slice AL ls.length cL], .slice AA av.length cA] w fun e w' => e = .returned (.bool true) ∧ Below w.heap.size w w' := by
  have HK := Lib.hid hk
  have HL := Lib.hid hl
  have HC := Lib.hid (And.intro hkl (And.intro hck hll))
  have HKW := Lib.hid hkw
  have HLW := Lib.hid hlw
  have HRA := Lib.hid hra
  have HAL := Lib.hid hal
  have HAW := Lib.hid haw
  have HE0 := Lib.hid he
  clear hk hl hkl hck hll hkw hlw hra hal haw he
  have haw6 := awake6_any (w.alloc (.cells #[.slice AK zs.length ck, .slice AL ls.length cL] 25)) (HE0.out.below ((Below.refl _ _).alloc (Nat.le_refl _) _))
  go_enter Tryd.func3, Tryd.ntmps3
  go_wp2_with fail
  refine haw6.mono ?_
  rintro e w1 ⟨rfl, hb1⟩
  have hb0 : Below w.heap.size w w1 := ((Below.refl _ _).alloc (Nat.le_refl _) _).trans (hb1.mono (by simp))
  have hG : w1.heap[w.heap.size]? = some (.cells #[.slice AK zs.length ck, .slice AL ls.length cL] 25 (0, 0)) := (hb1.block _ (by simp)).trans (heap_alloc_new w _)
  have hl1 := lay_any AK AL zs ls ck cL w1 (HK.out.below hb0 (Nat.le_refl _) |>.more hb0.size) (HL.out.below hb0 (Nat.le_refl _) |>.more hb0.size) HC.out.1 HC.out.2.1 HC.out.2.2 HKW.out HLW.out
  have HB1 := Lib.hid hb0
  have f1 := cells2 hG
  clear hb1 hb0 hG haw6
  go_wp2_with fail
  refine hl1.mono ?_
  rintro e w2 ⟨lo, base, g, gc, cap, gb, gb2, c, A, ws, os, j, rfl, hL, hok, hj⟩
  have HB2 := Lib.hid (HB1.out.trans (hL.below.mono HB1.out.size))
  have HLd := Lib.hid hL
  have HS1 := Lib.hid HB1.out.size
  have HOk := Lib.hid hok
  clear hl1 hL hok hj HK HL HC HKW HLW f1
  go_wp2_with fail
  obtain ⟨w3, hw3⟩ : ∃ w3, w2.alloc (.cells #[.int .i64 200, .slice A os.length c, .int .u32 0] 31) = w3 := ⟨_, rfl⟩
  have hb3 : Below w2.heap.size w2 w3 := by rw [← hw3]; exact (Below.refl _ _).alloc (Nat.le_refl _) _
  have HX3 : Hid (w3.heap[w2.heap.size]? = some (.cells #[.int .i64 200, .slice A os.length c, .int .u32 0] 31 (0, 0))) := Lib.hid (by rw [← hw3]; exact heap_alloc_new w2 _)
  have HB3 := Lib.hid (HB2.out.trans (hb3.mono HB2.out.size))
  have HO3 := Lib.hid (HLd.out.obs.below hb3)
  have HD3 := Lib.hid ((HLd.out.doc.below hb3).more hb3.size)
  have HBa : Hid (base ≤ w2.heap.size ∧ w.heap.size ≤ base ∧ g < lo ∧ w2.heap.size < w3.heap.size ∧ lo ≤ w2.heap.size) := Lib.hid ⟨Nat.le_of_lt (Nat.lt_of_le_of_lt HLd.out.obs.heap.bg HLd.out.obs.heap.gl.1), Nat.le_trans HS1.out HLd.out.base, HLd.out.lt.1, by rw [← hw3]; simp, HLd.out.lt.2.2.2⟩
  have hro := roots_any 200 0 c cA av w3 HD3.out (Nat.le_refl _) HO3.out.len ((HRA.out.below HB3.out (Nat.le_refl _)).more HB3.out.size) HAL.out HAW.out
  have HX := Lib.hid (rootL_lt HO3.out.len HAW.out)
  have HXl := Lib.hid (rootL_len os av)
  generalize rootL os av = rs at hro HX HXl
  have f3 := cells3 HX3.out
  rw [hw3]
  clear hb3 HLd hw3 HRA HAL HAW
  go_wp2_with fail
  refine hro.mono ?_
  rintro e w4 ⟨A1, c1, A2, c2, rfl, hr1, hr2, hn1, hb4⟩
  have HB4 := Lib.hid (HB3.out.trans (hb4.mono HB3.out.size))
  have HX4 := Lib.hid ((hb4.block _ HBa.out.2.2.2.1).trans HX3.out)
  have HO4 := Lib.hid (HO3.out.below hb4)
  have HD4 := Lib.hid ((HD3.out.below hb4).more hb4.size)
  have HE4 := Lib.hid (HE0.out.below HB4.out)
  have HR4 := Lib.hid hr1
  have HN4 := Lib.hid hn1
  have HBa4 : Hid (base ≤ w4.heap.size) := Lib.hid (by have := HBa.out.1; have := HBa.out.2.2.2.1; have := hb4.size; omega)
  have hrl9 : rs.length ≤ 9223372036854775807 := by have := HXl.out; omega
  have f4 := cells3 HX4.out
  have hod := rorder_any 200 0 c c2 A2 rs w4 HD4.out (Nat.le_refl _) HO4.out.len HO4.out.ok HO4.out.isP hr2 (by have := HXl.out; omega)
  clear hro hb4 hr1 hr2 hn1 HO3 HB3 HB2 HB1 HS1 HE0 HX3 HD3 f3
  go_wp2_with fail
  refine hod.mono ?_
  rintro e w5 (⟨v, rfl, hb5⟩ | ⟨ks, AO, cO, rfl, hro5, hnd, hlt, hrun, hb5⟩)
  · have HB5 := Lib.hid (HB4.out.trans (hb5.mono HB4.out.size))
    clear hod hb5 HB4 f4
    go_wp2_with fail
    go_ret
    exact ⟨rfl, HB5.out⟩
  have HB5 := Lib.hid (HB4.out.trans (hb5.mono HB4.out.size))
  have HX5 := Lib.hid ((hb5.block _ (lt_of_block HX4.out)).trans HX4.out)
  have HO5 := Lib.hid (HO4.out.below hb5)
  have HD5 := Lib.hid ((HD4.out.below hb5).more hb5.size)
  have HE5 := Lib.hid (HE4.out.below hb5)
  have HR5 := Lib.hid ((HR4.out.below hb5 (Nat.le_refl _)).more hb5.size)
  have HBa5 : Hid (base ≤ w5.heap.size) := Lib.hid (Nat.le_trans HBa4.out hb5.size)
  have HRo5 := Lib.hid hro5
  have HNd := Lib.hid hnd
  have HLt := Lib.hid hlt
  rcases find_total (rs := rs) HO5.out with ⟨fs0, S, T, fs, hF⟩ | ⟨⟨x, hx, hno⟩, _⟩
  case inr => exact absurd (order_led hrun hx) hno
  have hfs := order_is hF hrun
  subst hfs
  have HF := Lib.hid hF
  clear hod hb5 hro5 hnd hlt hrun hF HB4 HX4 HO4 HD4 HE4 HR4 HBa4 f4
  have hst := stays_of HO5.out.isP HF.out.led.good
  obtain ⟨xs, hxs⟩ : ∃ xs, stayX os (PP os ks) os.length = xs := ⟨_, rfl⟩
  rw [hxs] at hst
  clear hxs
  have hL200 : (Lof os).length ≤ 200 := HO5.out.heap.room
  have HSt := Lib.hid hst
  have hco := collect_any rs A1 c1 w5 HO5.out HE5.out HBa5.out (by decide) HR5.out HN4.out HX.out (by have := HXl.out; omega) HF.out.find HF.out.waves HF.out.all HSt.out HF.out.closed (fun x hx hw => HF.out.roots x hx hw) (by omega) (laid_pos HOk.out HO5.out.ok) (laid_clean HOk.out).1 (laid_clean HOk.out).2
  clear hst hL200
  go_wp2_with fail
  refine (coll_len2 hco).mono ?_
  rintro e w6 ⟨A6, c6, rfl, hC⟩
  obtain ⟨⟨gcm, capm, gbm, gbm2, ws', hM⟩, hrd6, -, hch⟩ := hC
  obtain ⟨gl, hgl⟩ : ∃ gl, goal os (ksOf xs) = gl := ⟨_, rfl⟩
  obtain ⟨fs2, S2, hF2⟩ : ∃ fs2 S2, Found0 (moved os (ksOf xs)) ws' (rs.map gl) fs2 S2 T ((PP os ks).map gl) := ⟨_, _, by rw [← hgl]; exact (HF.out.moved HSt.out hM.isP).1⟩
  have hmv := (HF.out.moved HSt.out hM.isP).2
  have hP : ∀ p ∈ PP os ks, isP ws' (goal os (ksOf xs) p) := fun p hp => (hmv.ptr p ((HSt.out.kept p).1 hp)).2
  have hg64 : ∀ x ∈ rs.map (goal os (ksOf xs)), x < 18446744073709551616 := by
    intro x hx
    obtain ⟨y, hy, rfl⟩ := List.mem_map.1 hx
    by_cases hw : isW y
    · have := (hP y (HF.out.roots y hy hw)).2.2.1; omega
    · rw [goal_num y hw]; exact HX.out y hy
  have hgne : g < w2.heap.size := by have := HBa.out.2.2.1; have := HBa.out.2.2.2.2; omega
  have hb6 : Below w.heap.size w w6 := by
    have h1 := HB5.out
    have b0 := HO5.out.heap.bg
    have b1 := HBa.out.2.1
    have b2 := h1.size
    exact ⟨hch.os.trans h1.os, hch.tape.trans h1.tape, hch.output.trans h1.output, Nat.le_trans h1.size hch.size, fun k hk => (hch.block k (by omega) (by omega) (by omega)).trans (h1.block k hk)⟩
  have hdoc6 : DocAt w6 lo w6.heap.size A os := (HD5.out.keepD fun T b cur _ hlo _ hc => by
    have h1 := HBa.out.2.2.1
    exact hch.block b (lt_of_block hc) (by omega) (by omega)).more hch.size
  have hbox6 := (hch.block _ (lt_of_block HX5.out) (by omega) (by omega)).trans HX5.out
  have hord6 := row_at HRo5.out fun b cur hc => by
    have hne : b ≠ g := fun e => by
      subst e
      have h1 := HO5.out.heap.hd
      rw [hc] at h1
      injection h1 with h1
      injection h1 with _ h1 _
      exact absurd h1 (by decide)
    exact hch.block b (lt_of_block hc) hne hne
  have hor : Calls Tryd.prog 12 #[.pointer (some ⟨g, 0, none⟩), .slice A6 rs.length c6] w6 (OrdPost ((PP os ks).map gl) w6) := by
    have h := order_any (rs.map gl) A6 c6 w6 hM.graph.leads hM.heap (by rw [← hgl]; exact hrd6) (by rw [← hgl]; exact hg64) (by rw [List.length_map]; exact hrl9) hF2.find hF2.waves
    rw [hF2.all, List.length_map] at h
    exact h
  have hor2 := ord_len2 hor
  rw [PP_len] at hor2
  have HM6 := Lib.hid hM
  have HD6 := Lib.hid hdoc6
  have HB6 := Lib.hid hb6
  have HX6 := Lib.hid hbox6
  have HR6 := Lib.hid hord6
  have HGl := Lib.hid hgl
  clear hco hM hrd6 hch hF2 hmv hP hg64 hgne hb6 hdoc6 hbox6 hord6 hor hgl HB5 HX5 HD5 HE5 HR5 HBa5 HRo5 HN4 HX HXl
  go_wp2_with fail
  refine hor2.mono ?_
  rintro e w7 ⟨A7, c7, rfl, hr7, hb7⟩
  go_upto_region 14 with fail
  have hmm := @run_makeMap Tryd.prog
  obtain ⟨w8, hw8⟩ : ∃ w8, w7.alloc (.cells #[.slice A7 ks.length c7] 34) = w8 := ⟨_, rfl⟩
  have hb8 : Below w6.heap.size w6 w8 := by rw [← hw8]; exact hb7.alloc hb7.size _
  have hob8 : w8.heap[w7.heap.size]? = some (.cells #[.slice A7 ks.length c7] 34 (0, 0)) := by rw [← hw8]; exact heap_alloc_new w7 _
  have hr8 : Rd w8 w8.heap.size A7 (cw ((PP os ks).map gl)) := by rw [← hw8]; exact (hr7.below ((Below.refl _ _).alloc (Nat.le_refl _) _) (Nat.le_refl _)).more (by simp)
  have HG8 : Hid (GsS w w8 lo base g w2.heap.size w7.heap.size c cO c7 A AO A7 os (moved os (ksOf xs)) ws' ks ((PP os ks).map gl)) := Lib.hid ⟨⟨_, _, _, _, HM6.out.below hb8⟩, (HD6.out.below hb8).more hb8.size, (hb8.block _ (lt_of_block HX6.out)).trans HX6.out, row_at HR6.out fun b cur hc => hb8.block b (lt_of_block hc), hob8, hr8, HB6.out.trans (hb8.mono HB6.out.size)⟩
  have f8 := one_cellW hob8
  have hne1 : ((ks.length : Int) != (ks.length : Int)) = false := by simp
  rw [hw8]
  obtain ⟨Bo, hBo⟩ : ∃ Bo, w7.heap.size = Bo := ⟨_, rfl⟩
  obtain ⟨S6, hS6⟩ : ∃ S6, w2.heap.size = S6 := ⟨_, rfl⟩
  have HS6 : Hid (w.heap.size ≤ S6) := Lib.hid (by have := HBa.out.1; have := HBa.out.2.1; omega)
  rw [hBo] at HG8 f8
  rw [hS6] at HG8
  rw [hBo, hS6]
  clear hor2 hr7 hb7 hw8 hb8 hob8 hr8 hBo hS6 HM6 HD6 HB6 HX6 HR6 HBa
  go_wp2_with fail
  obtain ⟨w10, hw10⟩ : ∃ w10, (w8.alloc (.map #[] 0)).alloc (.cells #[.map (some w8.heap.size)] 42) = w10 := ⟨_, rfl⟩
  have hb10 : Below w8.heap.size w8 w10 := by rw [← hw10]; exact ((Below.refl _ _).alloc (Nat.le_refl _) _).alloc (by simp) _
  have hM10 : GsM w10 w8.heap.size (w8.heap.size + 1) 0 os ks (.map []) := by
    rw [← hw10]
    have h1 := heap_alloc_new (w8.alloc (.map #[] 0)) (.cells #[.map (some w8.heap.size)] 42)
    rw [show (w8.alloc (.map #[] 0)).heap.size = w8.heap.size + 1 by simp] at h1
    exact ⟨(World.ownsMap_made w8 _ _ _).alloc _, h1, PlI.start os ks⟩
  have HG10 := Lib.hid (HG8.out.below hb10)
  have HM10 := Lib.hid hM10
  have HBw : Hid (w.heap.size ≤ w8.heap.size) := Lib.hid HG8.out.bel.size
  have hol : os.length ≤ 16777216 := by
    have h1 := pos_all os
    have h2 := pos_ge os (k := os.length) (Nat.le_refl _)
    have h3 := HO5.out.len
    omega
  have hLo : Hid (∀ k, k < os.length → pos os k ≤ 16777216) := Lib.hid (fun k hk => by have h1 := pos_top os hk; have h3 := HO5.out.len; omega)
  have hkl := ks_len HNd.out HLt.out
  rw [hw10]
  obtain ⟨B, hBe⟩ : ∃ B, w8.heap.size = B := ⟨_, rfl⟩
  rw [hBe] at HM10 HBw
  rw [hBe]
  clear hw10 hb10 hM10 HG8 f8 hmm hBe
  go_loopw [77] (fun v wr => ∃ (j : Nat) (D : DataW Unit), j ≤ ks.length ∧ v = .int .i64 (j : Int) ∧ Hid (GsS w wr lo base g S6 Bo c cO c7 A AO A7 os (moved os (ksOf xs)) ws' ks ((PP os ks).map gl)) ∧ Hid (GsM wr B (B + 1) j os ks D)) (fun v _ => ks.length - (intOf v).toNat)
  case atStart => exact ⟨0, .map [], Nat.zero_le _, rfl, HG10, HM10⟩
  case round =>
    clear HG10 HM10
    obtain ⟨j, D, hj, rfl, HG, HM⟩ := hrel
    by_cases hlt : j < ks.length
    · have hkm := HLt.out _ (List.getElem_mem hlt)
      obtain ⟨bo, oo, rfl, hbo, hco⟩ := (ownsRow_rd HG.out.ord).at_ (k := j) (by rw [iv_len]; exact hlt)
      rw [show (iv ks)[j]'(by rw [iv_len]; exact hlt) = .int .i64 (ks[j] : Int) by simp [iv]] at hco
      obtain ⟨bd, od, _, _, _, _, rfl, hbd, d0, -⟩ := HG.out.doc.at_ hkm
      have f6 := cells3 HG.out.box
      have fp := one_cellW HM.out.box
      have hP := hLo.out _ hkm
      have HPl := Lib.hid (HM.out.pl.step HM.out.own.isMap hlt HNd.out HLt.out)
      have hS6l := lt_of_block HG.out.box
      have hBpl := lt_of_block HM.out.box
      obtain ⟨P, hPe⟩ : ∃ P, pos os ks[j] = P := ⟨_, rfl⟩
      rw [hPe] at d0 hP HPl
      obtain ⟨km, hkme⟩ : ∃ km, ks[j] = km := ⟨_, rfl⟩
      rw [hkme] at d0 hco hkm
      clear hPe hkme
      go_wp2_with fail
      have hSx : ∀ w' : World, (∀ (k : Nat) cs T fr, wr.heap[k]? = some (Obj.cells cs T fr) → w'.heap[k]? = wr.heap[k]?) → (w'.cell? ⟨B + 1, 0, none⟩ = some (.map (some B)) ∧ w'.cell? ⟨S6, 1, none⟩ = some (.slice (some ⟨bd, od, none⟩) os.length c) ∧ w'.cell? ⟨bd, od + km * 8, none⟩ = some (.int .i64 (P : Int))) := fun w' hk => by
        obtain ⟨_, _, _, hc⟩ := cell_block d0
        exact ⟨(World.cell?_of_block (a := ⟨B + 1, 0, none⟩) (hk _ _ _ _ HM.out.box)).trans fp.1, (World.cell?_of_block (a := ⟨S6, 1, none⟩) (hk _ _ _ _ HG.out.box)).trans f6.2.1, (World.cell?_of_block (a := ⟨bd, od + km * 8, none⟩) (hk _ _ _ _ hc)).trans d0⟩
      have HSx := Lib.hid hSx
      clear hSx f6 fp d0 hco
      refine wp_region_noPanic ?_
      refine wp_region_held_drew (S := (fun w' : World => w'.cell? ⟨B + 1, 0, none⟩ = some (.map (some B)) ∧ w'.cell? ⟨S6, 1, none⟩ = some (.slice (some ⟨bd, od, none⟩) os.length c) ∧ w'.cell? ⟨bd, od + km * 8, none⟩ = some (.int .i64 (P : Int)))) (by kernel_rfl) (HSx.out _ (fun _ _ _ _ _ => rfl)) (fun hHeld => ?_)
      refine wpAnyH_take (i := 0) (v := ?_) (by first | (simp only [List.getElem?_toArray, List.getElem?_cons_succ, List.getElem?_cons_zero]; rfl) | rfl) (by kernel_rfl) (by kernel_rfl) (by kernel_rfl) (fun _ _ _ h => h) (Or.inl ⟨by rfl, ?_⟩) (by assumption) ?_
      rotate_left 1
      · (intro w' hSw; (try dsimp only at hSw); go_simp; (try with_reducible rfl))
      try simp only [Act.put, List.setIfInBounds_toArray, List.set_cons_zero, List.set_cons_succ]
      refine wpAnyH_take (i := 1) (v := ?_) (by first | (simp only [List.getElem?_toArray, List.getElem?_cons_succ, List.getElem?_cons_zero]; rfl) | rfl) (by kernel_rfl) (by kernel_rfl) (by kernel_rfl) (fun _ _ _ h => h) (Or.inl ⟨by rfl, ?_⟩) (by assumption) ?_
      rotate_left 1
      · (intro w' hSw; (try dsimp only at hSw); go_simp; (try with_reducible rfl))
      try simp only [Act.put, List.setIfInBounds_toArray, List.set_cons_zero, List.set_cons_succ]
      refine wpAnyH_take (i := 2) (v := ?_) (by first | (simp only [List.getElem?_toArray, List.getElem?_cons_succ, List.getElem?_cons_zero]; rfl) | rfl) (by kernel_rfl) (by kernel_rfl) (by kernel_rfl) (fun _ _ _ h => h) (Or.inl ⟨by rfl, ?_⟩) (by assumption) ?_
      rotate_left 1
      · (intro w' hSw; (try dsimp only at hSw); go_simp; (try with_reducible rfl))
      try simp only [Act.put, List.setIfInBounds_toArray, List.set_cons_zero, List.set_cons_succ]
      refine wpAnyH_take (i := 3) (v := ?_) (by first | (simp only [List.getElem?_toArray, List.getElem?_cons_succ, List.getElem?_cons_zero]; rfl) | rfl) (by kernel_rfl) (by kernel_rfl) (by kernel_rfl) (fun _ _ _ h => h) (Or.inl ⟨by rfl, ?_⟩) (by assumption) ?_
      rotate_left 1
      · (intro w' hSw; (try dsimp only at hSw); go_simp; (try with_reducible rfl))
      try simp only [Act.put, List.setIfInBounds_toArray, List.set_cons_zero, List.set_cons_succ]
      refine wpAnyH_take (i := 4) (v := ?_) (by first | (simp only [List.getElem?_toArray, List.getElem?_cons_succ, List.getElem?_cons_zero]; rfl) | rfl) (by kernel_rfl) (by kernel_rfl) (by kernel_rfl) (fun _ _ _ h => h) (Or.inl ⟨by rfl, ?_⟩) (by assumption) ?_
      rotate_left 1
      · (intro w' hSw; (try dsimp only at hSw); go_simp; (try with_reducible rfl))
      try simp only [Act.put, List.setIfInBounds_toArray, List.set_cons_zero, List.set_cons_succ]
      refine wpAnyH_take (i := 5) (v := ?_) (by first | (simp only [List.getElem?_toArray, List.getElem?_cons_succ, List.getElem?_cons_zero]; rfl) | rfl) (by kernel_rfl) (by kernel_rfl) (by kernel_rfl) (fun _ _ _ h => h) (Or.inl ⟨by rfl, ?_⟩) (by assumption) ?_
      rotate_left 1
      · (intro w' hSw; (try dsimp only at hSw); go_simp; (try with_reducible rfl))
      try simp only [Act.put, List.setIfInBounds_toArray, List.set_cons_zero, List.set_cons_succ]
      refine wpAnyH_take (i := 6) (v := ?_) (by first | (simp only [List.getElem?_toArray, List.getElem?_cons_succ, List.getElem?_cons_zero]; rfl) | rfl) (by kernel_rfl) (by kernel_rfl) (by kernel_rfl) (fun _ _ _ h => h) (Or.inl ⟨by rfl, ?_⟩) (by assumption) ?_
      rotate_left 1
      · (intro w' hSw; (try dsimp only at hSw); go_simp; (try with_reducible rfl))
      try simp only [Act.put, List.setIfInBounds_toArray, List.set_cons_zero, List.set_cons_succ]
      refine wpAnyH_take (i := 7) (v := ?_) (by first | (simp only [List.getElem?_toArray, List.getElem?_cons_succ, List.getElem?_cons_zero]; rfl) | rfl) (by kernel_rfl) (by kernel_rfl) (by kernel_rfl) (fun _ _ _ h => h) (Or.inl ⟨by rfl, ?_⟩) (by assumption) ?_
      rotate_left 1
      · (intro w' hSw; (try dsimp only at hSw); go_simp; (try with_reducible rfl))
      try simp only [Act.put, List.setIfInBounds_toArray, List.set_cons_zero, List.set_cons_succ]
      refine wpAnyH_take (i := 8) (v := ?_) (by first | (simp only [List.getElem?_toArray, List.getElem?_cons_succ, List.getElem?_cons_zero]; rfl) | rfl) (by kernel_rfl) (by kernel_rfl) (by kernel_rfl) (fun _ _ _ h => h) (Or.inl ⟨by rfl, ?_⟩) (by assumption) ?_
      rotate_left 1
      · (intro w' hSw; (try dsimp only at hSw); go_simp; (try with_reducible rfl))
      try simp only [Act.put, List.setIfInBounds_toArray, List.set_cons_zero, List.set_cons_succ]
      refine wpAnyH_take (i := 9) (v := ?_) (by first | (simp only [List.getElem?_toArray, List.getElem?_cons_succ, List.getElem?_cons_zero]; rfl) | rfl) (by kernel_rfl) (by kernel_rfl) (by kernel_rfl) (fun _ _ _ h => h) (Or.inl ⟨by rfl, ?_⟩) (by assumption) ?_
      rotate_left 1
      · (intro w' hSw; (try dsimp only at hSw); go_simp; (try with_reducible rfl))
      try simp only [Act.put, List.setIfInBounds_toArray, List.set_cons_zero, List.set_cons_succ]
      refine wpAnyH_ready (rs := [10]) (by kernel_rfl) (by simp) ?_
      refine AllReadyH.cons (by first | (simp only [List.getElem?_toArray, List.getElem?_cons_succ, List.getElem?_cons_zero]; rfl) | rfl) (fun K hK => ?_) AllReadyH.nil
      refine step_map_u (n := j) (D := D) (y := 2 * P) (z := j) rfl _ _ _ rfl rfl HM.out.own.drew (by unfold maxLen; omega) ?hyv rfl rfl (by omega) (by omega) ?_
      case hyv =>
        show IntKind.u64.wrap (2 * IntKind.u64.wrap (P : Int)) = ((2 * P : Nat) : Int)
        rw [IntWalk.u64_in (P : Int) (by omega), IntWalk.u64_in _ (by omega)]
        omega
      intro w7' hown' hgr'
      have hgr := grown_undrew hgr'
      have hcells := grown_cells HM.out.own hgr
      refine hK.out _ _ (HSx.out _ hcells) (fun hHeld => ?_)
      clear hK K
      try simp only [Act.put, List.setIfInBounds_toArray, List.set_cons_zero, List.set_cons_succ]
      refine wpAnyH_done (by kernel_rfl) ?_ _
      refine NoPanic.normal ?_
      have HM2 := Lib.hid (GsM.mk hown' ((hcells _ _ _ _ HM.out.box).trans HM.out.box) HPl.out)
      have HG2 := Lib.hid (HG.out.map HM.out.own HBw.out hgr)
      clear hgr' hgr hcells hown' hHeld HSx HG HM HPl
      go_wp2_with fail
      go_roundw
      case rel => exact ⟨j + 1, _, hlt, by simp, HG2, HM2⟩
      case measure => simp [intOf]; omega
    · have ej : j = ks.length := by omega
      subst ej
      clear hlt hj
      go_wp2_with fail
      have hst := HSt.out
      go_loopw [96] (fun v wr => ∃ (j : Nat), j ≤ ks.length ∧ v = .int .i64 (j : Int) ∧ Hid (GsS w wr lo base g S6 Bo c cO c7 A AO A7 os (moved os (ksOf xs)) ws' ks ((PP os ks).map gl)) ∧ Hid (GsM wr B (B + 1) ks.length os ks D)) (fun v _ => ks.length - (intOf v).toNat)
      case atStart => exact ⟨0, Nat.zero_le _, rfl, HG, HM⟩
      case round =>
        clear HG HM hst
        obtain ⟨j, hj, rfl, HG, HM⟩ := hrel
        by_cases hlt : j < ks.length
        · have hmem := List.getElem_mem hlt
          have hkm := HLt.out _ hmem
          obtain ⟨bo, oo, rfl, hbo, hco⟩ := (ownsRow_rd HG.out.ord).at_ (k := j) (by rw [iv_len]; exact hlt)
          rw [show (iv ks)[j]'(by rw [iv_len]; exact hlt) = .int .i64 (ks[j] : Int) by simp [iv]] at hco
          have hl7 : j < ((PP os ks).map gl).length := by rw [List.length_map, PP_len]; exact hlt
          obtain ⟨b7, o7, rfl, hb7, hc7⟩ := rdw_at HG.out.row hl7
          have e7 : ((PP os ks).map gl)[j] = gl (2 * pos os ks[j]) := by simp [PP]
          rw [e7] at hc7
          obtain ⟨bd, od, Aw, cA9, Ab, cB9, rfl, hbd, d0, d1, d2, d3, d4, d5, d6, d7, hwd, -⟩ := HG.out.doc.at_ hkm
          have f6 := cells3 HG.out.box
          have fo := (one_cellW HG.out.ob).1
          have hS6l := lt_of_block HG.out.box
          have hhd : Calls Tryd.prog 14 #[.pointer (some ⟨g, 0, none⟩), .int .u64 (gl (2 * pos os ks[j]) : Int)] wr (GHead gl os[ks[j]] wr) := by
            obtain ⟨_, _, _, _, h⟩ := HG.out.obs
            rw [← HGl.out]
            exact gs_head HSt.out hmem hkm h
          have hok := HO5.out.ok _ (List.getElem_mem hkm)
          have hled : ∀ y ∈ os[ks[j]].leads, isW y → y ∈ PP os ks := fun y hy hw => HF.out.closed _ hkm ((mem_PP hkm HLt.out).2 hmem) y hy hw
          have hnum : ∀ z, ¬ isW z → gl z = z := fun z hz => by rw [← HGl.out]; exact goal_num z hz
          have HW : Hid (∀ z ∈ os[ks[j]].words, (isW z → z ∈ PP os ks) ∧ (¬ isW z → gl z = z) ∧ z < 18446744073709551616) := Lib.hid fun z hz => ⟨fun hw => hled z (by rw [leads_words]; exact List.mem_cons_of_mem _ hz) hw, hnum z, by
            unfold Ob.words at hz
            split at hz
            · cases hz
            · exact hok.xlt z hz⟩
          have HC : Hid ((isW os[ks[j]].cl → os[ks[j]].cl ∈ PP os ks) ∧ (¬ isW os[ks[j]].cl → gl os[ks[j]].cl = os[ks[j]].cl) ∧ os[ks[j]].cl < 18446744073709551616) := Lib.hid ⟨fun hw => hled _ (by rw [leads_words]; exact List.mem_cons_self ..) hw, hnum _, hok.lt⟩
          have HGt := Lib.hid (fun (w' : World) (q : Nat) (hq : q < os[ks[j]].words.length) (h : ∃ gc cap gb gb2, ObsAt w' base g gc cap gb gb2 200 0 (moved os (ksOf xs)) ws') => (show Calls Tryd.prog 15 #[.pointer (some ⟨g, 0, none⟩), .int .u64 (gl (2 * pos os ks[j]) : Int), .int .i64 (q : Int)] w' (GGet (gl os[ks[j]].words[q]) w') by
            obtain ⟨_, _, _, _, h⟩ := h
            rw [← HGl.out]
            exact gs_get HSt.out hmem hkm h hq))
          have hwl : os[ks[j]].words.length ≤ 16777216 := by
            have h1 := pos_top os hkm
            have h2 : os[ks[j]].words.length ≤ os[ks[j]].xs.length := by unfold Ob.words; split <;> simp
            have h3 := HO5.out.len
            omega
          have hP := hLo.out _ hkm
          clear hok hled hnum
          obtain ⟨X7, hX7⟩ : ∃ X7, gl (2 * pos os ks[j]) = X7 := ⟨_, rfl⟩
          rw [hX7] at hc7 hhd HGt
          have HX7 := Lib.hid (e7.trans hX7)
          clear hX7 e7
          generalize os[ks[j]] = o at *
          generalize pos os ks[j] = P at *
          obtain ⟨km, hkme⟩ : ∃ km, ks[j] = km := ⟨_, rfl⟩
          rw [hkme] at d0 d1 d2 d3 d4 d5 d6 d7 hco hkm
          clear hkme hmem
          have HWd := Lib.hid hwd
          clear hwd
          go_wp2_with fail
          refine hhd.mono ?_
          rintro e w11 ⟨rfl, hb11⟩
          have e0 := (hb11.cell (p := ⟨bd, od + km * 8, none⟩) hbd).trans d0
          have e1 := (hb11.cell (p := ⟨bd, od + km * 8 + 1, none⟩) hbd).trans d1
          have e2 := (hb11.cell (p := ⟨bd, od + km * 8 + 2, none⟩) hbd).trans d2
          have e3 := (hb11.cell (p := ⟨bd, od + km * 8 + 3, none⟩) hbd).trans d3
          have e4 := (hb11.cell (p := ⟨bd, od + km * 8 + 4, none⟩) hbd).trans d4
          have e5 := (hb11.cell (p := ⟨bd, od + km * 8 + 5, none⟩) hbd).trans d5
          have e6 := (hb11.cell (p := ⟨bd, od + km * 8 + 6, none⟩) hbd).trans d6
          have e7 := (hb11.cell (p := ⟨bd, od + km * 8 + 7, none⟩) hbd).trans d7
          have hbd1 : bd < w11.heap.size := Nat.lt_of_lt_of_le hbd hb11.size
          have hS61 : S6 < w11.heap.size := Nat.lt_of_lt_of_le hS6l hb11.size
          have f61 := cells3 ((hb11.block _ hS6l).trans HG.out.box)
          have HB11 := Lib.hid hb11
          clear d0 d1 d2 d3 d4 d5 d6 d7 f6 fo hco hc7 hhd hbd hb11 hbo hb7
          go_upto_region 28 with fail
          obtain ⟨w12, hw12⟩ : ∃ w12, (w11.alloc (.cells #[.int .u64 (gl o.cl : Int), .int .i64 (o.kind : Int), .int .i64 (o.sz : Int), .int .u32 (o.hash : Int), .bool o.mark] 53)).alloc (.cells #[.int .i64 (P : Int), .int .u64 (o.cl : Int), .int .i64 (o.kind : Int), .int .i64 (o.sz : Int), .int .u32 (o.hash : Int), .bool o.mark, .slice Aw o.words.length cA9, .slice Ab o.bytes.length cB9] 48) = w12 := ⟨_, rfl⟩
          have hb12 : Below w11.heap.size w11 w12 := by rw [← hw12]; exact ((Below.refl _ _).alloc (Nat.le_refl _) _).alloc (by simp) _
          have hx12 : w12.heap[w11.heap.size]? = some (.cells #[.int .u64 (gl o.cl : Int), .int .i64 (o.kind : Int), .int .i64 (o.sz : Int), .int .u32 (o.hash : Int), .bool o.mark] 53 (0, 0)) := by rw [← hw12]; exact (heap_alloc_old _ _ (by simp)).trans (heap_alloc_new w11 _)
          have hy12 : w12.heap[w11.heap.size + 1]? = some (.cells #[.int .i64 (P : Int), .int .u64 (o.cl : Int), .int .i64 (o.kind : Int), .int .i64 (o.sz : Int), .int .u32 (o.hash : Int), .bool o.mark, .slice Aw o.words.length cA9, .slice Ab o.bytes.length cB9] 48 (0, 0)) := by
            rw [← hw12]
            have h1 := heap_alloc_new (w11.alloc (.cells #[.int .u64 (gl o.cl : Int), .int .i64 (o.kind : Int), .int .i64 (o.sz : Int), .int .u32 (o.hash : Int), .bool o.mark] 53)) (.cells #[.int .i64 (P : Int), .int .u64 (o.cl : Int), .int .i64 (o.kind : Int), .int .i64 (o.sz : Int), .int .u32 (o.hash : Int), .bool o.mark, .slice Aw o.words.length cA9, .slice Ab o.bytes.length cB9] 48)
            rw [show (w11.alloc (.cells #[.int .u64 (gl o.cl : Int), .int .i64 (o.kind : Int), .int .i64 (o.sz : Int), .int .u32 (o.hash : Int), .bool o.mark] 53)).heap.size = w11.heap.size + 1 by simp] at h1
            exact h1
          have hbb := HB11.out.trans (hb12.mono HB11.out.size)
          have HG12 := Lib.hid (HG.out.below hbb)
          have HM12 := Lib.hid (HM.out.below hbb)
          have HWd12 := Lib.hid ((HWd.out.below hbb (Nat.le_refl _)).more hbb.size)
          rw [hw12]
          obtain ⟨Hx, hHx⟩ : ∃ Hx, w11.heap.size = Hx := ⟨_, rfl⟩
          rw [hHx] at hx12 hy12
          rw [hHx]
          have HY12 := Lib.hid hy12
          have fx := cells5 hx12
          have fy := cells8 hy12
          have hsm := gs_same HG12.out HM12.out HC.out.1 HC.out.2.1 (by omega) HC.out.2.2
          clear hw12 hb12 hx12 hy12 hbb hHx e0 e1 e2 e3 e4 e5 e6 e7 hbd1 hS61 f61 HB11 HG HM HWd HC
          go_wp2_with fail
          refine hsm.mono ?_
          rintro e w13 ⟨rfl, hb13⟩
          have HG13 := Lib.hid (HG12.out.below hb13)
          have HM13 := Lib.hid (HM12.out.below hb13)
          have HY13 := Lib.hid ((hb13.block _ (lt_of_block HY12.out)).trans HY12.out)
          have HWd13 := Lib.hid ((HWd12.out.below hb13 (Nat.le_refl _)).more hb13.size)
          have fy := cells8 HY13.out
          clear hsm fx hb13 HG12 HM12 HY12 HWd12
          go_wp2_with fail
          clear fy
          go_loopw [146] (fun v wr => ∃ q : Nat, q ≤ o.words.length ∧ v = .int .i64 (q : Int) ∧ Hid (GsS w wr lo base g S6 Bo c cO c7 (some ⟨bd, od, none⟩) (some ⟨bo, oo, none⟩) (some ⟨b7, o7, none⟩) os (moved os (ksOf xs)) ws' ks ((PP os ks).map gl)) ∧ Hid (GsM wr B (B + 1) ks.length os ks D) ∧ Hid (wr.heap[Hx + 1]? = some (.cells #[.int .i64 (P : Int), .int .u64 (o.cl : Int), .int .i64 (o.kind : Int), .int .i64 (o.sz : Int), .int .u32 (o.hash : Int), .bool o.mark, .slice Aw o.words.length cA9, .slice Ab o.bytes.length cB9] 48 (0, 0))) ∧ Hid (Rd wr wr.heap.size Aw (cw o.words))) (fun v _ => o.words.length - (intOf v).toNat)
          case atStart => exact ⟨0, Nat.zero_le _, rfl, HG13, HM13, HY13, HWd13⟩
          case round =>
            clear HG13 HM13 HY13 HWd13
            obtain ⟨q, hq, rfl, HG, HM, HY, HWd⟩ := hrel
            by_cases hql : q < o.words.length
            · have fo := (one_cellW HG.out.ob).1
              have hBol := lt_of_block HG.out.ob
              obtain ⟨hb7, hc7⟩ := rdw_in HG.out.row hl7
              rw [HX7.out] at hc7
              have hget := HGt.out wr q hql HG.out.obs
              obtain ⟨ba, oa, rfl, hba, hca⟩ := rdw_at HWd.out hql
              have hz := HW.out _ (List.getElem_mem hql)
              obtain ⟨zq, hzq⟩ : ∃ zq, o.words[q] = zq := ⟨_, rfl⟩
              rw [hzq] at hget hca hz
              clear hzq
              have hsm := fun (w' : World) (hb : Below wr.heap.size wr w') => gs_same (HG.out.below hb) (HM.out.below hb) hz.1 hz.2.1 (by omega) hz.2.2
              have HSm := Lib.hid hsm
              clear hsm hz
              go_wp2_with fail
              refine hget.mono ?_
              rintro e w14 ⟨rfl, hb14⟩
              have HG14 := Lib.hid (HG.out.below hb14)
              have HM14 := Lib.hid (HM.out.below hb14)
              have HY14 := Lib.hid ((hb14.block _ (lt_of_block HY.out)).trans HY.out)
              have HWd14 := Lib.hid ((HWd.out.below hb14 (Nat.le_refl _)).more hb14.size)
              have hsm := HSm.out w14 hb14
              have fy := cells8 HY14.out
              have hca14 := (hb14.cell (p := ⟨ba, oa + q, none⟩) hba).trans hca
              clear hget fo hc7 hca hb14 HG HM HY HWd HSm hba hb7 hBol
              go_wp2_with fail
              refine hsm.mono ?_
              rintro e w15 ⟨rfl, hb15⟩
              have HG15 := Lib.hid (HG14.out.below hb15)
              have HM15 := Lib.hid (HM14.out.below hb15)
              have HY15 := Lib.hid ((hb15.block _ (lt_of_block HY14.out)).trans HY14.out)
              have HWd15 := Lib.hid ((HWd14.out.below hb15 (Nat.le_refl _)).more hb15.size)
              clear hsm fy hca14 hb15 HG14 HM14 HY14 HWd14
              go_wp2_with fail
              go_roundw
              case rel => exact ⟨q + 1, hql, by simp, HG15, HM15, HY15, HWd15⟩
              case measure => simp [intOf]; omega
            · clear HY HWd
              go_wp2_with fail
              go_roundw
              case rel => exact ⟨j + 1, hlt, by simp, HG, HM⟩
              case measure => simp [intOf]; omega
        · have HBl := Lib.hid HG.out.bel
          clear HG HM
          go_wp2_with fail
          go_ret
          exact ⟨rfl, HBl.out⟩
theorem walk_GcSame (s : Option Addr) (len cap : Nat) (zs : List Int) (s' : Option Addr) (len' cap' : Nat) (zs' : List Int) (sA : Option Addr) (lenA capA : Nat) (zA : List Int) (W : World) (h : IsRow .i64 W s len cap zs) (h' : IsRow .u64 W s' len' cap' zs') (hA : IsRow .u64 W sA lenA capA zA) (he : EnvB W) :
    Calls Tryd.prog 3 #[.agg #[.slice s len cap, .slice s' len' cap'], .slice sA lenA capA] W fun e w' => e = .returned (.bool true) ∧ Below W.heap.size W w' := by
  obtain ⟨cs, rfl, hlc, hcm, hr, _, hw⟩ := ints_row h
  obtain ⟨ls, rfl, hlc', hcm', hr', hlw⟩ := words_row h'
  obtain ⟨as', rfl, hlA, hcA, hrA, hwA⟩ := words_row hA
  have hm : maxLen ≤ 9223372036854775807 := by unfold maxLen; omega
  exact gsame_any s s' cs ls cap cap' sA as' capA W hr hr' hlc (by omega) (by omega) hw hlw hrA (by omega) hwA he
end Go.Proofs.YthppamfhkcdjdaaDoor.Fl
