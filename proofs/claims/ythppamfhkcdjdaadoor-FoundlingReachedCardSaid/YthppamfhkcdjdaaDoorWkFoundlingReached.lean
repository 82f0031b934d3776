/-
  The walk of FoundlingReached.
-/
import Derived.Test.YthppamfhkcdjdaaDoorGStep
import Derived.Test.YthppamfhkcdjdaaDoorGHeap
import Derived.Test.YthppamfhkcdjdaaDoorLaidC
import Derived.Test.YthppamfhkcdjdaaDoorStand
import Derived.Test.YthppamfhkcdjdaaDoorPArgs
namespace Go.Proofs.YthppamfhkcdjdaaDoor.Fl
open Go.RowKit

section
variable {os : List Ob} {ws ws' fs : List Nat} {xs : List (Kx os fs)}
theorem cn_moved (hst : Stays os fs xs) {x : Nat} (hx : x ∈ fs) : cnOf (moved os (ksOf xs)) (goal os (ksOf xs) x) = cnOf os x := by
  obtain ⟨j, hj, rfl, e⟩ := kept_at hst.ks ((hst.kept x).1 hx)
  have hk := hst.ks.lt _ (List.getElem_mem hj)
  have hl : j < (moved os (ksOf xs)).length := by rw [moved_len hst.ks]; exact hj
  have hm := moved_get hst.ks hj
  rw [List.getElem?_eq_getElem hl] at hm
  injection hm with hm
  rw [e, cnOf_pos _ hl, cnOf_pos os hk, hm, turnO_len]
theorem sumC_map {cn cn' : Nat → Nat} {f : Nat → Nat} : ∀ {l : List Nat}, (∀ x ∈ l, cn' (f x) = cn x) → sumC cn' (l.map f) = sumC cn l
  | [], _ => rfl
  | x :: t, h => by rw [List.map_cons, sumC, sumC, h x (by simp), sumC_map (fun y hy => h y (by simp [hy]))]
theorem sumC_zero : ∀ l : List Nat, sumC (fun _ => 0) l = 2 * l.length
  | [] => rfl
  | x :: t => by rw [sumC, sumC_zero t, List.length_cons]; omega
theorem len_of_sub {a b : List Nat} (ha : a.Nodup) (h : ∀ x ∈ a, x ∈ b) : a.length ≤ b.length := by
  have := sumC_sub (fun _ => 0) a b ha h
  rw [sumC_zero, sumC_zero] at this
  omega
theorem Stays.len (hst : Stays os fs xs) (hn : fs.Nodup) : fs.length = xs.length := by
  have h1 : fs.length ≤ (xs.map fun x => 2 * pos os x.1).length := len_of_sub hn (fun x hx => by
    obtain ⟨i, hi, rfl⟩ := (hst.mem x).1 hx
    exact List.mem_map.2 ⟨i, hi, rfl⟩)
  have h2 : (xs.map fun x => 2 * pos os x.1).length ≤ fs.length := len_of_sub (List.pairwise_map.2 (hst.up.imp fun {a b} hab e => by
    have := pos_lt os hab (Nat.le_of_lt b.2.1); omega)) (fun x hx => by
    obtain ⟨i, hi, rfl⟩ := List.mem_map.1 hx
    exact i.2.2)
  rw [List.length_map] at h1 h2
  omega
theorem Found0.map {rs fs0 fp : List Nat} {S : Nat → List Nat × Nat} {T : Nat} {gl : Nat → Nat} {K : Nat → Prop} {os' : List Ob} (h : Found0 os ws rs fs0 S T fp) (hm : Moves gl K (ldOf os) (ldOf os') ws ws') (hr : ∀ x ∈ rs, isW x → K x) :
    Found0 os' ws' (rs.map gl) (fs0.map gl) (fun t => ((S t).1.map gl, (S t).2)) T (fp.map gl) ∧ ∀ p ∈ fp, K p := by
  obtain ⟨f1, f2⟩ := hm.findL (fs := []) (fun p hp => by cases hp) hr h.find
  obtain ⟨g1, g2⟩ := hm.waves f2 h.waves
  rw [h.all] at g2
  have e : ((S T).1.map gl) = fp.map gl := by rw [h.all]
  exact ⟨⟨f1, g1, e, by rw [← e]; exact g1.isLed f1⟩, g2⟩
/-- in as many steps, behind a collection -/
theorem steps_both {rs fs0 : List Nat} {S : Nat → List Nat × Nat} {T : Nat} {gl : Nat → Nat} {K : Nat → Prop} {os' : List Ob} {w : World} {base g gc cap gb gb2 size last : Nat} (hO : ObsAt w base g gc cap gb gb2 size last os ws) (h : Found0 os ws rs fs0 S T fs) (hm : Moves gl K (ldOf os) (ldOf os') ws ws') (hK : ∀ p ∈ fs, K p) (hP : ∀ p ∈ fs, isP ws' (gl p)) {p q : Nat} (hp : p ∈ fs) (hq : q ∈ fs) :
    ∃ n z : Int, (∀ (w : World) (base g gc cap gb gb2 size last : Nat), ObsAt w base g gc cap gb gb2 size last os ws → Calls Tryd.prog 24 #[.pointer (some ⟨g, 0, none⟩), .int .u64 (p : Int), .int .u64 (q : Int)] w (StPost n z w)) ∧
      ∀ (w : World) (base g gc cap gb gb2 size last : Nat), ObsAt w base g gc cap gb gb2 size last os' ws' → Calls Tryd.prog 24 #[.pointer (some ⟨g, 0, none⟩), .int .u64 (gl p : Int), .int .u64 (gl q : Int)] w (StPost n z w) := by
  rcases find_total (rs := [p]) hO with ⟨fs1, S1, T1, fp, hF⟩ | ⟨hno, _⟩
  case inr => exact absurd hno (h.led.tight hp)
  obtain ⟨hF', hKp⟩ := hF.map hm (fun x hx _ => by rw [List.mem_singleton] at hx; subst hx; exact hK _ hp)
  obtain ⟨n, z, hnz, hold⟩ := steps_obs hF (h.led.good.2 p hp) (h.led.good.2 q hq)
  obtain ⟨n', z', hnz', hnew⟩ := steps_obs hF' (hP p hp) (hP q hq)
  have hmem : ∀ t, t ≤ T1 → (gl q ∈ ((S1 t).1.map gl) ↔ q ∈ (S1 t).1) := fun t ht => hm.mem (fun y hy => hKp y (by
    obtain ⟨r, hr⟩ := hF.waves.mono (t := t) (T1 - t) (by omega)
    rw [show t + (T1 - t) = T1 by omega, hF.all] at hr
    rw [hr]
    exact List.mem_append_left _ hy)) (hK q hq)
  have hall : gl q ∈ fp.map gl ↔ q ∈ fp := hm.mem hKp (hK q hq)
  have key : n = n' ∧ z = z' := by
    rcases hnz with ⟨rfl, M, rfl, h1, h2⟩ | ⟨rfl, rfl, h1⟩
    · have hin : q ∈ fp := by rw [← hF.all]; exact (h2 T1 (Nat.le_refl _)).2 (by omega)
      rcases hnz' with ⟨rfl, M', rfl, h1', h2'⟩ | ⟨rfl, rfl, h1'⟩
      · have a := (h2' M (by omega)).1 ((hmem M (by omega)).2 ((h2 M (by omega)).2 (Nat.le_refl _)))
        have b := (h2 M' (by omega)).1 ((hmem M' (by omega)).1 ((h2' M' (by omega)).2 (Nat.le_refl _)))
        exact ⟨by omega, rfl⟩
      · exact absurd (hall.2 hin) h1'
    · rcases hnz' with ⟨rfl, M', rfl, h1', h2'⟩ | ⟨rfl, rfl, h1'⟩
      · have hin : gl q ∈ fp.map gl := by
          have e := hF'.all
          simp only at e
          rw [← e]
          exact (h2' T1 (Nat.le_refl _)).2 (by omega)
        exact absurd (hall.1 hin) h1
      · exact ⟨rfl, rfl⟩
  obtain ⟨rfl, rfl⟩ := key
  exact ⟨n, z, hold, hnew⟩
end
theorem rdw_two {w : World} {B : Nat} {A : Option Addr} {ws : List Nat} (h : Rd w B A (cw ws)) {i k : Nat} (hi : i < ws.length) (hk : k < ws.length) :
    ∃ b off, A = some ⟨b, off, none⟩ ∧ b < B ∧ w.cell? ⟨b, off + i, none⟩ = some (.int .u64 (ws[i] : Int)) ∧ w.cell? ⟨b, off + k, none⟩ = some (.int .u64 (ws[k] : Int)) := by
  obtain ⟨b, off, rfl, hb, h1⟩ := rdw_at h hi
  obtain ⟨b2, off2, e, _, h2⟩ := rdw_at h hk
  injection e with e
  injection e with e1 e2
  subst e1 e2
  exact ⟨b, off, rfl, hb, h1, h2⟩
theorem coll_len {f : FuncId} {args : Array Value} {base g size : Nat} {os' : List Ob} {rs : List Nat} {gl : Nat → Nat} {w : World} (h : Calls Tryd.prog f args w (CollPost base g size os' (rs.map gl) w)) :
    Calls Tryd.prog f args w fun e w' => ∃ A' c', e = .returned (.tuple #[.slice A' rs.length c', .int .i64 0]) ∧ Coll base g size os' (rs.map gl) A' w w' :=
  h.mono fun e w' ⟨A', c', he, hc⟩ => ⟨A', c', by rw [he, List.length_map], hc⟩
theorem ord_len {f : FuncId} {args : Array Value} {fs : List Nat} {gl : Nat → Nat} {w : World} (h : Calls Tryd.prog f args w (OrdPost (fs.map gl) w)) :
    Calls Tryd.prog f args w fun e w' => ∃ A c', e = .returned (.tuple #[.slice A fs.length c', .int .i64 0]) ∧ Rd w' w'.heap.size A (cw (fs.map gl)) ∧ Below w.heap.size w w' :=
  h.mono fun e w' ⟨A, c', he, hr, _, hb⟩ => ⟨A, c', by rw [he, List.length_map], hr, hb⟩
/-- what stands behind the collection: both memories, both orders -/
structure RchS (w0 w : World) (baseA gA baseB gB : Nat) (os os' : List Ob) (ws ws' od nw : List Nat) (A B : Option Addr) : Prop where
  a : ∃ gc cap gb gb2, ObsAt w baseA gA gc cap gb gb2 200 0 os ws
  b : ∃ gc cap gb gb2, ObsAt w baseB gB gc cap gb gb2 200 0 os' ws'
  ra : Rd w w.heap.size A (cw od)
  rb : Rd w w.heap.size B (cw nw)
  bas : baseB ≤ w.heap.size
  bel : Below w0.heap.size w0 w
theorem RchS.below {w0 w w' : World} {baseA gA baseB gB : Nat} {os os' : List Ob} {ws ws' od nw : List Nat} {A B : Option Addr} (h : RchS w0 w baseA gA baseB gB os os' ws ws' od nw A B) (hb : Below w.heap.size w w') : RchS w0 w' baseA gA baseB gB os os' ws ws' od nw A B := by
  obtain ⟨_, _, _, _, ha⟩ := h.a
  obtain ⟨_, _, _, _, hbb⟩ := h.b
  exact ⟨⟨_, _, _, _, ha.below hb⟩, ⟨_, _, _, _, hbb.below hb⟩, (h.ra.below hb (Nat.le_refl _)).more hb.size, (h.rb.below hb (Nat.le_refl _)).more hb.size, Nat.le_trans h.bas hb.size, h.bel.trans (hb.mono h.bel.size)⟩
set_option maxRecDepth 100000 in
set_option maxHeartbeats 8000000 in
theorem freached_any (AK AL : Option Addr) (zs : List Int) (ls : List Nat) (ck cL : Nat) (AA : Option Addr) (av : List Nat) (cA : Nat) (w : World) (hk : Rd w w.heap.size AK (zs.map (Value.int .i64))) (hl : Rd w w.heap.size AL (cw ls)) (hkl : zs.length ≤ ck) (hck : ck ≤ 9223372036854775807) (hll : ls.length ≤ 9223372036854775807)
    (hkw : ∀ z ∈ zs, (Lit.int .i64 z).wf = true) (hlw : ∀ x ∈ ls, x < 18446744073709551616) (hra : Rd w w.heap.size AA (cw av)) (hal : av.length ≤ 9223372036854775807) (haw : ∀ x ∈ av, x < 18446744073709551616) (he : EnvB w) :
    Calls Tryd.prog 5 #[.agg #[.slice AK zs.length ck, .slice AL ls.length cL], .slice AA av.length cA] w fun e w' => e = .returned (.bool true) ∧ Below w.heap.size w w' := by
  have HK := Lib.hid hk
  have HL := Lib.hid hl
  have HC := Lib.hid (And.intro hkl (And.intro hck hll))
  have HKW := Lib.hid hkw
  have HLW := Lib.hid hlw
  have HRA := Lib.hid hra
  have HAL := Lib.hid hal
  have HAW := Lib.hid haw
  clear hk hl hkl hck hll hkw hlw hra hal haw
  go_enter Tryd.func5, Tryd.ntmps5
  go_wp2_with fail
  obtain ⟨w1, hw1⟩ : ∃ w1, w.alloc (.cells #[.slice AK zs.length ck, .slice AL ls.length cL] 25) = w1 := ⟨_, rfl⟩
  have hb0 : Below w.heap.size w w1 := by rw [← hw1]; exact (Below.refl _ _).alloc (Nat.le_refl _) _
  have hl1 := lay_any AK AL zs ls ck cL w1 (HK.out.below hb0 (Nat.le_refl _) |>.more hb0.size) (HL.out.below hb0 (Nat.le_refl _) |>.more hb0.size) HC.out.1 HC.out.2.1 HC.out.2.2 HKW.out HLW.out
  have HB1 := Lib.hid hb0
  rw [hw1]
  clear hb0 hw1
  refine hl1.mono ?_
  rintro e w2 ⟨lo, base, g, gc, cap, gb, gb2, c, A, ws, os, j, rfl, hL, hok, hj⟩
  have HB2 := Lib.hid (HB1.out.trans (hL.below.mono HB1.out.size))
  have HLd := Lib.hid hL
  have HS1 := Lib.hid HB1.out.size
  have HOk := Lib.hid hok
  clear hl1 hL hok hj HK HL HC HKW HLW
  go_wp2_with fail
  obtain ⟨w3, hw3⟩ : ∃ w3, w2.alloc (.cells #[.int .i64 200, .slice A os.length c, .int .u32 0] 31) = w3 := ⟨_, rfl⟩
  have hb3 : Below w2.heap.size w2 w3 := by rw [← hw3]; exact (Below.refl _ _).alloc (Nat.le_refl _) _
  have HB3 := Lib.hid (HB2.out.trans (hb3.mono HB2.out.size))
  have HO3 := Lib.hid (HLd.out.obs.below hb3)
  have HD3 := Lib.hid (HLd.out.doc.below hb3)
  have HBa : Hid (base ≤ w2.heap.size ∧ w.heap.size ≤ base) := Lib.hid ⟨Nat.le_of_lt (Nat.lt_of_le_of_lt HLd.out.obs.heap.bg HLd.out.obs.heap.gl.1), Nat.le_trans HS1.out HLd.out.base⟩
  have HB23 := Lib.hid hb3.size
  have hro := roots_any 200 0 c cA av w3 HD3.out hb3.size HO3.out.len ((HRA.out.below HB3.out (Nat.le_refl _)).more HB3.out.size) HAL.out HAW.out
  have HX := Lib.hid (rootL_lt HO3.out.len HAW.out)
  have HXl := Lib.hid (rootL_len os av)
  generalize rootL os av = rs at hro HX HXl
  rw [hw3]
  clear hb3 HLd hw3 HRA HAL HAW HD3
  refine hro.mono ?_
  rintro e w4 ⟨A1, c1, A2, c2, rfl, hr1, -, hn1, hb4⟩
  have HB4 := Lib.hid (HB3.out.trans (hb4.mono HB3.out.size))
  have HO4 := Lib.hid (HO3.out.below hb4)
  have HE4 := Lib.hid (he.below HB4.out)
  have HR4 := Lib.hid hr1
  have HN4 := Lib.hid hn1
  have HBa4 : Hid (base ≤ w4.heap.size) := Lib.hid (by have := HBa.out.1; have := HB23.out; have := hb4.size; omega)
  have hrl9 : rs.length ≤ 9223372036854775807 := by have := HXl.out; omega
  clear hro hb4 hr1 hn1 HO3 HB3 HB23 HB2 HB1 HS1 he
  rcases find_total (rs := rs) HO4.out with ⟨fs0, S, T, fs, hF⟩ | ⟨_, hno⟩
  case inr =>
    have hli := live_no rs A1 c1 w4 (hno w4 A1 c1 HO4.out HR4.out HX.out hrl9)
    have HNo := Lib.hid hno
    clear hno
    go_wp2_with fail
    refine hli.mono ?_
    rintro e w5 ⟨rfl, hb5⟩
    have HB5 := Lib.hid (HB4.out.trans (hb5.mono HB4.out.size))
    have HO5 := Lib.hid (HO4.out.below hb5)
    have HR5 := Lib.hid ((HR4.out.below hb5 (Nat.le_refl _)).more hb5.size)
    have hcl := hclone_any w5 HO5.out
    clear hli hb5 HB4 HO4 HR4
    go_wp2_with fail
    refine hcl.mono ?_
    rintro e w6 ⟨g', gc', cap', gb', gb2', rfl, hob6, hb6⟩
    have HB6 := Lib.hid (HB5.out.trans (hb6.mono HB5.out.size))
    have HO6 := Lib.hid (HO5.out.below hb6)
    have HC6 := Lib.hid hob6
    have HR6 := Lib.hid ((HR5.out.below hb6 (Nat.le_refl _)).more hb6.size)
    have hor := order_of_all rs A1 c1 w6 (HNo.out w6 A1 c1 HO6.out HR6.out HX.out hrl9)
    clear hcl hb6 hob6 HB5 HO5 HR5
    go_wp2_with fail
    refine hor.mono ?_
    rintro e w7 ⟨rfl, hb7⟩
    have HB7 := Lib.hid (HB6.out.trans (hb7.mono HB6.out.size))
    have HO7 := Lib.hid (HO6.out.below hb7)
    have HC7 := Lib.hid (HC6.out.below hb7)
    have HR7 := Lib.hid ((HR6.out.below hb7 (Nat.le_refl _)).more hb7.size)
    have hco := collect_no rs A1 c1 w7 (HNo.out w7 A1 c1 HO7.out HR7.out HX.out hrl9)
    clear hor hb7 HB6 HO6 HC6 HR6
    go_wp2_with fail
    refine hco.mono ?_
    rintro e w8 ⟨rfl, hb8⟩
    have HB8 := Lib.hid (HB7.out.trans (hb8.mono HB7.out.size))
    have hsa := hsame_any w8 (HO7.out.below hb8) (HC7.out.below hb8)
    clear hco hb8 HB7 HO7 HC7 HR7
    go_wp2_with fail
    refine hsa.mono ?_
    rintro e w9 ⟨rfl, hb9⟩
    have HB9 := Lib.hid (HB8.out.trans (hb9.mono HB8.out.size))
    clear hsa hb9 HB8
    go_wp2_with fail
    go_ret
    exact ⟨rfl, HB9.out⟩
  have HF := Lib.hid hF
  clear hF
  have hst := stays_of HO4.out.isP HF.out.led.good
  obtain ⟨xs, hxs⟩ : ∃ xs, stayX os fs os.length = xs := ⟨_, rfl⟩
  rw [hxs] at hst
  clear hxs
  have hL200 : (Lof os).length ≤ 200 := HO4.out.heap.room
  have hsum : sumC (cnOf os) fs = (flat (sub os (ksOf xs))).length := sum_kept hst.ks HF.out.led.good.1 hst.kept
  have hle := Lof_sub_le hst
  have hfl : (Lof (sub os (ksOf xs))).length = (flat (sub os (ksOf xs))).length + 2 := rfl
  have hli := live_any rs A1 c1 w4 HO4.out HR4.out HX.out hrl9 HF.out (by omega)
  have HSt := Lib.hid hst
  obtain ⟨n, hn⟩ : ∃ n, sumC (cnOf os) fs = n := ⟨_, rfl⟩
  rw [hn] at hli
  have HN := Lib.hid hn
  have HSum := Lib.hid hsum
  have HFl := Lib.hid hfl
  have hn200 : n ≤ 200 := by omega
  clear hst hsum hfl hn hle
  go_wp2_with fail
  refine hli.mono ?_
  rintro e w5 ⟨rfl, hb5⟩
  have HB5 := Lib.hid (HB4.out.trans (hb5.mono HB4.out.size))
  have HO5 := Lib.hid (HO4.out.below hb5)
  have HE5 := Lib.hid (HE4.out.below hb5)
  have HR5 := Lib.hid ((HR4.out.below hb5 (Nat.le_refl _)).more hb5.size)
  have HBa5 : Hid (base ≤ w5.heap.size) := Lib.hid (Nat.le_trans HBa4.out hb5.size)
  have hcl := hclone_any w5 HO5.out
  clear hli hb5 HB4 HO4 HR4 HE4 HBa4
  go_wp2_with fail
  refine hcl.mono ?_
  rintro e w6 ⟨g', gc', cap', gb', gb2', rfl, hob6, hb6⟩
  have HB6 := Lib.hid (HB5.out.trans (hb6.mono HB5.out.size))
  have HO6 := Lib.hid (HO5.out.below hb6)
  have HE6 := Lib.hid (HE5.out.below hb6)
  have HC6 := Lib.hid hob6
  have HR6 := Lib.hid ((HR5.out.below hb6 (Nat.le_refl _)).more hb6.size)
  have HBa6 : Hid (base ≤ w6.heap.size) := Lib.hid (Nat.le_trans HBa5.out hb6.size)
  have HGg : Hid (g < w5.heap.size) := Lib.hid HO5.out.heap.gl.1
  have hor := order_any rs A1 c1 w6 HO6.out.graph.leads HO6.out.heap HR6.out HX.out hrl9 HF.out.find HF.out.waves
  rw [HF.out.all] at hor
  clear hcl hb6 hob6 HB5 HO5 HR5 HE5 HBa5
  go_wp2_with fail
  refine hor.mono ?_
  rintro e w7 ⟨A7, c7, rfl, hr7, -, hb7⟩
  have HB7 := Lib.hid (HB6.out.trans (hb7.mono HB6.out.size))
  have HO7 := Lib.hid (HO6.out.below hb7)
  have HE7 := Lib.hid (HE6.out.below hb7)
  have HC7 := Lib.hid (HC6.out.below hb7)
  have HR7 := Lib.hid ((HR6.out.below hb7 (Nat.le_refl _)).more hb7.size)
  have HBa7 : Hid (base ≤ w7.heap.size) := Lib.hid (Nat.le_trans HBa6.out hb7.size)
  have HD7 := Lib.hid hr7
  have hco := collect_any rs A1 c1 w7 HO7.out HE7.out HBa7.out (by decide) HR7.out HN4.out HX.out (by have := HXl.out; omega) HF.out.find HF.out.waves HF.out.all HSt.out HF.out.closed (fun x hx hw => HF.out.roots x hx hw) (by omega) (laid_pos HOk.out HO7.out.ok) (laid_clean HOk.out).1 (laid_clean HOk.out).2
  clear hor hb7 hr7 HB6 HO6 HC6 HR6 HE6 HBa6
  go_wp2_with fail
  refine (coll_len hco).mono ?_
  rintro e w8 ⟨A8, c8, rfl, hC⟩
  obtain ⟨⟨gcm, capm, gbm, gbm2, ws', hM⟩, hrd8, -, hch⟩ := hC
  obtain ⟨gl, hgl⟩ : ∃ gl, goal os (ksOf xs) = gl := ⟨_, rfl⟩
  obtain ⟨fs2, S2, hF2⟩ : ∃ fs2 S2, Found0 (moved os (ksOf xs)) ws' (rs.map gl) fs2 S2 T (fs.map gl) := ⟨_, _, by rw [← hgl]; exact (HF.out.moved HSt.out hM.isP).1⟩
  have hmv := (HF.out.moved HSt.out hM.isP).2
  have hK : ∀ p ∈ fs, Kept os (ksOf xs) p := fun p hp => (HSt.out.kept p).1 hp
  have hP : ∀ p ∈ fs, isP ws' (goal os (ksOf xs) p) := fun p hp => (hmv.ptr p (hK p hp)).2
  have HStp := Lib.hid (fun p (hp : p ∈ fs) q (hq : q ∈ fs) => steps_both HO7.out HF.out hmv hK hP hp hq)
  have hg64 : ∀ x ∈ rs.map (goal os (ksOf xs)), x < 18446744073709551616 := by
    intro x hx
    obtain ⟨y, hy, rfl⟩ := List.mem_map.1 hx
    by_cases hw : isW y
    · have := (hP y (HF.out.roots y hy hw)).2.2.1; omega
    · rw [goal_num y hw]; exact HX.out y hy
  have hsum2 : sumC (cnOf (moved os (ksOf xs))) (fs.map (goal os (ksOf xs))) = n := by
    rw [sumC_map (fun x hx => cn_moved HSt.out hx)]; exact HN.out
  have hlenM : (Lof (moved os (ksOf xs))).length = n + 2 := by
    have a1 := moved_len_le xs
    have a2 := HFl.out
    have a3 := HSum.out
    have a4 := HN.out
    omega
  have HLn : Hid ((moved os (ksOf xs)).length = fs.length) := Lib.hid (by rw [moved_len HSt.out.ks, HSt.out.len HF.out.led.good.1]; simp [ksOf])
  have hfs : fs.length ≤ 16777216 := by
    have := good_len HO7.out.heap HF.out.led.good
    have := HO7.out.heap.small
    omega
  have ha8 : ObsAt w8 w5.heap.size g' gc' cap' gb' gb2' 200 0 os ws := HC7.out.kept fun k cs T fr hk hx => by
    obtain ⟨_, _, r2, _⟩ := HC7.out.heap.row
    have b1 := HC7.out.heap.bg
    have b2 := HC7.out.heap.bb
    have b3 := HC7.out.heap.bb2
    have b4 := HGg.out
    have hne : k ≠ g := by rcases hx with rfl | rfl | rfl | rfl <;> omega
    exact hch.block k (lt_of_block hk) hne hne
  have hb8 : Below w.heap.size w w8 := by
    have h1 := HB7.out
    have b0 := HO7.out.heap.bg
    have b1 := HBa.out.2
    have b2 := h1.size
    exact ⟨hch.os.trans h1.os, hch.tape.trans h1.tape, hch.output.trans h1.output, Nat.le_trans h1.size hch.size, fun k hk => (hch.block k (by omega) (by omega) (by omega)).trans (h1.block k hk)⟩
  have HD8 : Hid (Rd w8 w8.heap.size A7 (cw fs)) := Lib.hid ((HD7.out.heap HO7.out.heap.hd hch (Nat.le_refl _)).more hch.size)
  have HBa8 : Hid (base ≤ w8.heap.size) := Lib.hid (Nat.le_trans HBa7.out hch.size)
  rw [hgl] at hrd8 hg64 hsum2 HStp
  obtain ⟨M, hMe⟩ : ∃ M, moved os (ksOf xs) = M := ⟨_, rfl⟩
  rw [hMe] at hM hF2 hsum2 hlenM HLn HStp
  have hor : Calls Tryd.prog 12 #[.pointer (some ⟨g, 0, none⟩), .slice A8 rs.length c8] w8 (OrdPost (fs.map gl) w8) := by
    have h := order_any (rs.map gl) A8 c8 w8 hM.graph.leads hM.heap hrd8 hg64 (by rw [List.length_map]; exact hrl9) hF2.find hF2.waves
    rw [hF2.all, List.length_map] at h
    exact h
  have HM8 := Lib.hid hM
  have HA8 := Lib.hid ha8
  have HB8 := Lib.hid hb8
  have HF2 := Lib.hid hF2
  have HG64 := Lib.hid hg64
  have HS2 := Lib.hid hsum2
  have HL2 := Lib.hid hlenM
  have HR8 := Lib.hid hrd8
  clear hco hM hrd8 hch hmv hK hP hg64 hsum2 hlenM ha8 hb8 hF2 hgl hMe HB7 HO7 HE7 HC7 HR7 HBa7 HD7 HF HSt HSum HFl HGg HBa
  go_wp2_with fail
  refine (ord_len hor).mono ?_
  rintro e w9 ⟨A9, c9, rfl, hr9, hb9⟩
  have hm9 := HM8.out.below hb9
  have ha9 := HA8.out.below hb9
  have HR9 : Hid (RchS w w9 w5.heap.size g' base g os M ws ws' fs (fs.map gl) A7 A9) := Lib.hid ⟨⟨_, _, _, _, ha9⟩, ⟨_, _, _, _, hm9⟩, (HD8.out.below hb9 (Nat.le_refl _)).more hb9.size, hr9, Nat.le_trans HBa8.out hb9.size, HB8.out.trans (hb9.mono HB8.out.size)⟩
  have hus := used_any w9 hm9.heap
  rw [HL2.out, show ((n + 2 : Nat) : Int) = 2 + (n : Int) by omega] at hus
  have hcl1 := cellsH_any w9 hm9.heap
  have hcl2 := cellsH_any w9 ha9.heap
  have hrch : Calls Tryd.prog 23 #[.pointer (some ⟨g, 0, none⟩), .slice A8 rs.length c8] w9 (ReachPost w9 200 n ws' (fs.map gl)) := by
    have h := reach_any (rs.map gl) A8 c8 w9 hm9.graph hm9.heap ((HR8.out.below hb9 (Nat.le_refl _)).more hb9.size) HG64.out (by rw [List.length_map]; exact hrl9) HF2.out.find HF2.out.waves
    rw [HF2.out.all, List.length_map, HS2.out] at h
    exact h
  have HM9 := Lib.hid hm9
  have hne1 : ((fs.length : Int) != (fs.length : Int)) = false := by simp
  have hne2 : ((2 + (n : Int)) != 2 + (n : Int)) = false := by simp
  have hne3 : ((n : Int) != 2 + (n : Int) - 2) = false := by rw [bne_eq_false_iff_eq]; omega
  clear hor hb9 hr9 hm9 ha9 HM8 HA8 HB8 HD8 HBa8 HG64 HF2 HS2 HR8
  go_wp2_with (first
    | (go_at_call 21; (with_reducible refine hus.mono ?_); rintro e w' ⟨rfl, rfl⟩)
    | (go_at_call 22; (with_reducible refine hcl1.mono ?_); rintro e w' ⟨rfl, rfl⟩)
    | (go_at_call 22; (with_reducible refine hcl2.mono ?_); rintro e w' ⟨rfl, rfl⟩))
  refine hrch.mono ?_
  rintro e w10 ⟨sb, sb2, bs, rfl, -, -, -, -, -, hb10⟩
  have HR10 := Lib.hid (HR9.out.below hb10)
  have hus10 := used_any w10 (HM9.out.below hb10).heap
  rw [HL2.out, show ((n + 2 : Nat) : Int) = 2 + (n : Int) by omega] at hus10
  clear hus hcl1 hcl2 hrch hb10 HM9 HR9
  go_wp2_with (go_at_call 21; (with_reducible refine hus10.mono ?_); rintro e w' ⟨rfl, rfl⟩)
  clear hus10 hne1 hne2 hne3
  go_loopw [21] (fun v wr => ∃ i : Nat, i ≤ fs.length ∧ i ≤ 6 ∧ v = .int .i64 (i : Int) ∧ Hid (RchS w wr w5.heap.size g' base g os M ws ws' fs (fs.map gl) A7 A9)) (fun v _ => 6 - (intOf v).toNat)
  case atStart => exact ⟨0, Nat.zero_le _, by decide, rfl, HR10⟩
  case round =>
    clear HR10
    obtain ⟨i, hi1, hi2, rfl, HR⟩ := hrel
    by_cases hboth : i < fs.length ∧ i < 6
    · obtain ⟨hlt, h6⟩ := hboth
      go_wp2_with fail
      go_loopw [22] (fun v wx => ∃ k : Nat, k ≤ fs.length ∧ k ≤ 6 ∧ v = .int .i64 (k : Int) ∧ Hid (RchS w wx w5.heap.size g' base g os M ws ws' fs (fs.map gl) A7 A9)) (fun v _ => 6 - (intOf v).toNat)
      case atStart => exact ⟨0, Nat.zero_le _, by decide, rfl, HR⟩
      case round =>
        clear HR
        obtain ⟨k, hk1, hk2, rfl, HR⟩ := hrel
        by_cases hbk : k < fs.length ∧ k < 6
        · obtain ⟨hkl, hk6⟩ := hbk
          obtain ⟨nn, zz, hs1, hs2⟩ := HStp.out _ (List.getElem_mem hlt) _ (List.getElem_mem hkl)
          obtain ⟨b1, o1, rfl, hb1, c1, c2⟩ := rdw_two HR.out.ra hlt hkl
          obtain ⟨b2, o2, rfl, hb2, c3, c4⟩ := rdw_two HR.out.rb (i := i) (k := k) (by rw [List.length_map]; exact hlt) (by rw [List.length_map]; exact hkl)
          rw [List.getElem_map] at c3 c4
          have hs24 := fun (y : Grow wr) => (show ∃ gc cap gb gb2, ObsAt y.w w5.heap.size g' gc cap gb gb2 200 0 os ws by obtain ⟨_, _, _, _, h⟩ := HR.out.a; exact ⟨_, _, _, _, h.below y.below⟩).elim fun _ h => h.elim fun _ h => h.elim fun _ h => h.elim fun _ h => hs1 y.w _ _ _ _ _ _ _ _ h
          have hs25 : ∀ w', Below wr.heap.size wr w' → Calls Tryd.prog 24 #[.pointer (some ⟨g, 0, none⟩), .int .u64 (gl fs[i] : Int), .int .u64 (gl fs[k] : Int)] w' (StPost nn zz w') := fun w' hb => by
            obtain ⟨_, _, _, _, h⟩ := HR.out.b
            exact hs2 w' _ _ _ _ _ _ _ _ (h.below hb)
          have HS24 := Lib.hid hs24
          have HS25 := Lib.hid hs25
          clear hs1 hs2 hs24 hs25
          generalize fs[i] = p at *
          generalize fs[k] = q at *
          go_wp2_with fail
          have hx := fun (y : Grow wr) => y.cell
          refine wp_region_grow (by kernel_rfl) (by kernel_rfl) ?_
          repeat (go_big_quiet_step ((go_at_call 24; exact Grow.call _ (HS24.out _))))
          refine wpQuiet_nil ?_
          intro _ hw'
          obtain ⟨x, rfl⟩ := hw'
          have c3' := (x.cell b2 (o2 + i) hb2).trans c3
          have c4' := (x.cell b2 (o2 + k) hb2).trans c4
          have hb2' := Nat.lt_of_lt_of_le hb2 x.size
          have hs26 : ∀ y : Grow x.w, Calls Tryd.prog 24 #[.pointer (some ⟨g, 0, none⟩), .int .u64 (gl p : Int), .int .u64 (gl q : Int)] y.w (StPost nn zz y.w) := fun y => HS25.out y.w (x.below.trans (y.below.mono x.size))
          have HS26 := Lib.hid hs26
          have HR2 := Lib.hid (HR.out.below x.below)
          clear hx c1 c2 c3 c4 hb1 hb2 HS24 HS25 hs26 HR
          go_wp2_with fail
          have hx := fun (y : Grow x.w) => y.cell
          refine wp_region_grow (by kernel_rfl) (by kernel_rfl) ?_
          repeat (go_big_quiet_step ((go_at_call 24; exact Grow.call _ (HS26.out _))))
          refine wpQuiet_nil ?_
          intro _ hw'
          obtain ⟨x2, rfl⟩ := hw'
          have HR3 := Lib.hid (HR2.out.below x2.below)
          have hn1 : (nn != nn) = false := by simp
          have hn2 : (zz != zz) = false := by simp
          clear hx c3' c4' hb2' HS26 HR2
          go_wp2_with fail
          go_roundw
          case rel => exact ⟨k + 1, by omega, by omega, by simp, HR3⟩
          case measure => simp [intOf]; omega
        · by_cases hkl : k < fs.length
          · go_wp2_with fail
            go_roundw
            case rel => exact ⟨i + 1, by omega, by omega, by simp, HR⟩
            case measure => simp [intOf]; omega
          · go_wp2_with fail
            go_roundw
            case rel => exact ⟨i + 1, by omega, by omega, by simp, HR⟩
            case measure => simp [intOf]; omega
    · have key : ∀ (P : Prop), (i < fs.length → ¬ i < 6 → P) → (¬ i < fs.length → P) → P := fun P h1 h2 => by
        by_cases h : i < fs.length
        · exact h1 h (fun h3 => hboth ⟨h, h3⟩)
        · exact h2 h
      apply key
      all_goals
        intros
        clear key hboth
        go_wp2_with fail
        obtain ⟨_, _, _, _, hb11⟩ := HR.out.b
        refine (ofirst_any hb11).mono ?_
        rintro e w' ⟨rfl, rfl⟩
        clear hb11
        go_wp2_with fail
        go_loopw [27, 28] (fun v p wx => ∃ k : Nat, k ≤ M.length ∧ v = .int .i64 (k : Int) ∧ p = .int .u64 (standK M k : Int) ∧ Hid (RchS w wx w5.heap.size g' base g os M ws ws' fs (fs.map gl) A7 A9)) (fun _ p _ => leftK M p)
        case atStart => exact ⟨0, Nat.zero_le _, rfl, rfl, HR⟩
        case round =>
          clear HR
          obtain ⟨k, hk1, rfl, rfl, HR⟩ := hrel
          obtain ⟨_, _, _, _, hbo⟩ := HR.out.b
          have hML := HLn.out
          by_cases hlt : k < M.length
          · have haf := oafter_any hlt HR.out.bas hbo
            have hne : ((standK M k : Int) != 0) = true := by rw [standK_lt hlt]; have := pos_two M k; simp; omega
            rw [show (pos M k : Int) * 2 = (standK M k : Int) by rw [standK_lt hlt]; omega] at haf
            have hkf : k < fs.length := by omega
            have HMs := Lib.hid (leftK_step hlt)
            have HLt := Lib.hid hlt
            clear hML hlt hk1 hbo
            go_wp2_with fail
            refine haf.mono ?_
            rintro e w12 ⟨rfl, hb12⟩
            have HR12 := Lib.hid (HR.out.below hb12)
            clear hb12 haf
            go_wp2_with fail
            go_roundw
            case rel => exact ⟨k + 1, HLt.out, by simp, rfl, HR12⟩
            case measure => exact HMs.out
          · have hz : (standK M k : Int) = 0 := by rw [standK_end (by omega)]; rfl
            have hkf : k = fs.length := by omega
            subst hkf
            rw [hz]
            have he2 : ((fs.length : Int) == (fs.length : Int)) = true := by simp
            clear hz hML hlt hk1 hbo
            go_wp2_with fail
            go_ret
            exact ⟨rfl, HR.out.bel⟩
theorem walk_FoundlingReached (s : Option Addr) (len cap : Nat) (zs : List Int) (s' : Option Addr) (len' cap' : Nat) (zs' : List Int) (sA : Option Addr) (lenA capA : Nat) (zA : List Int) (W : World) (h : IsRow .i64 W s len cap zs) (h' : IsRow .u64 W s' len' cap' zs') (hA : IsRow .u64 W sA lenA capA zA) (he : EnvB W) :
    Calls Tryd.prog 5 #[.agg #[.slice s len cap, .slice s' len' cap'], .slice sA lenA capA] W fun e w' => e = .returned (.bool true) ∧ Below W.heap.size W w' := by
  obtain ⟨cs, rfl, hlc, hcm, hr, _, hw⟩ := ints_row h
  obtain ⟨ls, rfl, hlc', hcm', hr', hlw⟩ := words_row h'
  obtain ⟨as', rfl, hlA, hcA, hrA, hwA⟩ := words_row hA
  have hm : maxLen ≤ 9223372036854775807 := by unfold maxLen; omega
  exact freached_any s s' cs ls cap cap' sA as' capA W hr hr' hlc (by omega) (by omega) hw hlw hrA (by omega) hwA he
end Go.Proofs.YthppamfhkcdjdaaDoor.Fl
