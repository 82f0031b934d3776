/-
  The walk of FoundlingKept.
-/
import Derived.Test.YthppamfhkcdjdaaDoorPGColl
import Derived.Test.YthppamfhkcdjdaaDoorLaidC
import Derived.Test.YthppamfhkcdjdaaDoorDecodeB
import Derived.Test.YthppamfhkcdjdaaDoorPArgs
namespace Go.Proofs.YthppamfhkcdjdaaDoor.Fl
open Go.RowKit

/-- what stands between two steps -/
structure KeptS (w0 w : World) (base g : Nat) (os : List Ob) : Prop where
  obs : ∃ gc cap gb gb2 ws, ObsAt w base g gc cap gb gb2 200 0 os ws
  env : EnvB w
  bas : base ≤ w.heap.size
  bel : Below w0.heap.size w0 w
theorem Ch2.bel {g B : Nat} {w w' : World} (h : Ch2 g g w w') (hg : B ≤ g) (hB : B ≤ w.heap.size) : Below B w w' := ⟨h.os, h.tape, h.output, h.size, fun k hk => h.block k (by omega) (by omega) (by omega)⟩
theorem env_ch {g : Nat} {w w' : World} {size last gc n c gb : Nat} (h : EnvB w) (hd : w.heap[g]? = some (.cells #[.int .i64 (size : Int), .slice (some ⟨gc, 0, none⟩) n c, .pointer (some ⟨gb, 0, none⟩), .int .u32 (last : Int)] 101 (0, 0))) (hc : Ch2 g g w w') : EnvB w' := fun j hj => by
  have h0 := h j hj
  have hne : 0 ≠ g := fun e => by
    have h1 := h 0 (by decide)
    have hd' := hd
    rw [← e] at hd'
    rw [cell_of_row _ _ _ _ _ _ hd'] at h1
    simp at h1
  rw [World.cell?_of_block (a := ⟨0, j, none⟩) (hc.block _ h.lt hne hne)]
  exact h0
set_option maxRecDepth 100000 in
set_option maxHeartbeats 8000000 in
theorem fkept_any (AK AL : Option Addr) (zs : List Int) (ls : List Nat) (ck cL x : Nat) (z : Int) (w : World) (hk : Rd w w.heap.size AK (zs.map (Value.int .i64))) (hl : Rd w w.heap.size AL (cw ls)) (hkl : zs.length ≤ ck) (hck : ck ≤ 9223372036854775807) (hll : ls.length ≤ 9223372036854775807)
    (hkw : ∀ z ∈ zs, (Lit.int .i64 z).wf = true) (hlw : ∀ x ∈ ls, x < 18446744073709551616) (hx : x < 18446744073709551616) (he : EnvB w) :
    Calls Tryd.prog 6 #[.agg #[.slice AK zs.length ck, .slice AL ls.length cL], .int .u64 (x : Int), .int .i64 z] w fun e w' => e = .returned (.bool true) ∧ Below w.heap.size w w' := by
  have HK := Lib.hid hk
  have HL := Lib.hid hl
  have HC := Lib.hid (And.intro hkl (And.intro hck hll))
  have HKW := Lib.hid hkw
  have HLW := Lib.hid hlw
  have HX := Lib.hid hx
  clear hk hl hkl hck hll hkw hlw hx
  go_enter Tryd.func6, Tryd.ntmps6
  go_wp2_with fail
  obtain ⟨w1, hw1⟩ : ∃ w1, w.alloc (.cells #[.slice AK zs.length ck, .slice AL ls.length cL] 25) = w1 := ⟨_, rfl⟩
  have hb0 : Below w.heap.size w w1 := by rw [← hw1]; exact (Below.refl _ _).alloc (Nat.le_refl _) _
  have hl1 := lay_any AK AL zs ls ck cL w1 (HK.out.below hb0 (Nat.le_refl _) |>.more hb0.size) (HL.out.below hb0 (Nat.le_refl _) |>.more hb0.size) HC.out.1 HC.out.2.1 HC.out.2.2 HKW.out HLW.out
  have HB1 := Lib.hid hb0
  rw [hw1]
  clear hb0 hw1
  refine hl1.mono ?_
  rintro e w2 ⟨lo, base, g, gc, cap, gb, gb2, c, A, ws, os, j, rfl, hL, hok, hj⟩
  have HB2 := Lib.hid (HB1.out.trans (hL.below.mono HB1.out.size))
  have HLd := Lib.hid hL
  have HS1 := Lib.hid HB1.out.size
  have HOk := Lib.hid hok
  clear hl1 hL hok hj HK HL HC HKW HLW
  go_wp2_with fail
  obtain ⟨w3, hw3⟩ : ∃ w3, (w2.alloc (.cells #[.int .i64 200, .slice A os.length c, .int .u32 0] 31)).alloc (.cells #[.int .u64 (x : Int)] 43) = w3 := ⟨_, rfl⟩
  have hb3 : Below w2.heap.size w2 w3 := by rw [← hw3]; exact ((Below.refl _ _).alloc (Nat.le_refl _) _).alloc (by simp) _
  have hrd : Rd w3 w3.heap.size (some ⟨w2.heap.size + 1, 0, none⟩) (cw [x]) := by
    rw [← hw3]
    have := rd_block (heap_alloc_new (w2.alloc (.cells #[.int .i64 200, .slice A os.length c, .int .u32 0] 31)) (.cells #[.int .u64 (x : Int)] 43)) (B := w2.heap.size + 2) (by simp)
    simpa [cw] using this
  have hro := roots_any 200 0 c 1 [x] w3 (HLd.out.doc.below hb3) hb3.size HLd.out.obs.len hrd (by simp) (by intro y hy; simp at hy; subst hy; exact HX.out)
  have hrs : ∀ y ∈ rootL os [x], y < 18446744073709551616 := rootL_lt HLd.out.obs.len (by intro y hy; simp at hy; subst hy; exact HX.out)
  have hrl : (rootL os [x]).length = 1 := by unfold rootL; simp
  obtain ⟨r, hr⟩ : ∃ r, rootL os [x] = [r] := List.length_eq_one_iff.1 hrl
  have HB3 := Lib.hid (HB2.out.trans (hb3.mono HB2.out.size))
  have HO3 := Lib.hid (HLd.out.obs.below hb3)
  have HBa : Hid (base ≤ w2.heap.size ∧ w.heap.size ≤ base) := Lib.hid ⟨Nat.le_of_lt (Nat.lt_of_le_of_lt HLd.out.obs.heap.bg HLd.out.obs.heap.gl.1), Nat.le_trans HS1.out HLd.out.base⟩
  have HB23 := Lib.hid hb3.size
  rw [hw3]
  rw [hr] at hro hrs
  have HRs := Lib.hid hrs
  clear hb3 hrd HLd HX hw3 hr hrl hrs
  refine hro.mono ?_
  rintro e w4 ⟨A1, c1, A2, c2, rfl, hr1, -, hn1, hb4⟩
  have HB4 := Lib.hid (HB3.out.trans (hb4.mono HB3.out.size))
  have HO4 := Lib.hid (HO3.out.below hb4)
  have HE4 := Lib.hid (he.below HB4.out)
  have HR4 := Lib.hid hr1
  have HN4 := Lib.hid hn1
  have HBa4 : Hid (base ≤ w4.heap.size) := Lib.hid (by have := HBa.out.1; have := HB23.out; have := hb4.size; omega)
  clear hro hb4 hr1 hn1 HO3 HB3 HB23 HB2 HB1 HS1 he
  rcases find_total (rs := [r]) HO4.out with ⟨fs0, S, T, fs, hF⟩ | ⟨_, hno⟩
  case inr =>
    have hor := order_of_all [r] A1 c1 w4 (hno w4 A1 c1 HO4.out HR4.out HRs.out (by simp))
    clear hno
    go_wp2_with fail
    refine hor.mono ?_
    rintro e w5 ⟨rfl, hb5⟩
    have HB5 := Lib.hid (HB4.out.trans (hb5.mono HB4.out.size))
    clear hb5 hor
    go_wp2_with fail
    go_ret
    exact ⟨rfl, HB5.out⟩
  have hor := order_any [r] A1 c1 w4 HO4.out.graph.leads HO4.out.heap HR4.out HRs.out (by simp) hF.find hF.waves
  rw [hF.all] at hor
  have HF := Lib.hid hF
  clear hF
  go_wp2_with fail
  refine hor.mono ?_
  rintro e w5 ⟨A5, c5, rfl, hr5, -, hb5⟩
  have HB5 := Lib.hid (HB4.out.trans (hb5.mono HB4.out.size))
  have HO5 := Lib.hid (HO4.out.below hb5)
  have HE5 := Lib.hid (HE4.out.below hb5)
  have HR5 := Lib.hid ((HR4.out.below hb5 (Nat.le_refl _)).more hb5.size)
  have HBa5 : Hid (base ≤ w5.heap.size) := Lib.hid (Nat.le_trans HBa4.out hb5.size)
  clear hor hr5 hb5 HO4 HE4 HR4 HBa4 HB4
  rcases Nat.eq_zero_or_pos fs.length with h0 | h0
  · have h0' : ((fs.length : Int) == 0) = true := by rw [h0]; rfl
    clear h0
    go_wp2_with fail
    go_ret
    exact ⟨rfl, HB5.out⟩
  have h0' : ((fs.length : Int) == 0) = false := beq_eq_false_iff_ne.2 (by omega)
  have H0 := Lib.hid h0
  clear h0
  have hst := stays_of HO5.out.isP HF.out.led.good
  obtain ⟨xs, hxs⟩ : ∃ xs, stayX os fs os.length = xs := ⟨_, rfl⟩
  rw [hxs] at hst
  clear hxs
  have hL200 : (Lof os).length ≤ 200 := HO5.out.heap.room
  have hco := collect_any [r] A1 c1 w5 HO5.out HE5.out HBa5.out (by decide) HR5.out (by have := HN4.out; simpa using this) HRs.out (by simp) HF.out.find HF.out.waves HF.out.all hst HF.out.closed (fun x hx hw => HF.out.roots x hx hw) (by omega) (laid_pos HOk.out HO5.out.ok) (laid_clean HOk.out).1 (laid_clean HOk.out).2
  have HSt := Lib.hid hst
  clear hst
  go_wp2_with fail
  refine hco.mono ?_
  rintro e w6 ⟨A6, c6, rfl, hC⟩
  obtain ⟨⟨gc', cap', gb', gb2', ws', hM⟩, hrd6, -, hch⟩ := hC
  obtain ⟨hF2, hmv⟩ := HF.out.moved HSt.out hM.isP
  have hcM := moved_closed HSt.out HF.out.closed HO5.out.ok hM.isP
  have hM64 := hM.heap.lt
  have HClM : Hid (∀ o ∈ moved os (ksOf xs), CleanO o) := Lib.hid fun o ho => by
    obtain ⟨k, hk, rfl⟩ := mem_moved ho
    exact turnO_clean ((laid_clean HOk.out).1 _ (List.getElem_mem hk))
  have HHM : Hid (∀ o ∈ moved os (ksOf xs), o.hash = 0) := Lib.hid fun o ho => by
    obtain ⟨k, hk, rfl⟩ := mem_moved ho
    show os[k].hash = 0
    exact (laid_clean HOk.out).2 _ (List.getElem_mem hk)
  have hrw : isW r := by
    have h0 := H0.out
    refine Classical.byContradiction fun hn => ?_
    obtain ⟨y, hy⟩ := List.exists_mem_of_length_pos h0
    exact led_none (fun x hx => by rw [List.mem_singleton] at hx; subst hx; exact hn) ((HF.out.led.mem y).1 hy)
  have hrf : r ∈ fs := HF.out.roots r (by simp) hrw
  have hp := (hmv.ptr r ((HSt.out.kept r).1 hrf)).2
  have hlM : 0 < (moved os (ksOf xs)).length := by
    obtain ⟨k, hk, _⟩ := (hM.isP _).1 hp
    omega
  have hLM : (Lof (moved os (ksOf xs))).length ≤ 200 := hM.heap.room
  have hLM2 : 2 < (Lof (moved os (ksOf xs))).length := by have := pos_top (moved os (ksOf xs)) hlM; rw [pos_zero] at this; omega
  obtain ⟨N, hN⟩ : ∃ N, (fs.map (goal os (ksOf xs))).length = N := ⟨_, rfl⟩
  have HNf : Hid (N = fs.length) := Lib.hid (by rw [← hN, List.length_map])
  have HNg := Lib.hid hN
  have HB6 := Lib.hid (HB5.out.trans (hch.bel (B := w.heap.size) (Nat.le_trans HBa.out.2 HO5.out.heap.bg) HB5.out.size))
  have HE6 := Lib.hid (env_ch HE5.out HO5.out.heap.hd hch)
  have HBa6 : Hid (base ≤ w6.heap.size) := Lib.hid (Nat.le_trans HBa5.out hch.size)
  have HFm : Hid (∀ ws9, (∀ p, isP ws9 p ↔ ∃ k, k < (moved os (ksOf xs)).length ∧ p = 2 * pos (moved os (ksOf xs)) k) → Found0 (moved os (ksOf xs)) ws9 ([r].map (goal os (ksOf xs))) (fs0.map (goal os (ksOf xs))) (fun t => ((S t).1.map (goal os (ksOf xs)), (S t).2)) T (fs.map (goal os (ksOf xs)))) := Lib.hid fun ws9 hp9 => (HF.out.moved HSt.out hp9).1
  have HM := Lib.hid hM
  have HcM := Lib.hid hcM
  have Hp := Lib.hid hp
  have HlM := Lib.hid hlM
  have HokM := Lib.hid hM.ok
  have HisM := Lib.hid hM.isP
  rw [List.map_cons, List.map_nil] at hrd6 hF2
  clear hco hM hF2 hmv hcM hM64 hrw hrf hp hlM hch HF HSt HOk HO5 HE5 HR5 HBa5 HB5 H0 hN HN4 HRs
  rw [show (List.map (goal os (ksOf xs)) [r]) = [goal os (ksOf xs) r] from rfl] at HFm ⊢
  generalize goal os (ksOf xs) r = p at *
  generalize moved os (ksOf xs) = M at *
  obtain ⟨b6, o6, rfl, hb6, hcl6⟩ := rdw_at hrd6 (k := 0) (by simp)
  rw [Nat.add_zero] at hcl6
  have hcl6' : w6.cell? ⟨b6, o6, none⟩ = some (.int .u64 (p : Int)) := hcl6
  have hp64 : p < 33554432 := Hp.out.2.2.1
  have hcd := closed_any HM.out HBa6.out
  rw [HcM.out] at hcd
  clear hrd6 hcl6
  go_wp2_with fail
  refine hcd.mono ?_
  rintro e w7 ⟨rfl, hb7⟩
  have HB7 := Lib.hid (HB6.out.trans (hb7.mono HB6.out.size))
  have HM7 := Lib.hid (HM.out.below hb7)
  have hc7 : w7.cell? ⟨b6, o6, none⟩ = some (.int .u64 (p : Int)) := (hb7.cell (p := ⟨b6, o6, none⟩) hb6).trans hcl6'
  have hbl7 : b6 < w7.heap.size := Nat.lt_of_lt_of_le hb6 hb7.size
  have HBa7 : Hid (base ≤ w7.heap.size) := Lib.hid (Nat.le_trans HBa6.out hb7.size)
  have hen := encode_any (root := p) w7 HM7.out.heap Hp.out hLM2 (by omega) (by decide)
  obtain ⟨bs, hbs⟩ : ∃ bs, imgB 0 p ((Lof M).drop 2) = bs := ⟨_, rfl⟩
  have HBs := Lib.hid hbs
  have hbl : bs.length ≤ 2000 := by rw [← hbs, imgB_len, List.length_drop]; omega
  unfold EncPost at hen
  rw [hbs] at hen
  clear hcd hb7 HM HB6 hcl6' hb6 hbs HBa6
  go_wp2_with fail
  refine hen.mono ?_
  rintro e w8 ⟨A8, c8, rfl, ho8, hb8⟩
  have HB8 := Lib.hid (HB7.out.trans (hb8.mono HB7.out.size))
  have HM8 := Lib.hid (HM7.out.below hb8)
  have hc8 : w8.cell? ⟨b6, o6, none⟩ = some (.int .u64 (p : Int)) := (hb8.cell (p := ⟨b6, o6, none⟩) hbl7).trans hc7
  have hbl8 : b6 < w8.heap.size := Nat.lt_of_lt_of_le hbl7 hb8.size
  have HBa8 : Hid (base ≤ w8.heap.size) := Lib.hid (Nat.le_trans HBa7.out hb8.size)
  obtain ⟨A', c', e', hr8, -⟩ := own_rd ho8
  injection e' with e1 e2 e3
  subst e1 e3
  have HR8 := Lib.hid hr8
  have HC8 : Hid (bs.length ≤ c8) := Lib.hid (by
    rcases ho8.2 with ⟨_, h⟩ | ⟨g', cap', cur', h1, hb, _, h2, _⟩
    · have h9 := HBs.out
      have := imgB_len 0 p ((Lof M).drop 2)
      rw [h9] at this; omega
    · injection h1 with _ _ h3
      subst h3
      exact h2)
  have hus := used_any w8 HM8.out.heap
  clear hen hb8 HM7 HB7 hc7 hbl7 HBa7 ho8 hr8
  go_upto_region 14 with (go_at_call 21; (with_reducible refine hus.mono ?_); rintro e w' ⟨rfl, rfl⟩)
  have hL2 : (Lof M).length ≤ 200 := hLM
  go_cut [16] (fun v wx => ∃ n : Nat, v = .int .i64 (n : Int) ∧ 16 ≤ n ∧ (Lof M).length ≤ n ∧ n ≤ 2000 ∧ w8 = wx)
  case first =>
    obtain ⟨U, hU⟩ : ∃ U, (Lof M).length = U := ⟨_, rfl⟩
    rw [hU] at hus hL2
    by_cases z1 : (16 : Int) < (U : Int)
    · by_cases z2 : 1000 < z
      · go_wp2_with (go_at_call 21; (with_reducible refine hus.mono ?_); rintro e w' ⟨rfl, rfl⟩)
        go_meet
        exact ⟨U + 1000, by simp, by omega, by omega, by omega, rfl⟩
      · by_cases z3 : 0 < z
        · obtain ⟨y, rfl⟩ : ∃ y : Nat, z = (y : Int) := ⟨z.toNat, by omega⟩
          go_wp2_with (go_at_call 21; (with_reducible refine hus.mono ?_); rintro e w' ⟨rfl, rfl⟩)
          go_meet
          exact ⟨U + y, by simp, by omega, by omega, by omega, rfl⟩
        · go_wp2_with (go_at_call 21; (with_reducible refine hus.mono ?_); rintro e w' ⟨rfl, rfl⟩)
          go_meet
          exact ⟨U, by simp, by omega, by omega, by omega, rfl⟩
    · by_cases z2 : 1000 < z
      · go_wp2_with (go_at_call 21; (with_reducible refine hus.mono ?_); rintro e w' ⟨rfl, rfl⟩)
        go_meet
        exact ⟨1016, by simp, by omega, by omega, by omega, rfl⟩
      · by_cases z3 : 0 < z
        · obtain ⟨y, rfl⟩ : ∃ y : Nat, z = (y : Int) := ⟨z.toNat, by omega⟩
          go_wp2_with (go_at_call 21; (with_reducible refine hus.mono ?_); rintro e w' ⟨rfl, rfl⟩)
          go_meet
          exact ⟨16 + y, by simp, by omega, by omega, by omega, rfl⟩
        · go_wp2_with (go_at_call 21; (with_reducible refine hus.mono ?_); rintro e w' ⟨rfl, rfl⟩)
          go_meet
          exact ⟨16, by simp, by omega, by omega, by omega, rfl⟩
  case rest =>
    obtain ⟨n, rfl, hn1, hn2, hn3, rfl⟩ := hcut
    clear hus
    have hFin : Hid (∀ w', Below w8.heap.size w8 w' → Below w.heap.size w w') := Lib.hid fun w' hb => HB8.out.trans (hb.mono HB8.out.size)
    have hde := decode_any M ws' p n c8 A8 w8 hn1 (by omega) Hp.out HlM.out (by omega) HM8.out.heap.lt HokM.out HClM.out HHM.out HisM.out (by rw [HBs.out]; exact HR8.out) (by rw [HBs.out]; exact HC8.out)
    rw [HBs.out] at hde
    go_wp2_with fail
    refine hde.mono ?_
    rintro e w9 ⟨v, x9, r9, rfl, hb9, -, -, d3⟩
    obtain ⟨rfl, rfl, B9, g9, gc9, cap9, gb9, gb29, ws9, rfl, hB9, hM9⟩ := d3 hn2 HcM.out
    have HM9 := Lib.hid hM9
    have HM8b := Lib.hid (HM8.out.below hb9)
    have HB9 := Lib.hid (hFin.out w9 hb9)
    have hFin9 : Hid (∀ w', Below w9.heap.size w9 w' → Below w.heap.size w w') := Lib.hid fun w' hb => HB9.out.trans (hb.mono HB9.out.size)
    have hc9 : w9.cell? ⟨b6, o6, none⟩ = some (.int .u64 (x9 : Int)) := (hb9.cell (p := ⟨b6, o6, none⟩) hbl8).trans hc8
    have hbl9 : b6 < w9.heap.size := Nat.lt_of_lt_of_le hbl8 hb9.size
    have HR9 := Lib.hid ((HR8.out.below hb9 (Nat.le_refl _)).more hb9.size)
    have hu8 := used_any w9 HM8b.out.heap
    have hu9 := used_any w9 HM9.out.heap
    have hf9 := free_any w9 HM9.out.heap
    have HL2 := Lib.hid hLM2
    obtain ⟨U, hU⟩ : ∃ U, (Lof M).length = U := ⟨_, rfl⟩
    have HU := Lib.hid hU
    rw [hU] at hu8 hu9 hf9 hn2 hL2
    have hne1 : (((n - U : Nat) : Int) != (n : Int) - (U : Int)) = false := by rw [bne_eq_false_iff_eq]; omega
    clear hde hb9 d3 hM9 hB9 HM8 HB8 hc8 hbl8 HR8 hFin hU
    go_wp2_with (first
      | (go_at_call 21; (with_reducible refine hu9.mono ?_); rintro e w' ⟨rfl, rfl⟩)
      | (go_at_call 21; (with_reducible refine hu8.mono ?_); rintro e w' ⟨rfl, rfl⟩)
      | (go_at_call 30; (with_reducible refine hf9.mono ?_); rintro e w' ⟨rfl, rfl⟩))
    have hba : Below w9.heap.size w9 (w9.alloc (.cells #[.int .u64 (x9 : Int)] 49)) := (Below.refl _ _).alloc (Nat.le_refl _) _
    have hFo := HFm.out ws9 HM9.out.isP
    have hor := order_any [x9] (some ⟨w9.heap.size, 0, none⟩) 1 _ (HM9.out.below hba).graph.leads (HM9.out.below hba).heap (rd_one w9 x9) (by intro y hy; rw [List.mem_singleton] at hy; subst hy; omega) (by simp) hFo.find hFo.waves
    rw [hFo.all] at hor
    unfold OrdPost at hor
    rw [HNg.out] at hor
    clear hFo hu8 hu9 hf9 hne1
    refine hor.mono ?_
    rintro e w10 ⟨A10, c10, rfl, -, -, hb10⟩
    have hb10 := hba.trans (hb10.mono (by simp))
    have HM10 := Lib.hid (HM9.out.below hb10)
    have HM8c := Lib.hid (HM8b.out.below hb10)
    have HB10 := Lib.hid (hFin9.out w10 hb10)
    have hFin10 : Hid (∀ w', Below w10.heap.size w10 w' → Below w.heap.size w w') := Lib.hid fun w' hb => HB10.out.trans (hb.mono HB10.out.size)
    have HR10 := Lib.hid ((HR9.out.below hb10 (Nat.le_refl _)).more hb10.size)
    have hu8 := used_any w10 HM8c.out.heap
    rw [HU.out] at hu8
    clear hor hba hb10 HM9 HM8b HB9 hFin9 HR9 hc9 hbl9
    obtain ⟨m, hm, hm2⟩ : ∃ m : Nat, ((15 : Int) < (U : Int) - 1 → m = U - 1) ∧ (¬ (15 : Int) < (U : Int) - 1 → m = 15) := by
      by_cases h : (15 : Int) < (U : Int) - 1
      · exact ⟨U - 1, fun _ => rfl, fun h2 => absurd h h2⟩
      · exact ⟨15, fun h2 => absurd h2 h, fun _ => rfl⟩
    have hde2 : Calls Tryd.prog 29 #[.slice A8 bs.length c8, .int .i64 (m : Int)] w10 fun e w' => (∃ v x r, e = .returned (.tuple #[v, .int .u64 x, .int .i64 r]) ∧ ((r = 8) ∨ (r = 2))) ∧ Below w10.heap.size w10 w' := by
      by_cases h : (15 : Int) < (U : Int) - 1
      · have := hm h
        have hd := decode_any M ws' x9 m c8 A8 w10 (by omega) (by omega) Hp.out HlM.out (by rw [HU.out]; omega) HM10.out.heap.lt HokM.out HClM.out HHM.out HisM.out (by rw [HBs.out]; exact HR10.out) (by rw [HBs.out]; exact HC8.out)
        rw [HBs.out] at hd
        refine hd.mono ?_
        rintro e w' ⟨v, x', r', rfl, hb, h1, -, -⟩
        obtain ⟨rfl, -⟩ := h1 (by rw [HU.out]; omega)
        exact ⟨⟨v, _, _, rfl, .inl rfl⟩, hb⟩
      · have := hm2 h
        refine (decode_small m c8 bs.length A8 w10 (by omega)).mono ?_
        rintro e w' ⟨rfl, hb⟩
        exact ⟨⟨_, _, _, rfl, .inr rfl⟩, hb⟩
    by_cases hq : (15 : Int) < (U : Int) - 1
    · obtain rfl := hm hq
      rw [show ((U - 1 : Nat) : Int) = (U : Int) - 1 by omega] at hde2
      clear hm hm2
      go_wp2_with (go_at_call 21; (with_reducible refine hu8.mono ?_); rintro e w' ⟨rfl, rfl⟩)
      refine hde2.mono ?_
      rintro e w11 ⟨⟨v11, x11, r11, rfl, hr11⟩, hb11⟩
      have HM11 := Lib.hid (HM10.out.below hb11)
      have HB11 := Lib.hid (hFin10.out w11 hb11)
      have HR11 := Lib.hid ((HR10.out.below hb11 (Nat.le_refl _)).more hb11.size)
      have hen := encode_any (root := x9) w11 HM11.out.heap ((HM11.out.isP _).2 ((HisM.out _).1 Hp.out)) HL2.out (by rw [HU.out]; omega) (by decide)
      unfold EncPost at hen
      rw [HBs.out] at hen
      have hg1 : (r11 != 8 && r11 != 2) = false := by rcases hr11 with rfl | rfl <;> decide
      have hNN : ((N : Int) == (fs.length : Int)) = true := by rw [HNf.out]; simp
      have HNN := Lib.hid hNN
      clear hde2 hb11 HM10 HM8c HB10 hFin10 HR10
      rcases hr11 with rfl | rfl
      all_goals
        go_wp2_with fail
        refine hen.mono ?_
        rintro e w12 ⟨A12, c12, rfl, ho12, hb12⟩
        have HB12 := Lib.hid (HB11.out.trans (hb12.mono HB11.out.size))
        obtain ⟨A', c', e', hr12, -⟩ := own_rd ho12
        injection e' with e1 e2 e3
        subst e1 e3
        have k1 := conv_str c8 ((HR11.out.below hb12 (Nat.le_refl _)).more hb12.size)
        have k2 := conv_str c12 hr12
        have hNN := HNN.out
        clear hen hb12 ho12 hr12 HB11 HR11 HM11
        go_wp2_with fail
        go_ret
        exact ⟨by simp, HB12.out⟩
    · obtain rfl := hm2 hq
      rw [show ((15 : Nat) : Int) = 15 from rfl] at hde2
      clear hm hm2
      go_wp2_with (go_at_call 21; (with_reducible refine hu8.mono ?_); rintro e w' ⟨rfl, rfl⟩)
      refine hde2.mono ?_
      rintro e w11 ⟨⟨v11, x11, r11, rfl, hr11⟩, hb11⟩
      have HM11 := Lib.hid (HM10.out.below hb11)
      have HB11 := Lib.hid (hFin10.out w11 hb11)
      have HR11 := Lib.hid ((HR10.out.below hb11 (Nat.le_refl _)).more hb11.size)
      have hen := encode_any (root := x9) w11 HM11.out.heap ((HM11.out.isP _).2 ((HisM.out _).1 Hp.out)) HL2.out (by rw [HU.out]; omega) (by decide)
      unfold EncPost at hen
      rw [HBs.out] at hen
      have hg1 : (r11 != 8 && r11 != 2) = false := by rcases hr11 with rfl | rfl <;> decide
      have hNN : ((N : Int) == (fs.length : Int)) = true := by rw [HNf.out]; simp
      have HNN := Lib.hid hNN
      clear hde2 hb11 HM10 HM8c HB10 hFin10 HR10
      rcases hr11 with rfl | rfl
      all_goals
        go_wp2_with fail
        refine hen.mono ?_
        rintro e w12 ⟨A12, c12, rfl, ho12, hb12⟩
        have HB12 := Lib.hid (HB11.out.trans (hb12.mono HB11.out.size))
        obtain ⟨A', c', e', hr12, -⟩ := own_rd ho12
        injection e' with e1 e2 e3
        subst e1 e3
        have k1 := conv_str c8 ((HR11.out.below hb12 (Nat.le_refl _)).more hb12.size)
        have k2 := conv_str c12 hr12
        have hNN := HNN.out
        clear hen hb12 ho12 hr12 HB11 HR11 HM11
        go_wp2_with fail
        go_ret
        exact ⟨by simp, HB12.out⟩
theorem walk_FoundlingKept (s : Option Addr) (len cap : Nat) (zs : List Int) (s' : Option Addr) (len' cap' : Nat) (zs' : List Int) (x z : Int) (W : World) (h : IsRow .i64 W s len cap zs) (h' : IsRow .u64 W s' len' cap' zs') (wx : (Lit.int .u64 x).wf = true) (_wz : (Lit.int .i64 z).wf = true) (he : EnvB W) :
    Calls Tryd.prog 6 #[.agg #[.slice s len cap, .slice s' len' cap'], .int .u64 x, .int .i64 z] W fun e w' => e = .returned (.bool true) ∧ Below W.heap.size W w' := by
  obtain ⟨cs, rfl, hlc, hcm, hr, _, hw⟩ := ints_row h
  obtain ⟨ls, rfl, hlc', hcm', hr', hlw⟩ := words_row h'
  obtain ⟨X, rfl, hX⟩ := word_wf wx
  have hm : maxLen ≤ 9223372036854775807 := by unfold maxLen; omega
  exact fkept_any s s' cs ls cap cap' X z W hr hr' hlc (by omega) (by omega) hw hlw hX he
end Go.Proofs.YthppamfhkcdjdaaDoor.Fl
