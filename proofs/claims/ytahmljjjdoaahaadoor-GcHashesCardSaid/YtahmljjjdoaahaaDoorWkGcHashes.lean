/-
  The walk of GcHashes.
-/
import Derived.Test.YtahmljjjdoaahaaDoorGHash
import Derived.Test.YtahmljjjdoaahaaDoorGAw
import Derived.Test.YtahmljjjdoaahaaDoorLaidC
import Derived.Test.YtahmljjjdoaahaaDoorPArgs
import Derived.Test.YtahmljjjdoaahaaDoorPGColl
namespace Go.Proofs.YtahmljjjdoaahaaDoor.Fl
open Go.RowKit

/-- numbers of 32 bits as cells -/
def c32 (l : List Nat) : List Value := l.map fun n : Nat => Value.int .u32 (n : Int)
theorem c32_len (l : List Nat) : (c32 l).length = l.length := List.length_map _
theorem c32_one (l : List Nat) : ∀ v ∈ c32 l, v.oneCell' = true := fun v hv => by
  obtain ⟨n, _, rfl⟩ := List.mem_map.1 hv
  rfl
theorem u32info : (Tryd.prog.info? 29).map (fun i => (i.zero, i.size, i.bytes)) = some (some (.int .u32 0), 1, 4) := by kernel_rfl
def OwnU (w : World) (base : Nat) (v : Value) (l : List Nat) : Prop := w.ownsRow base 29 1 v l.length (c32 l)
/-- append of a number onto a row of the call's own -/
theorem wpList_append_u {w : World} {base c : Nat} {A : Option Addr} {xs news : List Nat} {v : Value} {ops : Array Oper} {rest : List Oper} {o : Oper} {a : Act} {Q : Exit → Act → World → Prop} (hg : o.guard = none) (s x : Operand) (ho : o.op = .call { callee := .builtin .append, args := #[s, x], argTypes := #[50, 50] })
    (hs : a.eval s = v) (hx : a.eval x = .slice A news.length c) (hown : OwnU w base v xs) (hr : Rd w w.heap.size A (c32 news)) (hA : A = none → news.length = 0) (hl : xs.length ≤ 1000000) (hl2 : news.length ≤ 1000000) (hb : base ≤ w.heap.size)
    (h : ∀ A' ts c' w', Hid (ts = xs ++ news) → Hid (OwnU w' base (.slice A' ts.length c') ts) → Hid (Below base w w') → wpList Tryd.prog ops Q rest (a.put o.dst (.slice A' ts.length c')) w') : wpList Tryd.prog ops Q (o :: rest) a w := by
  obtain ⟨i0, hi, hz0, hz1, hz2⟩ := info_parts u32info
  refine wpList_append_rd (base := base) (size := 1) (bytes := 4) (n := xs.length) (m := news.length) (c := c) (v := v) (xs := c32 xs) (news := c32 news) hg s x ho Tryd.underlying50 hi hz0 hz1 hz2 rfl (by decide) hs hx hown hr (by rw [c32_len]; omega) hA (c32_one news) (by unfold maxLen; omega) (by omega) hb ?_
  intro v' w' happ
  obtain ⟨A', c', rfl, _, _⟩ := happ.slice
  have e : xs.length + news.length = (xs ++ news).length := by simp
  have ho := happ.own
  rw [e, show c32 xs ++ c32 news = c32 (xs ++ news) by simp [c32]] at ho
  rw [e]
  exact h A' (xs ++ news) c' w' (Lib.hid rfl) (Lib.hid ho) (Lib.hid ((Below.refl _ _).grown happ.grown hb (fun j hj => (World.ownsRow.lt hown j hj).1)))
theorem ownU_rd {w : World} {base n c : Nat} {A : Option Addr} {xs : List Nat} (h : OwnU w base (.slice A n c) xs) : Rd w w.heap.size A (c32 xs) := by
  rcases h.2 with ⟨_, e2⟩ | ⟨g, cap, cur, e1, hb, hg, _, _, _, ht⟩
  · rw [List.eq_nil_of_length_eq_zero e2]; exact .inl rfl
  · injection e1 with e1 _ _
    subst e1
    refine .inr ⟨g, 0, rfl, lt_of_block hg, fun j v hj => ?_⟩
    have hjl : j < xs.length := by
      rcases Nat.lt_or_ge j (c32 xs).length with h1 | h1
      · rwa [c32_len] at h1
      · rw [List.getElem?_eq_none h1] at hj; cases hj
    rw [Nat.zero_add, cell_of_row w g j _ _ _ hg, ← hj, ← ht, List.getElem?_take, if_pos (by omega)]
    simp
theorem rd_oneU (w : World) (x : Nat) : Rd (w.alloc (.cells #[.int .u32 (x : Int)] 29)) (w.alloc (.cells #[.int .u32 (x : Int)] 29)).heap.size (some ⟨w.heap.size, 0, none⟩) (c32 [x]) :=
  .inr ⟨w.heap.size, 0, rfl, by simp, fun j v hj => by
    rcases j with _ | j
    · simp [c32] at hj
      rw [← hj]
      have := lone_cell w (.int .u32 (x : Int)) 29 0 _ rfl
      rw [show (⟨w.heap.size, 0, none⟩ : Addr).add 0 = ⟨w.heap.size, 0 + 0, none⟩ by simp [Addr.add]] at this
      exact this
    · simp [c32] at hj⟩
theorem rd32_at {w : World} {B : Nat} {A : Option Addr} {ts : List Nat} (h : Rd w B A (c32 ts)) {k : Nat} (hk : k < ts.length) : ∃ b off, A = some ⟨b, off, none⟩ ∧ b < B ∧ w.cell? ⟨b, off + k, none⟩ = some (.int .u32 (ts[k] : Int)) := by
  rcases h with h | ⟨b, off, e, hb, hc⟩
  · unfold c32 at h; rw [List.map_eq_nil_iff] at h; subst h; simp at hk
  · exact ⟨b, off, e, hb, hc k _ (by simp [c32, hk])⟩
theorem OwnU.below {w w' : World} {base : Nat} {v : Value} {xs : List Nat} (h : OwnU w base v xs) (hb : Below w.heap.size w w') : OwnU w' base v xs :=
  ownsRow_keep h fun b cur _ hc => hb.block b (lt_of_block hc)
theorem collh_len {f : FuncId} {args : Array Value} {base g size last : Nat} {os' : List Ob} {rs : List Nat} {gl : Nat → Nat} {w : World} (h : Calls Tryd.prog f args w (CollHPost base g size last os' (rs.map gl) w)) :
    Calls Tryd.prog f args w fun e w' => ∃ A' c', e = .returned (.tuple #[.slice A' rs.length c', .int .i64 0]) ∧ CollH base g size last os' (rs.map gl) A' w w' :=
  h.mono fun e w' ⟨A', c', he, hc⟩ => ⟨A', c', by rw [he, List.length_map], hc⟩
theorem ord_lenH {f : FuncId} {args : Array Value} {fs : List Nat} {gl : Nat → Nat} {w : World} (h : Calls Tryd.prog f args w (OrdPost (fs.map gl) w)) :
    Calls Tryd.prog f args w fun e w' => ∃ A c', e = .returned (.tuple #[.slice A fs.length c', .int .i64 0]) ∧ Rd w' w'.heap.size A (cw (fs.map gl)) ∧ Below w.heap.size w w' :=
  h.mono fun e w' ⟨A, c', he, hr, _, hb⟩ => ⟨A, c', by rw [he, List.length_map], hr, hb⟩
/-- what stands while objects are given numbers -/
structure GtS (w0 w : World) (lo base g gc cap gb gb2 S6 c last : Nat) (A : Option Addr) (os os' : List Ob) (ws : List Nat) : Prop where
  obs : ObsAt w base g gc cap gb gb2 200 last os' ws
  tg : Tg os os' last
  doc : DocAt w lo w.heap.size A os
  box : w.heap[S6]? = some (.cells #[.int .i64 200, .slice A os.length c, .int .u32 0] 31 (0, 0))
  bel : Below w0.heap.size w0 w
/-- places -/
structure GtP (w0 : World) (lo base g gb2 : Nat) : Prop where
  lg : g < lo
  lb : gb2 < lo
  base : w0.heap.size ≤ base
theorem GtS.below {w0 w w' : World} {lo base g gc cap gb gb2 S6 c last : Nat} {A : Option Addr} {os os' : List Ob} {ws : List Nat} (h : GtS w0 w lo base g gc cap gb gb2 S6 c last A os os' ws) (hb : Below w.heap.size w w') : GtS w0 w' lo base g gc cap gb gb2 S6 c last A os os' ws :=
  ⟨h.obs.below hb, h.tg, (h.doc.below hb).more hb.size, (hb.block _ (lt_of_block h.box)).trans h.box, h.bel.trans (hb.mono h.bel.size)⟩
theorem GtS.tagged {w0 w w' : World} {lo base g gc cap gb gb2 S6 c last last2 k : Nat} {A : Option Addr} {os os' os2 : List Ob} {ws : List Nat} (h : GtS w0 w lo base g gc cap gb gb2 S6 c last A os os' ws) (hp : GtP w0 lo base g gb2) (hk : k < os'.length) (ht : TagR os' k last os2 last2) (ho : ObsAt w' base g gc cap gb gb2 200 last2 os2 ws) (ha : Aside g gc gb2 w w') : GtS w0 w' lo base g gc cap gb gb2 S6 c last2 A os os2 ws ∧ last2 ≤ last + 1 := by
  obtain ⟨cur, hcur, hbc, _⟩ := h.obs.heap.row
  obtain ⟨cu, hb2, _⟩ := h.obs.heap.bits.wd
  refine ⟨⟨ho, ?_, (h.doc.keepD (KeepD.aside ha (Nat.le_refl _) hp.lg hp.lb hcur)).more ha.size, ?_, h.bel.trans (ha.below h.bel.size (Nat.le_trans hp.base h.obs.heap.bg) (Nat.le_trans hp.base hbc) (Nat.le_trans hp.base h.obs.heap.bb2))⟩, ?_⟩
  · rcases ht with ⟨rfl, rfl⟩ | ⟨_, rfl, rfl⟩
    · exact h.tg
    · exact h.tg.step hk
  · exact (ha.block _ (lt_of_block h.box) (other_type h.box h.obs.heap.hd (by decide)) (other_type h.box hcur (by decide)) (other_type h.box hb2 (by decide))).trans h.box
  · rcases ht with ⟨rfl, rfl⟩ | ⟨_, rfl, rfl⟩ <;> omega
theorem rdz_at {w : World} {B : Nat} {A : Option Addr} {zs : List Int} (h : Rd w B A (zs.map (Value.int .i64))) {k : Nat} (hk : k < zs.length) : ∃ b off, A = some ⟨b, off, none⟩ ∧ b < B ∧ w.cell? ⟨b, off + k, none⟩ = some (.int .i64 zs[k]) := by
  rcases h with h | ⟨b, off, e, hb, hc⟩
  · rw [List.map_eq_nil_iff] at h; subst h; simp at hk
  · exact ⟨b, off, e, hb, hc k _ (by simp [hk])⟩
section
/-- which object a number means -/
def tagK (z : Int) (n : Nat) : Nat := ((z.tmod n + n).tmod n).toNat
theorem tagK_lt {z : Int} {n : Nat} (hn : 0 < n) : tagK z n < n ∧ (z.tmod n + n).tmod n = (tagK z n : Int) ∧ -(n : Int) < z.tmod n ∧ z.tmod n < n := by
  have h0 : ((n : Nat) : Int) ≠ 0 := by omega
  have h1 : -(n : Int) < z.tmod n := by
    have := Int.lt_tmod_of_pos z (b := (n : Int)) (by omega); omega
  have h2 : z.tmod n < n := Int.tmod_lt_of_pos z (by omega)
  have h3 : 0 ≤ (z.tmod n + n).tmod n := Int.tmod_nonneg _ (by omega)
  have h4 : (z.tmod n + n).tmod n < n := Int.tmod_lt_of_pos _ (by omega)
  unfold tagK
  omega
end
set_option maxRecDepth 100000 in
set_option maxHeartbeats 8000000 in
theorem ghashes_any (AK AL : Option Addr) (zs : List Int) (ls : List Nat) (ck cL : Nat) (AA : Option Addr) (av : List Nat) (cA : Nat) (AT : Option Addr) (ts : List Int) (cT : Nat) (w : World) (hk : Rd w w.heap.size AK (zs.map (Value.int .i64))) (hl : Rd w w.heap.size AL (cw ls)) (hkl : zs.length ≤ ck) (hck : ck ≤ 9223372036854775807) (hll : ls.length ≤ 9223372036854775807)
    (hkw : ∀ z ∈ zs, (Lit.int .i64 z).wf = true) (hlw : ∀ x ∈ ls, x < 18446744073709551616) (hra : Rd w w.heap.size AA (cw av)) (hal : av.length ≤ 9223372036854775807) (haw : ∀ x ∈ av, x < 18446744073709551616) (hrt : Rd w w.heap.size AT (ts.map (Value.int .i64))) (htl : ts.length ≤ 9223372036854775807) (he : EnvB w) :
    Calls Tryd.prog 3 #[.agg #[.slice AK zs.length ck, .slice AL ls.length cL], .slice AA av.length cA, .slice AT ts.length cT] w fun e w' => e = .returned (.bool true) ∧ Below w.heap.size w w' := by
  have HK := Lib.hid hk
  have HL := Lib.hid hl
  have HC := Lib.hid (And.intro hkl (And.intro hck hll))
  have HKW := Lib.hid hkw
  have HLW := Lib.hid hlw
  have HRA := Lib.hid hra
  have HAL := Lib.hid hal
  have HAW := Lib.hid haw
  have HRT := Lib.hid hrt
  have HTL := Lib.hid htl
  have HE0 := Lib.hid he
  clear hk hl hkl hck hll hkw hlw hra hal haw he hrt
  have haw6 := awake6_any (w.alloc (.cells #[.slice AK zs.length ck, .slice AL ls.length cL] 25)) (HE0.out.below ((Below.refl _ _).alloc (Nat.le_refl _) _))
  go_enter Tryd.func3, Tryd.ntmps3
  go_wp2_with fail
  refine haw6.mono ?_
  rintro e w1 ⟨rfl, hb1⟩
  have hb0 : Below w.heap.size w w1 := ((Below.refl _ _).alloc (Nat.le_refl _) _).trans (hb1.mono (by simp))
  have hG : w1.heap[w.heap.size]? = some (.cells #[.slice AK zs.length ck, .slice AL ls.length cL] 25 (0, 0)) := (hb1.block _ (by simp)).trans (heap_alloc_new w _)
  have hl1 := lay_any AK AL zs ls ck cL w1 (HK.out.below hb0 (Nat.le_refl _) |>.more hb0.size) (HL.out.below hb0 (Nat.le_refl _) |>.more hb0.size) HC.out.1 HC.out.2.1 HC.out.2.2 HKW.out HLW.out
  have HB1 := Lib.hid hb0
  have f1 := cells2 hG
  clear hb1 hb0 hG haw6
  go_wp2_with fail
  refine hl1.mono ?_
  rintro e w2 ⟨lo, base, g, gc, cap, gb, gb2, c, A, ws, os, j, rfl, hL, hok, hj⟩
  have HB2 := Lib.hid (HB1.out.trans (hL.below.mono HB1.out.size))
  have HLd := Lib.hid hL
  have HP : Hid (GtP w lo base g gb2) := Lib.hid ⟨hL.lt.1, hL.lt.2.2.1, Nat.le_trans HB1.out.size hL.base⟩
  have HOk := Lib.hid hok
  have HPos := Lib.hid (laid_pos hok hL.obs.ok)
  clear hl1 hL hok hj HK HL HC HKW HLW f1 HB1
  go_wp2_with fail
  obtain ⟨w3, hw3⟩ : ∃ w3, w2.alloc (.cells #[.int .i64 200, .slice A os.length c, .int .u32 0] 31) = w3 := ⟨_, rfl⟩
  have hb3 : Below w2.heap.size w2 w3 := by rw [← hw3]; exact (Below.refl _ _).alloc (Nat.le_refl _) _
  have hX3 : w3.heap[w2.heap.size]? = some (.cells #[.int .i64 200, .slice A os.length c, .int .u32 0] 31 (0, 0)) := by rw [← hw3]; exact heap_alloc_new w2 _
  have HB3 := Lib.hid (HB2.out.trans (hb3.mono HB2.out.size))
  have HG3 : Hid (GtS w w3 lo base g gc cap gb gb2 w2.heap.size c 0 A os os ws) := Lib.hid ⟨HLd.out.obs.below hb3, Tg.init (laid_clean HOk.out).2, (HLd.out.doc.below hb3).more hb3.size, hX3, HB3.out⟩
  rw [hw3]
  clear hw3 hb3 hX3 HB3 HB2 HLd
  generalize w2.heap.size = S6 at *
  have hol : os.length ≤ 16777216 := by have := HG3.out.doc; have h1 := HG3.out.obs.len; have h2 := pos_ge os (k := os.length) (Nat.le_refl _); have h3 := pos_all os; omega
  go_loopw [10] (fun v wr => ∃ i : Nat, i ≤ 8 ∧ v = .int .i64 (i : Int) ∧ Hid (∃ last os', last ≤ i ∧ GtS w wr lo base g gc cap gb gb2 S6 c last A os os' ws)) (fun v _ => 8 - (intOf v).toNat)
  case atStart => exact ⟨0, Nat.zero_le _, rfl, Lib.hid ⟨0, os, Nat.le_refl _, HG3.out⟩⟩
  case round =>
    clear HG3
    obtain ⟨i, hi, rfl, HI⟩ := hrel
    obtain ⟨last, os', hla, hG⟩ := HI.out
    have HG := Lib.hid hG
    have HLa := Lib.hid hla
    clear hG hla HI
    have f6 := cells3 HG.out.box
    by_cases hc : i < ts.length ∧ i < 8 ∧ 0 < os.length
    · obtain ⟨hc1, hc2, hc3⟩ := hc
      obtain ⟨bt, ot, rfl, hbt, hct⟩ := rdz_at (HRT.out.below HG.out.bel (Nat.le_refl _)) hc1
      have hbt2 : bt < wr.heap.size := Nat.lt_of_lt_of_le hbt HG.out.bel.size
      obtain ⟨hk, hm2, hm3, hm4⟩ := tagK_lt (z := ts[i]) hc3
      obtain ⟨k, hkk⟩ : ∃ k, tagK ts[i] os.length = k := ⟨_, rfl⟩
      rw [hkk] at hk hm2
      clear hkk
      obtain ⟨m1, hm1⟩ : ∃ m1, ts[i].tmod (os.length : Int) = m1 := ⟨_, rfl⟩
      rw [hm1] at hm2 hm3 hm4
      generalize ts[i] = z at *
      have e2 : (0 : Int) < (os.length : Int) := by omega
      have hn0 : ((os.length : Int) == 0) = false := beq_eq_false_iff_ne.2 (by omega)
      clear hbt
      go_upto_region 9 with fail
      go_cut [11] (fun v wx => v = .int .i64 (k : Int) ∧ Hid (Below wr.heap.size wr wx))
      case first =>
        have HBd := Lib.hid (fun nq => (show Below wr.heap.size wr (wr.drewN nq) from below_drewN (Below.refl _ _) nq))
        go_quiet (fail)
        go_wp2_with fail
        all_goals go_meet
        all_goals exact ⟨rfl, HBd.out _⟩
      case rest =>
        obtain ⟨rfl, HBc⟩ := hcut
        have HGc := Lib.hid (HG.out.below HBc.out)
        obtain ⟨bd, od, Aw, cA, Ab, cB, rfl, hbd, d0, _⟩ := HGc.out.doc.at_ hk
        have f7 := cells3 HGc.out.box
        have hpt : pos os k ≤ 16777216 := by have := pos_top os hk; have := HGc.out.tg.lof; have := HGc.out.obs.len; omega
        have hta := tag_any k wc HGc.out.obs (by rw [HGc.out.tg.len]; exact hk) (by have := HLa.out; omega)
        rw [HGc.out.tg.pos] at hta
        clear f6 hct hbt2 hm1 hm2 hm3 hm4 hn0 e2 HG HBc
        generalize pos os k = P at *
        rw [Int.mul_comm] at hta
        go_wp2_with fail
        refine hta.mono ?_
        rintro e w4 ⟨r, rfl, ⟨os2, last2, htr, ho2⟩, has⟩
        obtain ⟨hg4, hl4⟩ := HGc.out.tagged HP.out (by rw [HGc.out.tg.len]; exact hk) htr ho2 has
        have HG4 := Lib.hid (show ∃ last os', last ≤ i + 1 ∧ GtS w w4 lo base g gc cap gb gb2 S6 c last (some ⟨bd, od, none⟩) os os' ws from ⟨last2, os2, by have := HLa.out; omega, hg4⟩)
        clear hta f7 d0 hpt htr ho2 has hg4 hl4 HGc
        go_wp2_with fail
        go_roundw
        case rel => exact ⟨i + 1, hc2, by simp, HG4⟩
        case measure => simp [intOf]; omega
    · have hc' : (i : Int) < (ts.length : Int) → (i : Int) < 8 → ¬ (0 < (os.length : Int)) := fun h1 h2 h3 => hc ⟨by omega, by omega, by omega⟩
      go_upto_region 7 with fail
      go_cut [54] (fun v wx => v = .bool false ∧ wr = wx)
      case first =>
        by_cases h1 : i < ts.length
        · by_cases h2 : i < 8
          · have h3 : ¬ ((0 : Int) < (os.length : Int)) := hc' (by omega) (by omega)
            have h2' : (i : Int) < 8 := by omega
            go_wp2_with fail
            all_goals go_meet
            all_goals exact ⟨by simp; exact List.eq_nil_of_length_eq_zero (by omega), rfl⟩
          · have h2' : ¬ ((i : Int) < 8) := by omega
            go_wp2_with fail
            all_goals go_meet
            all_goals exact ⟨rfl, rfl⟩
        · go_wp2_with fail
          all_goals go_meet
          all_goals exact ⟨rfl, rfl⟩
      case rest =>
        obtain ⟨rfl, rfl⟩ := hcut
        clear hc hc'
        have hro := roots_any 200 0 c cA av wr HG.out.doc (Nat.le_refl _) (by rw [← HG.out.tg.lof]; exact HG.out.obs.len) ((HRA.out.below HG.out.bel (Nat.le_refl _)).more HG.out.bel.size) HAL.out HAW.out
        have HX := Lib.hid (rootL_lt (by rw [← HG.out.tg.lof]; exact HG.out.obs.len) HAW.out : ∀ y ∈ rootL os av, y < 18446744073709551616)
        have HXl := Lib.hid (rootL_len os av)
        generalize rootL os av = rs at hro HX HXl
        clear HRA HAL HAW HRT HTL htl
        go_wp2_with fail
        refine hro.mono ?_
        rintro e w4 ⟨A1, c1, A2, c2, rfl, hr1, hr2, hn1, hb4⟩
        have HG4 := Lib.hid (HG.out.below hb4)
        have HE4 := Lib.hid (HE0.out.below HG4.out.bel)
        have HR4 := Lib.hid hr1
        have HN4 := Lib.hid hn1
        have hrl9 : rs.length ≤ 9223372036854775807 := by have := HXl.out; omega
        clear hro hb4 hr1 hr2 hn1 HG HE0 f6
        rcases find_total (rs := rs) HG4.out.obs with ⟨fs0, S, T, fs, hF⟩ | ⟨_, hno⟩
        case inr =>
          have hord := order_of_all rs A1 c1 w4 (hno w4 A1 c1 HG4.out.obs HR4.out HX.out hrl9)
          clear hno
          go_wp2_with fail
          refine hord.mono ?_
          rintro e w5 ⟨rfl, hb5⟩
          have HB5 := Lib.hid (HG4.out.below hb5).bel
          clear hord hb5 HG4 HE4 HR4 HN4
          go_wp2_with fail
          go_ret
          exact ⟨rfl, HB5.out⟩
        have HF := Lib.hid hF
        clear hF
        have hord := order_any rs A1 c1 w4 HG4.out.obs.graph.leads HG4.out.obs.heap HR4.out HX.out hrl9 HF.out.find HF.out.waves
        rw [HF.out.all] at hord
        go_wp2_with fail
        refine hord.mono ?_
        rintro e w5 ⟨AO, cO, rfl, hro, -, hb5⟩
        have HG5 := Lib.hid (HG4.out.below hb5)
        have HE5 := Lib.hid (HE4.out.below hb5)
        have HR5 := Lib.hid ((HR4.out.below hb5 (Nat.le_refl _)).more hb5.size)
        have HO5 := Lib.hid hro
        have hla5 := lastH_any w5 HG5.out.obs.heap
        have HFl : Hid (fs.length ≤ 1000) := Lib.hid (by have h1 := good_len HG5.out.obs.heap HF.out.led.good; omega)
        have hfl := HFl.out
        clear hord hro hb5 HG4 HE4 HR4
        go_wp2_with (go_at_call 9; (with_reducible refine hla5.mono ?_); rintro e w' ⟨rfl, rfl⟩)
        clear hla5
        go_loopw [19, 106] (fun v v' wr => ∃ (q : Nat) (A9 : Option Addr) (c9 : Nat) (ts : List Nat), q ≤ fs.length ∧ v = .slice A9 ts.length c9 ∧ v' = .int .i64 (q : Int) ∧ Hid (ts = (fs.map (hashAt os')).take q) ∧ Hid (OwnU wr w5.heap.size (.slice A9 ts.length c9) ts) ∧ Hid (Below w5.heap.size w5 wr)) (fun _ v _ => fs.length - (intOf v).toNat)
        case atStart => exact ⟨0, none, 0, [], Nat.zero_le _, rfl, rfl, Lib.hid rfl, Lib.hid (World.ownsRow_nil _ _ _ _), Lib.hid (Below.refl _ _)⟩
        case round =>
          obtain ⟨q, A9, c9, ts, hq, rfl, rfl, HT, HU, HB⟩ := hrel
          by_cases hlt : q < fs.length
          · obtain ⟨bo, oo, rfl, hbo, hco⟩ := rdw_at (HO5.out.below HB.out (Nat.le_refl _)) hlt
            have hbo2 : bo < wr.heap.size := Nat.lt_of_lt_of_le hbo HB.out.size
            have hhd := head_hash (p := fs[q]) (HF.out.led.good.2 _ (List.getElem_mem hlt)) (HG5.out.below HB.out).obs
            have hT1 : (fs.map (hashAt os')).take (q + 1) = ts ++ [hashAt os' fs[q]] := by
              rw [HT.out, List.take_succ_eq_append_getElem (by simpa using hlt), List.getElem_map]
            have hTl : ts.length ≤ 1000 := by rw [HT.out]; simp; omega
            have HT1 := Lib.hid hT1
            clear hT1
            generalize hashAt os' fs[q] = hx at *
            generalize fs[q] = x at *
            go_wp2_with fail
            refine hhd.mono ?_
            rintro e w6 ⟨d0, d1, d2, d4, rfl, hb6⟩
            have HU6 := Lib.hid (HU.out.below hb6)
            have HB6 := Lib.hid (HB.out.trans (hb6.mono HB.out.size))
            clear hhd hco hbo2 hb6 HU HB hbo
            go_upto_region 23 with fail
            have hw7 := heap_alloc_new w6 (.cells #[.int .u64 (d0 : Int), .int .i64 (d1 : Int), .int .i64 (d2 : Int), .int .u32 (hx : Int), .bool d4] 52)
            have hb7 : Below w6.heap.size w6 (w6.alloc (.cells #[.int .u64 (d0 : Int), .int .i64 (d1 : Int), .int .i64 (d2 : Int), .int .u32 (hx : Int), .bool d4] 52)) := (Below.refl _ _).alloc (Nat.le_refl _) _
            generalize hw : w6.alloc (.cells #[.int .u64 (d0 : Int), .int .i64 (d1 : Int), .int .i64 (d2 : Int), .int .u32 (hx : Int), .bool d4] 52) = w7 at *
            clear hw
            have f7 := cells5 hw7
            have hb8 : Below w7.heap.size w7 (w7.alloc (.cells #[.int .u32 (hx : Int)] 29)) := (Below.refl _ _).alloc (Nat.le_refl _) _
            have HU8 := Lib.hid ((HU6.out.below hb7).below hb8)
            have HR8 := Lib.hid (rd_oneU w7 hx)
            have HB8 := Lib.hid ((HB6.out.trans (hb7.mono HB6.out.size)).trans (hb8.mono (Nat.le_trans HB6.out.size hb7.size)))
            clear hw7 hb7 hb8 HU6 HB6
            go_wp2_with (at_builtin; refine wpList_append_u (base := w5.heap.size) (news := [hx]) rfl _ _ rfl rfl rfl HU8.out HR8.out (fun h => by cases h) (by omega) (by simp) HB8.out.size ?_; intro A10 t10 c10 w10 HT10 HU10 HB10)
            go_roundw
            case rel => exact ⟨q + 1, A10, c10, t10, hlt, rfl, by simp, Lib.hid (by rw [HT10.out, HT1.out]), HU10, Lib.hid (HB8.out.trans HB10.out)⟩
            case measure => simp [intOf]; omega
          · have hqe : q = fs.length := by omega
            subst hqe
            have HTe : Hid (ts = fs.map (hashAt os')) := Lib.hid (by rw [HT.out, List.take_of_length_le (by simp)])
            have HGr := Lib.hid (HG5.out.below HB.out)
            have HEr := Lib.hid (HE5.out.below HB.out)
            have HRr := Lib.hid ((HR5.out.below HB.out (Nat.le_refl _)).more HB.out.size)
            have HTl : Hid (ts.length = fs.length) := Lib.hid (by rw [HTe.out]; simp)
            clear HG5 HE5 HR5 HO5 HT hq hlt
            have hst := stays_of HGr.out.obs.isP HF.out.led.good
            obtain ⟨xs, hxs⟩ : ∃ xs, stayX os' fs os'.length = xs := ⟨_, rfl⟩
            rw [hxs] at hst
            clear hxs
            have HSt := Lib.hid hst
            have hco := collh_len (collecth_any (last := last) rs A1 c1 wr HGr.out.obs HEr.out (Nat.le_of_lt (Nat.lt_of_le_of_lt HGr.out.obs.heap.bg HGr.out.obs.heap.gl.1)) (by decide) HRr.out HN4.out HX.out (by have := HXl.out; omega) HF.out.find HF.out.waves HF.out.all HSt.out HF.out.closed (fun x hx hw => HF.out.roots x hx hw) (by have := HGr.out.obs.heap.room; omega) (HGr.out.tg.some HPos.out) (HGr.out.tg.clean (laid_clean HOk.out).1) HGr.out.tg.le (by have := HLa.out; omega) HGr.out.tg.ds)
            clear hst
            go_wp2_with fail
            refine hco.mono ?_
            rintro e w6 ⟨A6, c6, rfl, ⟨gcm, capm, gbm, gbm2, ws', hM⟩, hrd6, -, hch⟩
            obtain ⟨gl, hgl⟩ : ∃ gl, goal os' (ksOf xs) = gl := ⟨_, rfl⟩
            obtain ⟨fs2, S2, hF2⟩ : ∃ fs2 S2, Found0 (moved os' (ksOf xs)) ws' (rs.map gl) fs2 S2 T (fs.map gl) := ⟨_, _, by rw [← hgl]; exact (HF.out.moved HSt.out hM.isP).1⟩
            have hmv := (HF.out.moved HSt.out hM.isP).2
            have hP : ∀ p ∈ fs, isP ws' (gl p) := fun p hp => by rw [← hgl]; exact (hmv.ptr p ((HSt.out.kept p).1 hp)).2
            have hg64 : ∀ x ∈ rs.map gl, x < 18446744073709551616 := by
              intro x hx
              obtain ⟨y, hy, rfl⟩ := List.mem_map.1 hx
              by_cases hw : isW y
              · have := (hP y (HF.out.roots y hy hw)).2.2.1; omega
              · rw [← hgl, goal_num y hw]; exact HX.out y hy
            have hb6 : Below w.heap.size w w6 := by
              have h1 := HGr.out.bel
              have b0 := HGr.out.obs.heap.bg
              have b1 := HP.out.base
              have b2 := h1.size
              exact ⟨hch.os.trans h1.os, hch.tape.trans h1.tape, hch.output.trans h1.output, Nat.le_trans h1.size hch.size, fun k hk => (hch.block k (by omega) (by omega) (by omega)).trans (h1.block k hk)⟩
            have hU6 : OwnU w6 w5.heap.size (.slice A9 ts.length c9) ts := ownsRow_keep HU.out fun b cur _ hc => by
              have hne : b ≠ g := other_type hc HGr.out.obs.heap.hd (by decide)
              exact hch.block b (lt_of_block hc) hne hne
            have hor : Calls Tryd.prog 8 #[.pointer (some ⟨g, 0, none⟩), .slice A6 rs.length c6] w6 (OrdPost (fs.map gl) w6) := by
              have h := order_any (rs.map gl) A6 c6 w6 hM.graph.leads hM.heap (by rw [← hgl]; exact hrd6) hg64 (by rw [List.length_map]; exact hrl9) hF2.find hF2.waves
              rw [hF2.all, List.length_map] at h
              exact h
            have hor2 := ord_lenH hor
            have HM6 := Lib.hid hM
            have HB6 := Lib.hid hb6
            have HU6 := Lib.hid hU6
            have HPm := Lib.hid hP
            have HHm : Hid (∀ p ∈ fs, hashAt (moved os' (ksOf xs)) (gl p) = hashAt os' p) := Lib.hid fun p hp => by rw [← hgl]; exact hash_moved HSt.out hp
            clear hco hM hrd6 hch hF2 hmv hP hg64 hb6 hU6 hor hgl HGr HEr HRr HN4 HX HXl HF HU HB HSt
            go_wp2_with fail
            refine hor2.mono ?_
            rintro e w7 ⟨A7, c7, rfl, hr7, hb7⟩
            have HM7 := Lib.hid (HM6.out.below hb7)
            have HB7 := Lib.hid (HB6.out.trans (hb7.mono HB6.out.size))
            have HU7 := Lib.hid (HU6.out.below hb7)
            have HR7 := Lib.hid hr7
            have hla7 := lastH_any w7 HM7.out.heap
            clear hor2 hr7 hb7 HM6 HB6 HU6
            go_wp2_with (go_at_call 9; (with_reducible refine hla7.mono ?_); rintro e w' ⟨rfl, rfl⟩)
            clear hla7
            go_loopw [155] (fun v wr => ∃ q : Nat, q ≤ fs.length ∧ v = .int .i64 (q : Int) ∧ Hid (Below w7.heap.size w7 wr)) (fun v _ => fs.length - (intOf v).toNat)
            case atStart => exact ⟨0, Nat.zero_le _, rfl, Lib.hid (Below.refl _ _)⟩
            case round =>
              obtain ⟨q, hq, rfl, HB⟩ := hrel
              by_cases hlt : q < fs.length
              · have hlt' : q < (fs.map gl).length := by rw [List.length_map]; exact hlt
                obtain ⟨bo, oo, rfl, hbo, hco⟩ := rdw_at (HR7.out.below HB.out (Nat.le_refl _)) hlt'
                have hbo2 : bo < wr.heap.size := Nat.lt_of_lt_of_le hbo HB.out.size
                have hhd := head_hash (p := gl fs[q]) (HPm.out _ (List.getElem_mem hlt)) (HM7.out.below HB.out)
                rw [HHm.out _ (List.getElem_mem hlt)] at hhd
                rw [List.getElem_map] at hco
                have hts : q < ts.length := by rw [HTl.out]; exact hlt
                obtain ⟨b9, o9, rfl, hb9, hc9⟩ := rd32_at (ownU_rd (HU7.out.below HB.out)) hts
                have he9 : ts[q] = hashAt os' fs[q] := by simp only [HTe.out, List.getElem_map]
                rw [he9] at hc9
                clear he9
                generalize hashAt os' fs[q] = hx at *
                generalize gl fs[q] = x at *
                have HC9 := Lib.hid (And.intro hb9 hc9)
                clear hb9 hc9 hlt' hbo
                go_wp2_with fail
                refine hhd.mono ?_
                rintro e w8 ⟨d0, d1, d2, d4, rfl, hb8⟩
                have hc9 := (hb8.cell (p := ⟨b9, o9 + q, none⟩) HC9.out.1).trans HC9.out.2
                have hb9 : b9 < w8.heap.size := Nat.lt_of_lt_of_le HC9.out.1 hb8.size
                have HB8 := Lib.hid (HB.out.trans (hb8.mono HB.out.size))
                clear hhd hco hbo2 hb8 HB HC9
                go_upto_region 33 with fail
                have hw9 := heap_alloc_new w8 (.cells #[.int .u64 (d0 : Int), .int .i64 (d1 : Int), .int .i64 (d2 : Int), .int .u32 (hx : Int), .bool d4] 52)
                have hb9w : Below w8.heap.size w8 (w8.alloc (.cells #[.int .u64 (d0 : Int), .int .i64 (d1 : Int), .int .i64 (d2 : Int), .int .u32 (hx : Int), .bool d4] 52)) := (Below.refl _ _).alloc (Nat.le_refl _) _
                generalize hw : w8.alloc (.cells #[.int .u64 (d0 : Int), .int .i64 (d1 : Int), .int .i64 (d2 : Int), .int .u32 (hx : Int), .bool d4] 52) = w9 at *
                clear hw
                have f9 := cells5 hw9
                have hc10 := (hb9w.cell (p := ⟨b9, o9 + q, none⟩) hb9).trans hc9
                have hb10 : b9 < w9.heap.size := Nat.lt_of_lt_of_le hb9 hb9w.size
                have HBq := Lib.hid (fun nq => (show Below w7.heap.size w7 (w9.drewN nq) from below_drewN (HB8.out.trans (hb9w.mono HB8.out.size)) nq))
                clear hc9 hb9 hw9 hb9w HB8
                go_cut [172] (fun v wx => v = .bool false ∧ Hid (Below w7.heap.size w7 wx))
                case first =>
                  go_quiet (fail)
                  go_wp2_with fail
                  all_goals go_meet
                  all_goals exact ⟨by simp, Lib.hid (HBq.out _)⟩
                case rest =>
                  obtain ⟨rfl, HB11⟩ := hcut
                  go_wp2_with fail
                  go_roundw
                  case rel => exact ⟨q + 1, hlt, by simp, HB11⟩
                  case measure => simp [intOf]; omega
              · clear HM7 HU7 HR7 HPm HHm
                have HBe := Lib.hid (HB7.out.trans (HB.out.mono HB7.out.size))
                clear HB HB7
                go_wp2_with fail
                go_ret
                exact ⟨rfl, HBe.out⟩
theorem walk_GcHashes (s : Option Addr) (len cap : Nat) (zs : List Int) (s' : Option Addr) (len' cap' : Nat) (zs' : List Int) (sA : Option Addr) (lenA capA : Nat) (zA : List Int) (sT : Option Addr) (lenT capT : Nat) (zT : List Int) (W : World) (h : IsRow .i64 W s len cap zs) (h' : IsRow .u64 W s' len' cap' zs') (hA : IsRow .u64 W sA lenA capA zA) (hT : IsRow .i64 W sT lenT capT zT) (he : EnvB W) :
    Calls Tryd.prog 3 #[.agg #[.slice s len cap, .slice s' len' cap'], .slice sA lenA capA, .slice sT lenT capT] W fun e w' => e = .returned (.bool true) ∧ Below W.heap.size W w' := by
  obtain ⟨cs, rfl, hlc, hcm, hr, _, hw⟩ := ints_row h
  obtain ⟨ls, rfl, hlc', hcm', hr', hlw⟩ := words_row h'
  obtain ⟨as', rfl, hlA, hcA, hrA, hwA⟩ := words_row hA
  obtain ⟨ts, rfl, hlT, hcT, hrT, _, _⟩ := ints_row hT
  have hm : maxLen ≤ 9223372036854775807 := by unfold maxLen; omega
  exact ghashes_any s s' cs ls cap cap' sA as' capA sT ts capT W hr hr' hlc (by omega) (by omega) hw hlw hrA (by omega) hwA hrT (by omega) he
end Go.Proofs.YtahmljjjdoaahaaDoor.Fl
