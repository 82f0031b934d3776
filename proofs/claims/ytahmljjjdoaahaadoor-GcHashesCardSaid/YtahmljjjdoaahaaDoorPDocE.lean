/-
  The document's heap in memory: Check, Copy.
-/
import Derived.Test.YtahmljjjdoaahaaDoorDocC
namespace Go.Proofs.YtahmljjjdoaahaaDoor.Fl
open Go.RowKit

set_option maxHeartbeats 1000000 in
theorem rcheck_yes {lo B : Nat} {A : Option Addr} {os : List Ob} (size last : Int) (c k i : Nat) (w : World) (h : DocAt w lo B A os) (hB : B ≤ w.heap.size) (hl : (Lof os).length ≤ 16777216) (hk : k < os.length) (h2 : os[k].kind ≠ 2) (hi : i < os[k].sz) (_hsz : os[k].sz ≤ 1048576) :
    Calls Tryd.prog 44 #[.agg #[.int .i64 size, .slice A os.length c, .int .u32 last], .int .u64 ((2 * pos os k : Nat) : Int), .int .i64 (i : Int), .bool false] w fun e w' => e = .returned (.tuple #[.int .i64 (k : Int), .int .i64 0]) ∧ Below w.heap.size w w' := by
  have hf := fun (w' : World) (hw' : DocAt w' lo B A os) (hb : B ≤ w'.heap.size) => rfind_any size last c (2 * pos os k) w' hw' hb hl
  rw [findI_pos os hk] at hf
  obtain ⟨wr, hwr⟩ : ∃ wr, w.alloc (.cells #[.int .i64 size, .slice A os.length c, .int .u32 last] 31) = wr := ⟨_, rfl⟩
  have B1 : wr.heap[w.heap.size]? = some (.cells #[.int .i64 size, .slice A os.length c, .int .u32 last] 31 (0, 0)) := by rw [← hwr]; exact heap_alloc_new w _
  have hbr : Below w.heap.size w wr := by rw [← hwr]; exact (Below.refl _ _).alloc (Nat.le_refl _) _
  have l1 : w.heap.size < wr.heap.size := lt_of_block B1
  have HD := Lib.hid (h.below (hbr.mono hB))
  have f1 := cells3 B1
  have hkl : k ≤ 16777216 := by have := pos_ge os (Nat.le_of_lt hk); have := pos_top os hk; omega
  have hp : pos os k ≤ 16777216 := by have := pos_top os hk; omega
  have HB := Lib.hid hbr
  clear h
  go_enter Tryd.func44, Tryd.ntmps44
  go_wp2_with fail
  refine (hf _ HD.out (by omega)).mono ?_
  rintro e w2 ⟨rfl, hb2⟩
  have HB2 := Lib.hid (HB.out.trans (hb2.mono hbr.size))
  have B2 : w2.heap[w.heap.size]? = some (.cells #[.int .i64 size, .slice A os.length c, .int .u32 last] 31 (0, 0)) := (hb2.block _ l1).trans B1
  obtain ⟨b, off, Aw, cA, Ab, cB, e, hb, d0, d1, d2, d3, drest⟩ := (HD.out.below (hb2.mono (by omega))).at_ hk
  subst e
  clear drest
  have g1 := cells3 B2
  have hkk : ((os[k].kind : Int) == 2) = false := by simp; omega
  have hlen : k < os.length := hk
  generalize os[k].kind = kd at *
  generalize os[k].sz = sz at *
  generalize pos os k = P at *
  clear hf hwr B1 hbr l1 HD f1 HB hb2 B2 d0 d1 hb h2 hk
  go_wp2_with fail
  go_ret2
  exact ⟨rfl, HB2.out⟩
set_option maxHeartbeats 1000000 in
theorem rcopy_any {B : Nat} {A : Option Addr} (xs : List UInt8) (c : Nat) (w : World) (h : Rd w B A (cb xs)) (hB : B ≤ w.heap.size) (hl : xs.length ≤ 16777216) :
    Calls Tryd.prog 61 #[.slice A xs.length c] w fun e w' => ∃ A' c', e = .returned (.slice A' xs.length c') ∧ Own w' w.heap.size (.slice A' xs.length c') xs ∧ Below w.heap.size w w' := by
  obtain ⟨i0, hi, hz0, hz1, hz2⟩ := info_parts u8info
  have hA : A = none → xs.length = 0 := by
    rintro rfl
    rcases h with h | ⟨b, off, e, _⟩
    · have := congrArg List.length h; rw [cb_len] at this; exact this
    · cases e
  have HR := Lib.hid (h.below ((Below.refl _ _).alloc hB (.cells #[] 5)) (Nat.le_refl _))
  have HO := Lib.hid (own_void w 5 1 w.heap.size (Nat.le_refl _))
  have HA := Lib.hid hA
  have HL := Lib.hid hl
  have hone : ∀ u ∈ cb xs, u.oneCell' = true := by intro u hu; obtain ⟨x, _, rfl⟩ := List.mem_map.1 hu; rfl
  have HOne := Lib.hid hone
  clear h hA hl hone
  go_enter Tryd.func61, Tryd.ntmps61
  go_wp2_with (at_builtin; refine wpList_append_rd (base := w.heap.size) (size := 1) (bytes := 1) (n := 0) (m := xs.length) (c := c) rfl _ _ rfl Tryd.underlying41 hi hz0 hz1 hz2 rfl (by decide) rfl rfl HO.out HR.out (by rw [cb_len]; omega) HA.out HOne.out (by have := HL.out; unfold maxLen; omega) (by have := HL.out; omega) (by simp) ?_; intro v' w2 happ; obtain ⟨A2, c2, hv, _, _⟩ := happ.slice; subst hv; have HAp := Lib.hid happ; clear happ)
  go_ret
  refine ⟨A2, c2, rfl, ?_, ?_⟩
  · have := HAp.out.own
    rw [Nat.zero_add, List.nil_append] at this
    exact this
  · exact ((Below.refl w.heap.size w).alloc (Nat.le_refl _) (.cells #[] 5)).grown HAp.out.grown (by simp) (fun k hk => by have e : some w.heap.size = some k := hk; injection e with e; omega)
end Go.Proofs.YtahmljjjdoaahaaDoor.Fl

/-
  The document's heap in memory: own.
-/
namespace Go.Proofs.YtahmljjjdoaahaaDoor.Fl
open Go.RowKit

theorem ownsRow_block {w : World} {base size n c g m : Nat} {e : TypeId} {xs : List Value} (h : w.ownsRow base e size (.slice (some ⟨g, 0, none⟩) m c) n xs) : base ≤ g ∧ g < w.heap.size := by
  rcases h.2 with ⟨e1, _⟩ | ⟨g', cap, cur, e1, hb, hg, _⟩
  · cases e1
  · injection e1 with e1 _ _
    injection e1 with e1
    injection e1 with e1
    subst e1
    exact ⟨hb, lt_of_block hg⟩
theorem ownsRow_at {w : World} {base size n c g m : Nat} {e : TypeId} {xs : List Value} (h : w.ownsRow base e size (.slice (some ⟨g, 0, none⟩) m c) n xs) {j : Nat} {v : Value} (hj : xs[j]? = some v) : w.cell? ⟨g, j, none⟩ = some v := by
  have := h.cells (g := g) rfl j v hj
  have e : (⟨g, 0, none⟩ : Addr).add j = ⟨g, j, none⟩ := by unfold Addr.add; split <;> simp_all
  rw [e] at this; exact this
theorem ownsRow_frozen {w : World} {base size n c g m : Nat} {e : TypeId} {xs : List Value} (h : w.ownsRow base e size (.slice (some ⟨g, 0, none⟩) m c) n xs) (j : Nat) (_h : 0 ≤ j) : w.frozen? ⟨g, j, none⟩ = false := by
  rcases h.2 with ⟨e1, _⟩ | ⟨g', cap, cur, e1, hb, hg, _⟩
  · cases e1
  · injection e1 with e1 _ _
    injection e1 with e1
    injection e1 with e1
    subst e1
    exact frozen_of_row _ _ _ _ _ hg
theorem ownsRow_base {w : World} {base base' size n : Nat} {e : TypeId} {v : Value} {xs : List Value} (h : w.ownsRow base e size v n xs) (hb : base' ≤ base) : w.ownsRow base' e size v n xs :=
  ⟨h.1, h.2.elim .inl fun ⟨g, cap, cur, e1, hbg, r⟩ => .inr ⟨g, cap, cur, e1, Nat.le_trans hb hbg, r⟩⟩
theorem ownsRow_heap {w w' : World} {base size n : Nat} {e : TypeId} {v : Value} {xs : List Value} (h : w.ownsRow base e size v n xs) (hh : w'.heap = w.heap) : w'.ownsRow base e size v n xs :=
  ⟨h.1, h.2.elim .inl fun ⟨g, cap, cur, e1, hbg, hg, r⟩ => .inr ⟨g, cap, cur, e1, hbg, by rw [hh]; exact hg, r⟩⟩
theorem ownsRow_type {w : World} {base size n c g m : Nat} {e : TypeId} {xs : List Value} (h : w.ownsRow base e size (.slice (some ⟨g, 0, none⟩) m c) n xs) : ∃ cur, w.heap[g]? = some (.cells cur e (0, 0)) := by
  rcases h.2 with ⟨e1, _⟩ | ⟨g', cap, cur, e1, hb, hg, _⟩
  · cases e1
  · injection e1 with e1 _ _
    injection e1 with e1
    injection e1 with e1
    subst e1
    exact ⟨cur, hg⟩
theorem rd_none {w : World} {B : Nat} {A : Option Addr} {ws : List Nat} (h : Rd w B A (cw ws)) (hA : A = none) : ws.length = 0 := by
  rcases h with h | ⟨b, off, e, _⟩
  · have := congrArg List.length h; rw [cw_len] at this; exact this
  · rw [hA] at e; cases e
/-- the list behind the new words -/
structure Own2 (w wx : World) (S0 g c' k n : Nat) (size last : Int) (us : List (List Value)) (ws : List Nat) (A2 : Option Addr) (c2 : Nat) : Prop where
  p0 : wx.heap[S0]? = some (.cells #[.int .i64 size, .slice (some ⟨g, 0, none⟩) n c', .int .u32 last] 31 (0, 0))
  p1 : wx.heap[S0 + 1]? = some (.cells #[.int .i64 0, .slice none 0 0, .int .u32 0] 31 (0, 0))
  row : wx.ownsRow (S0 + 1 + 1) 43 8 (.slice (some ⟨g, 0, none⟩) n c') n (us.flatten.set (k * 8 + 6) (.slice A2 ws.length c2))
  words : OwnW wx (S0 + 1 + 1) (.slice A2 ws.length c2) ws
  below : Below S0 w wx
theorem own2_fin {w wc w2 : World} {S0 g c' k n c2 : Nat} {size last : Int} {us : List (List Value)} {ws : List Nat} {A2 : Option Addr}
    (p0 : wc.heap[S0]? = some (.cells #[.int .i64 size, .slice (some ⟨g, 0, none⟩) n c', .int .u32 last] 31 (0, 0)))
    (p1 : wc.heap[S0 + 1]? = some (.cells #[.int .i64 0, .slice none 0 0, .int .u32 0] 31 (0, 0)))
    (row : wc.ownsRow (S0 + 1 + 1) 43 8 (.slice (some ⟨g, 0, none⟩) n c') n us.flatten) (hb : Below S0 w wc)
    (ha : AppRow (wc.alloc (.cells #[] 37)).drew (S0 + 1 + 1) 1 0 ws.length 37 (.slice (some ⟨wc.heap.size, 0, none⟩) 0 0) [] (cw ws) (.slice A2 (0 + ws.length) c2) w2) :
    Own2 w (w2.setCell ⟨g, k * 8 + 6, none⟩ (.slice A2 ws.length c2)) S0 g c' k n size last us ws A2 c2 := by
  have lg := ownsRow_block row
  have l0 := lt_of_block p0
  have l1 := lt_of_block p1
  have hne : ∀ b, b < wc.heap.size → w2.heap[b]? = wc.heap[b]? := fun b hb => (ha.grown.block b (by show b < (wc.alloc _).heap.size; simp; omega) (by simp [Value.ownBlock]; omega)).trans (heap_alloc_old wc _ hb)
  have hrow : w2.ownsRow (S0 + 1 + 1) 43 8 (.slice (some ⟨g, 0, none⟩) n c') n us.flatten := by
    refine ⟨row.1, ?_⟩
    rcases row.2 with h | ⟨g', cap, cur, e1, hbg, hg, r⟩
    · exact .inl h
    · exact .inr ⟨g', cap, cur, e1, hbg, (hne g' (lt_of_block hg)).trans hg, r⟩
  obtain ⟨cur, hcur⟩ := ownsRow_type hrow
  have hown := ha.own
  rw [Nat.zero_add, List.nil_append] at hown
  refine ⟨(Below.heap_setCell _ _ _ _ (by show S0 ≠ g; omega)).trans ((hne S0 l0).trans p0), (Below.heap_setCell _ _ _ _ (by show S0 + 1 ≠ g; omega)).trans ((hne _ l1).trans p1), (World.ownsRow.stored hrow _ _).1, ?_, ?_⟩
  · exact ownw_at hown (fun b cur' hb' => Below.heap_setCell _ _ _ _ (by
      show b ≠ g
      exact other_type hb' hcur (by decide)))
  · refine Below.setCell ?_ (by show S0 ≤ g; omega) _
    exact ((hb.alloc (by omega) _).drew).grown ha.grown (by show S0 ≤ (wc.alloc _).heap.size; simp; omega) (fun k hk => by have e : some wc.heap.size = some k := hk; injection e with e; omega)
theorem flatten_set (n : Nat) : ∀ (us : List (List Value)), (∀ u ∈ us, u.length = n) → ∀ k j (u : List Value) (v : Value), us[k]? = some u → j < n → us.flatten.set (k * n + j) v = (us.set k (u.set j v)).flatten
  | [], _, k, j, u, v, hu, _ => by simp at hu
  | u0 :: t, h, 0, j, u, v, hu, hj => by
    have e : u0 = u := by simpa using hu
    subst e
    have := h u0 (by simp)
    rw [Nat.zero_mul, Nat.zero_add, List.flatten_cons, List.set_append_left _ _ (by omega), List.set_cons_zero, List.flatten_cons]
  | u0 :: t, h, k + 1, j, u, v, hu, hj => by
    have h0 := h u0 (by simp)
    have hu' : t[k]? = some u := by simpa using hu
    rw [List.flatten_cons, List.set_append_right _ _ (by rw [h0, Nat.succ_mul]; omega), h0, show (k + 1) * n + j - n = k * n + j by rw [Nat.succ_mul]; omega,
      flatten_set n t (fun x hx => h x (by simp [hx])) k j u v hu' hj, List.set_cons_succ, List.flatten_cons]
/-- the list behind the new bytes -/
structure Own3 (w wx : World) (S0 g c' k n : Nat) (size last : Int) (us : List (List Value)) (ws : List Nat) (A2 : Option Addr) (c2 : Nat) (bs : List UInt8) (A3 : Option Addr) (c3 : Nat) : Prop where
  p0 : wx.heap[S0]? = some (.cells #[.int .i64 size, .slice (some ⟨g, 0, none⟩) n c', .int .u32 last] 31 (0, 0))
  p1 : wx.heap[S0 + 1]? = some (.cells #[.int .i64 0, .slice none 0 0, .int .u32 0] 31 (0, 0))
  row : wx.ownsRow (S0 + 1 + 1) 43 8 (.slice (some ⟨g, 0, none⟩) n c') n ((us.flatten.set (k * 8 + 6) (.slice A2 ws.length c2)).set (k * 8 + 7) (.slice A3 bs.length c3))
  words : OwnW wx (S0 + 1 + 1) (.slice A2 ws.length c2) ws
  bytes : Own wx (S0 + 1 + 1) (.slice A3 bs.length c3) bs
  below : Below S0 w wx
theorem own3_fin {w wc w2 : World} {S0 g c' k n c2 c3 : Nat} {size last : Int} {us : List (List Value)} {ws : List Nat} {A2 A3 : Option Addr} {bs : List UInt8}
    (h : Own2 w wc S0 g c' k n size last us ws A2 c2) (hb : Below wc.heap.size wc w2) (hr : Own w2 wc.heap.size (.slice A3 bs.length c3) bs) :
    Own3 w (w2.setCell ⟨g, k * 8 + 7, none⟩ (.slice A3 bs.length c3)) S0 g c' k n size last us ws A2 c2 bs A3 c3 := by
  have lg := ownsRow_block h.row
  have l0 := lt_of_block h.p0
  have l1 := lt_of_block h.p1
  have hrow : w2.ownsRow (S0 + 1 + 1) 43 8 (.slice (some ⟨g, 0, none⟩) n c') n (us.flatten.set (k * 8 + 6) (.slice A2 ws.length c2)) := by
    refine ⟨h.row.1, ?_⟩
    rcases h.row.2 with h | ⟨g', cap, cur, e1, hbg, hg, r⟩
    · exact .inl h
    · exact .inr ⟨g', cap, cur, e1, hbg, (hb.block g' (lt_of_block hg)).trans hg, r⟩
  obtain ⟨cur, hcur⟩ := ownsRow_type hrow
  refine ⟨(Below.heap_setCell _ _ _ _ (by show S0 ≠ g; omega)).trans ((hb.block S0 l0).trans h.p0), (Below.heap_setCell _ _ _ _ (by show S0 + 1 ≠ g; omega)).trans ((hb.block _ l1).trans h.p1), (World.ownsRow.stored hrow _ _).1, ?_, ?_, ?_⟩
  · refine ownw_at (ownw_at h.words (fun b cur' hb' => hb.block b (lt_of_block hb'))) (fun b cur' hb' => Below.heap_setCell _ _ _ _ (by
      show b ≠ g
      exact other_type hb' hcur (by decide)))
  · exact ownsRow_base (ownsRow_lo hr lg.2) (by omega)
  · exact (h.below.trans (hb.mono (by omega))).setCell (by show S0 ≤ g; omega) _
/-- what own answers: a list of its own, whose object number k has words of its own -/
structure ROwn (lo B : Nat) (w w' : World) (os : List Ob) (k : Nat) (g c' : Nat) (Aw : Option Addr) (cA : Nat) (us : List (List Value)) (Ab : Option Addr) (cB : Nat) : Prop where
  len : us.length = os.length
  row : w'.ownsRow w.heap.size 43 8 (.slice (some ⟨g, 0, none⟩) os.length c') os.length us.flatten
  others : ∀ j (h : j < os.length), j ≠ k → ∃ u, us[j]? = some u ∧ DocV w' lo B (pos os j) os[j] u
  one : ∀ h : k < os.length, us[k]? = some [.int .i64 (pos os k : Int), .int .u64 (os[k].cl : Int), .int .i64 (os[k].kind : Int), .int .i64 (os[k].sz : Int), .int .u32 (os[k].hash : Int), .bool os[k].mark, .slice Aw os[k].words.length cA, .slice Ab os[k].bytes.length cB] ∧
    OwnW w' w.heap.size (.slice Aw os[k].words.length cA) os[k].words ∧ Own w' w.heap.size (.slice Ab os[k].bytes.length cB) os[k].bytes
  below : Below w.heap.size w w'
set_option maxRecDepth 100000 in
set_option maxHeartbeats 4000000 in
theorem rown_any {lo B : Nat} {A : Option Addr} {os : List Ob} (size last : Int) (c k : Nat) (w : World) (h : DocAt w lo B A os) (hB : B ≤ w.heap.size) (hl : (Lof os).length ≤ 16777216) (hk : k < os.length) (hwl : os[k].words.length ≤ 1048576 ∧ os[k].bytes.length ≤ 1048576) :
    Calls Tryd.prog 45 #[.agg #[.int .i64 size, .slice A os.length c, .int .u32 last], .int .i64 (k : Int)] w fun e w' => ∃ g c' Aw cA us Ab cB, e = .returned (.agg #[.int .i64 size, .slice (some ⟨g, 0, none⟩) os.length c', .int .u32 last]) ∧ ROwn lo B w w' os k g c' Aw cA us Ab cB := by
  obtain ⟨us, hus, hrd⟩ := h
  have hlen : us.flatten.length = os.length * 8 := by rw [flatten_len 8 us hus.eight, hus.1]
  have HAn := Lib.hid (fun h : A = none => hus.none hrd.rd h)
  have hos : os.length ≤ 16777216 := by
    have h1 := pos_ge os (Nat.le_refl _)
    rw [pos_all] at h1
    omega
  obtain ⟨i0, hi, hz0, hz1, hz2⟩ := info_parts objinfo
  have HAt := Lib.hid (And.intro hi (And.intro hz0 (And.intro hz1 hz2)))
  obtain ⟨p0, p1, p2, p3⟩ := alloc3 w (.cells #[.int .i64 size, .slice A os.length c, .int .u32 last] 31) (.cells #[.int .i64 0, .slice none 0 0, .int .u32 0] 31) (.cells #[] 43)
  have hb3 := below3 w (.cells #[.int .i64 size, .slice A os.length c, .int .u32 last] 31) (.cells #[.int .i64 0, .slice none 0 0, .int .u32 0] 31) (.cells #[] 43)
  have P0 := Lib.hid p0
  have P1 := Lib.hid p1
  have P2 := Lib.hid p2
  have P3 := Lib.hid p3
  have HB3 := Lib.hid hb3
  have HRd := Lib.hid (hrd.rd.below (hb3.mono hB) (Nat.le_refl _))
  have HUs := Lib.hid hus
  have HL := Lib.hid hlen
  have HWl := Lib.hid hwl
  clear hus hrd hlen hi hz0 hz1 hz2 p0 p1 p2 p3 hb3 hwl
  go_enter Tryd.func45, Tryd.ntmps45
  go_upto_region 1 with fail
  go_cut [8] (fun v wx => ∃ g c', Hid (wx.heap[w.heap.size]? = some (.cells #[.int .i64 size, .slice (some ⟨g, 0, none⟩) os.length c', .int .u32 last] 31 (0, 0))) ∧ Hid (wx.heap[w.heap.size + 1]? = some (.cells #[.int .i64 0, .slice none 0 0, .int .u32 0] 31 (0, 0))) ∧
    Hid (wx.ownsRow (w.heap.size + 1 + 1) 43 8 (.slice (some ⟨g, 0, none⟩) os.length c') os.length us.flatten) ∧ Hid (Below w.heap.size w wx))
  case first =>
    go_wp2_with (at_builtin; refine wpList_append_rd (base := w.heap.size + 1 + 1) (size := 8) (bytes := 88) (n := 0) (m := os.length) (c := c) (v := .slice (some ⟨w.heap.size + 1 + 1, 0, none⟩) 0 0) (xs := []) rfl _ _ rfl Tryd.underlying28 HAt.out.1 HAt.out.2.1 HAt.out.2.2.1 HAt.out.2.2.2 rfl (by decide) rfl rfl (own_block0 P2.out (Nat.le_refl _)) HRd.out HL.out HAn.out HUs.out.one (by unfold maxLen; omega) (by omega) (by rw [P3.out]; omega) ?_; intro v' w2 happ; obtain ⟨A2, c2, hv, hA2, hA3⟩ := happ.slice; subst hv; have q0 := (happ.grown.block w.heap.size (by rw [P3.out]; omega) (by simp [Value.ownBlock]; omega)).trans P0.out; have f0 := cells3 q0; have HAp := Lib.hid happ; have HA := Lib.hid (And.intro hA2 hA3); have q1 := (happ.grown.block (w.heap.size + 1) (by rw [P3.out]; omega) (by simp [Value.ownBlock])).trans P1.out; have Q0 := Lib.hid q0; have Q1 := Lib.hid q1; clear happ hA2 hA3 q0 q1)
    go_meet
    obtain ⟨a, rfl⟩ : ∃ a, A2 = some a := by
      cases A2 with
      | none => have := HA.out.1 rfl; omega
      | some a => exact ⟨a, rfl⟩
    obtain ⟨z1, z2, z3, z4, z5⟩ := HA.out.2 a rfl
    obtain ⟨g, off, spot⟩ := a
    simp only at z1 z2 z3 z4
    subst z1 z2
    have hrow := HAp.out.own
    rw [Nat.zero_add, List.nil_append] at hrow
    exact ⟨g, c2, Lib.hid (heap_setCell_same _ _ 1 _ _ _ Q0.out), Lib.hid ((Below.heap_setCell _ _ _ _ (by show w.heap.size + 1 ≠ w.heap.size; omega)).trans Q1.out), Lib.hid (ownsRow_lo hrow (by omega)),
      Lib.hid ((HB3.out.grown HAp.out.grown (by rw [P3.out]; omega) (fun k hk => by have e : some (w.heap.size + 1 + 1) = some k := hk; injection e with e; omega)).setCell (p := ⟨w.heap.size, 1, none⟩) (Nat.le_refl _) _)⟩
  case rest =>
    obtain ⟨g, c', Q0, Q1, HRow, HBx⟩ := hcut
    clear P0 P1 P2 P3 HB3 HRd HAn HAt
    obtain ⟨u, hu, ⟨Aw, cA, Ab, cB, hue, hrw, hrb⟩⟩ := HUs.out.2 k hk
    have hbB := HBx.out.mono hB
    have HRw := Lib.hid (hrw.rd.below hbB (Nat.le_refl _))
    have HRb := Lib.hid (hrb.rd.below hbB (Nat.le_refl _))
    have hcs := fun (j : Nat) (v : Value) (hj : u[j]? = some v) => ownsRow_at HRow.out (j := k * 8 + j) (v := v) (by
      have hj8 : j < 8 := by
        rw [hue] at hj
        rcases Nat.lt_or_ge j 8 with h | h
        · exact h
        · rw [List.getElem?_eq_none (by simpa using h)] at hj; cases hj
      rw [flatten_at 8 us HUs.out.eight k j hj8, hu]; exact hj)
    have d6 := hcs 6 _ (by rw [hue]; rfl)
    have d7 := hcs 7 _ (by rw [hue]; rfl)
    have dfz := fun j => ownsRow_frozen HRow.out j (by omega)
    have l0 := lt_of_block Q0.out
    have lg := ownsRow_block HRow.out
    have f0 := cells3 Q0.out
    have hS0 : w.heap.size ≠ g := by have := lg.1; omega
    have hrb0 := Lib.hid hrb.rd
    clear hrw hrb hbB hcs
    go_upto_region 2 with fail
    go_cut [20] (fun v wx => ∃ A2 c2, Hid (Own2 w wx w.heap.size g c' k os.length size last us os[k].words A2 c2))
    case first =>
      have HF2 := Lib.hid (fun (A2 : Option Addr) (c2 : Nat) (w2 : World) (ha : AppRow (wc.alloc (.cells #[] 37)).drew (w.heap.size + 1 + 1) 1 0 os[k].words.length 37 (.slice (some ⟨wc.heap.size, 0, none⟩) 0 0) [] (cw os[k].words) (.slice A2 (0 + os[k].words.length) c2) w2) =>
        own2_fin (k := k) Q0.out Q1.out HRow.out HBx.out ha)
      have vA := Lib.hid (show (wc.alloc (.cells #[] 37)).drew.heap[wc.heap.size]? = some (.cells #[] 37 (0, 0)) from heap_alloc_new wc _)
      have hlw : os[k].words.length ≤ 1048576 := HWl.out.1
      generalize os[k].words = wds at *
      obtain ⟨i1, hi1, hy0, hy1, hy2⟩ := info_parts u64info
      have HA1 := Lib.hid (And.intro hi1 (And.intro hy0 (And.intro hy1 hy2)))
      clear hi1 hy0 hy1 hy2
      have hcwl := Lib.hid (show (cw wds).length = wds.length * 1 by rw [cw_len]; omega)
      have hone := Lib.hid (cwh_one wds)
      have hAw := Lib.hid (fun h : Aw = none => rd_none HRw.out h)
      have hbA := Lib.hid (show Below B wc (wc.alloc (.cells #[] 37)).drew from ((Below.refl B wc).alloc (by omega) _).drew)
      go_wp2_with fail
      go_region_law
        (first
          | (refine step_append_rd (base := w.heap.size + 1 + 1) (size := 1) (bytes := 8) (n := 0) (m := wds.length) (c := cA) (B := B) (v := .slice (some ⟨wc.heap.size, 0, none⟩) 0 0) (xs := []) (news := cw wds) (A := Aw) rfl (.tmp 13) (.tmp 19) rfl Tryd.underlying23 HA1.out.1 HA1.out.2.1 HA1.out.2.2.1 HA1.out.2.2.2 rfl (by decide) (by simp [Act.eval]) (by simp [Act.eval]) (own_block0 vA.out (by omega)) (HRw.out.below hbA.out (Nat.le_refl _)) hcwl.out hAw.out hone.out (by unfold maxLen; omega) (by omega) (by show _ ≤ (wc.alloc _).heap.size; simp; omega) ?_
             intro v' w2 happ
             obtain ⟨A1, c1, hv1, hz1, hz2⟩ := happ.slice
             subst hv1
             clear hz1 hz2
             have hgr : ∀ b, b < wc.heap.size → w2.heap[b]? = wc.heap[b]? := fun b hb => (happ.grown.block b (by show b < (wc.alloc _).heap.size; simp; omega) (by simp [Value.ownBlock]; omega)).trans (heap_alloc_old wc _ hb)
             have e0 := cells3 ((hgr _ l0).trans Q0.out)
             have e6 : w2.cell? ⟨g, k * 8 + 6, none⟩ = some (.slice Aw wds.length cA) := (World.cell?_of_block (a := ⟨g, k * 8 + 6, none⟩) (hgr g lg.2)).trans d6
             have ez : w2.frozen? ⟨g, k * 8 + 6, none⟩ = false := (World.frozen?_of_block (a := ⟨g, k * 8 + 6, none⟩) (hgr g lg.2)).trans (dfz _)
             have HAp := Lib.hid (HF2.out _ _ _ happ)
             clear happ hgr))
      all_goals (rename_i hK hJ; refine hK _ _ ?_; clear hK)
      all_goals go_meet
      all_goals exact ⟨_, _, HAp⟩
    case rest =>
      obtain ⟨A2, c2, H2⟩ := hcut
      have hset := Lib.hid (show (us.flatten.set (k * 8 + 6) (.slice A2 os[k].words.length c2))[k * 8 + 7]? = some (.slice Ab os[k].bytes.length cB) by
        rw [List.getElem?_set_ne (by omega), flatten_at 8 us HUs.out.eight k 7 (by omega), hu, hue]; rfl)
      have lg2 := ownsRow_block H2.out.row
      have l02 := lt_of_block H2.out.p0
      have f02 := cells3 H2.out.p0
      have d72 := ownsRow_at H2.out.row hset.out
      have dz2 := fun j => ownsRow_frozen H2.out.row j (by omega)
      have HRb2 := Lib.hid (hrb0.out.below (H2.out.below.mono hB) (Nat.le_refl _))
      have hbl : os[k].bytes.length ≤ 1048576 := HWl.out.2
      clear d6 d7 dfz l0 lg f0 HRow Q0 Q1 HBx HRw HRb
      go_upto_region 3 with fail
      go_cut [32] (fun v wx => ∃ A3 c3, Hid (Own3 w wx w.heap.size g c' k os.length size last us os[k].words A2 c2 os[k].bytes A3 c3))
      case first =>
        generalize os[k].bytes = bts at *
        have HF3 := Lib.hid (fun (A3 : Option Addr) (c3 : Nat) (w2 : World) (hb : Below wc.heap.size wc w2) (hr : Own w2 wc.heap.size (.slice A3 bts.length c3) bts) => own3_fin H2.out hb hr)
        have hcp := rcopy_any bts cB wc.drew (HRb2.out.below ((Below.refl B wc).drew) (Nat.le_refl _)) (by show B ≤ wc.heap.size; omega) (by omega)
        go_wp2_with fail
        go_region_with
          (go_at_call 61; refine hcp.mono ?_; rintro e w2 ⟨A3, c3, rfl, ho3, hb3⟩; (have hb4 : Below wc.heap.size wc w2 := (Below.refl wc.heap.size wc).drew.trans hb3); (have e0 := cells3 ((hb4.block _ l02).trans H2.out.p0)); (have e7 := (hb4.cell (p := ⟨g, k * 8 + 7, none⟩) lg2.2).trans d72); (have ez := (hb4.frozen (p := ⟨g, k * 8 + 7, none⟩) lg2.2).trans (dz2 _)); (have H3 := Lib.hid (HF3.out _ _ _ hb4 ho3)); clear ho3 hb3 hb4 hcp)
        all_goals (rename_i hK hJ; refine hK _ _ ?_; clear hK)
        all_goals go_meet
        all_goals exact ⟨_, _, H3⟩
      case rest =>
        obtain ⟨A3, c3, H3⟩ := hcut
        have f0 := cells3 H3.out.p0
        have f1 := cells3 H3.out.p1
        have hsd := Lib.hid hu
        have hue' := Lib.hid hue
        clear hu hue f02 d72 dz2 hbl
        go_wp2_with fail
        have r2 := heap_setCell_same wc (w.heap.size + 1) 0 _ _ (.int .i64 size) H3.out.p1
        have r3 := heap_setCell_same _ (w.heap.size + 1) 1 _ _ (.slice (some ⟨g, 0, none⟩) os.length c') r2
        have r4 := heap_setCell_same _ (w.heap.size + 1) 2 _ _ (.int .u32 last) r3
        have hbel : Below w.heap.size w (((wc.setCell ⟨w.heap.size + 1, 0, none⟩ (.int .i64 size)).setCell ⟨w.heap.size + 1, 1, none⟩ (.slice (some ⟨g, 0, none⟩) os.length c')).setCell ⟨w.heap.size + 1, 2, none⟩ (.int .u32 last)) := ((H3.out.below.setCell (p := ⟨w.heap.size + 1, 0, none⟩) (by simp) _).setCell (p := ⟨w.heap.size + 1, 1, none⟩) (by simp) _).setCell (p := ⟨w.heap.size + 1, 2, none⟩) (by simp) _
        have hrow := ownsRow_lo (k := 2) (u := .int .u32 last) (ownsRow_lo (k := 1) (u := .slice (some ⟨g, 0, none⟩) os.length c') (ownsRow_lo (k := 0) (u := .int .i64 size) H3.out.row (Nat.lt_succ_self (w.heap.size + 1))) (Nat.lt_succ_self (w.heap.size + 1))) (Nat.lt_succ_self (w.heap.size + 1))
        have hwds := ownsRow_lo (k := 2) (u := .int .u32 last) (ownsRow_lo (k := 1) (u := .slice (some ⟨g, 0, none⟩) os.length c') (ownsRow_lo (k := 0) (u := .int .i64 size) H3.out.words (Nat.lt_succ_self (w.heap.size + 1))) (Nat.lt_succ_self (w.heap.size + 1))) (Nat.lt_succ_self (w.heap.size + 1))
        have hbts := ownsRow_lo (k := 2) (u := .int .u32 last) (ownsRow_lo (k := 1) (u := .slice (some ⟨g, 0, none⟩) os.length c') (ownsRow_lo (k := 0) (u := .int .i64 size) H3.out.bytes (Nat.lt_succ_self (w.heap.size + 1))) (Nat.lt_succ_self (w.heap.size + 1))) (Nat.lt_succ_self (w.heap.size + 1))
        have hR : (((wc.setCell ⟨w.heap.size + 1, 0, none⟩ (.int .i64 size)).setCell ⟨w.heap.size + 1, 1, none⟩ (.slice (some ⟨g, 0, none⟩) os.length c')).setCell ⟨w.heap.size + 1, 2, none⟩ (.int .u32 last)).heap[w.heap.size + 1]? = some (.cells #[.int .i64 size, .slice (some ⟨g, 0, none⟩) os.length c', .int .u32 last] 31 (0, 0)) := r4
        generalize (((wc.setCell ⟨w.heap.size + 1, 0, none⟩ (.int .i64 size)).setCell ⟨w.heap.size + 1, 1, none⟩ (.slice (some ⟨g, 0, none⟩) os.length c')).setCell ⟨w.heap.size + 1, 2, none⟩ (.int .u32 last)) = wf at hbel hrow hwds hbts hR ⊢
        obtain ⟨q0, q1, q2, _⟩ := cells3 hR
        have hu8 := (HUs.out.eight u (List.mem_of_getElem? hsd.out))
        have hfl : (us.flatten.set (k * 8 + 6) (.slice A2 os[k].words.length c2)).set (k * 8 + 7) (.slice A3 os[k].bytes.length c3) = (us.set k ((u.set 6 (.slice A2 os[k].words.length c2)).set 7 (.slice A3 os[k].bytes.length c3))).flatten := by
          have hkl : k < us.length := by rw [HUs.out.1]; exact hk
          rw [flatten_set 8 us HUs.out.eight k 6 u _ hsd.out (by omega), flatten_set 8 (us.set k (u.set 6 (.slice A2 os[k].words.length c2))) ?_ k 7 (u.set 6 (.slice A2 os[k].words.length c2)) _ (by rw [List.getElem?_set_self hkl]) (by omega), List.set_set]
          intro x hx
          rcases List.mem_or_eq_of_mem_set hx with h | h
          · exact HUs.out.eight x h
          · rw [h, List.length_set]; exact hu8
        rw [hfl] at hrow
        refine bodyPost_ret (v := .agg #[.int .i64 size, .slice (some ⟨g, 0, none⟩) os.length c', .int .u32 last]) (by simp [results, Tryd.results45, go_sem, q0, q1, q2]) rfl ⟨g, c', A2, c2, _, A3, c3, rfl, ⟨by rw [List.length_set]; exact HUs.out.1, ownsRow_base hrow (by omega), fun j hj hjk => ?_, fun _ => ⟨?_, ownsRow_base hwds (by omega), ownsRow_base hbts (by omega)⟩, hbel⟩⟩
        · obtain ⟨u', hu', hd'⟩ := HUs.out.2 j hj
          exact ⟨u', by rw [List.getElem?_set_ne (fun e => hjk e.symm)]; exact hu', hd'.keep (hbel.mono hB) (Nat.le_refl _)⟩
        · rw [List.getElem?_set_self (by rw [HUs.out.1]; exact hk), hue'.out]; rfl
end Go.Proofs.YtahmljjjdoaahaaDoor.Fl
