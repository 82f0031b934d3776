/-
  The walk of MarkDeep.
-/
import Derived.Test.YthklbpcpmmpfmaaChain
import Derived.Test.YthklbpcpmmpfmaaMarkF
import Derived.Test.YthklbpcpmmpfmaaMarkG
namespace Go.Proofs.Ythklbpcpmmpfmaa.Fl
open Go.RowKit

/-- a heap with a class and j objects in a chain -/
def ChH (w : World) (base g gb gb2 size j : Nat) : Prop := base ≤ w.heap.size ∧ ∃ gc cap ws, HeapAt w base g gc cap gb gb2 size 0 (chL j) ws ∧ Bt ws j
theorem below_q' (w : World) : ∀ q, Below w.heap.size w (w.drewN q)
  | 0 => Below.refl _ _
  | q + 1 => (below_q' w q).drew
section
variable {w w' : World} {base g gb gb2 size j n : Nat}
theorem ChH.below (h : ChH w base g gb gb2 size j) (hb : Below w.heap.size w w') : ChH w' base g gb gb2 size j := by
  obtain ⟨h0, gc, cap, ws, h1, h2⟩ := h
  exact ⟨Nat.le_trans h0 hb.size, gc, cap, ws, h1.below hb, h2⟩
def ChPost (w : World) (base g gb gb2 size p j : Nat) (e : Ending) (w' : World) : Prop := e = .returned (.tuple #[.int .u64 (p : Int), .int .i64 0]) ∧ ChH w' base g gb gb2 size j ∧ Below base w w'
theorem ch_class {gc : Nat} (w : World) (h : HeapAt w base g gc 2 gb gb2 size 0 [0, 0] (List.replicate ((size + 63) / 64) 0)) (hs : 16 ≤ size) (hb : base ≤ w.heap.size) :
    Calls Try.prog 6 #[.pointer (some ⟨g, 0, none⟩), .int .u64 4, .int .i64 0, .int .i64 0, .int .u64 1] w (ChPost w base g gb gb2 size 4 0) := by
  refine (alloc_fit 4 0 0 0 1 w h (by decide) (by decide) (by decide) (by decide) (by simp; omega) (bitAt_zero _ _) (by decide) (by decide) hb).mono ?_
  rintro e w' ⟨gc', cap', rfl, h3, hgc, has⟩
  obtain ⟨cur, _, hbc, _⟩ := h.row
  exact ⟨rfl, ⟨Nat.le_trans hb has.size, gc', cap', _, h3, Bt.first (by omega)⟩, has.below hb h.bg hbc h.bb2⟩
theorem lw_lt (h : j ≤ 5000000) : lw j < 18446744073709551616 := by unfold lw; split <;> omega
theorem lw_next : lw (j + 1) = 6 * j + 8 := by unfold lw; rw [if_neg (by omega)]; omega
theorem ch_obj (w : World) (h : ChH w base g gb gb2 size j) (hj : 3 * j + 7 ≤ size) (hj5 : j ≤ 5000000) :
    Calls Try.prog 6 #[.pointer (some ⟨g, 0, none⟩), .int .u64 4, .int .i64 1, .int .i64 1, .int .u64 (lw j : Int)] w (ChPost w base g gb gb2 size (lw (j + 1)) (j + 1)) := by
  obtain ⟨h0, gc, cap, ws, h1, h2⟩ := h
  have hl := chL_len j
  have hsm := h1.small
  refine (alloc_fit 4 1 1 1 (lw j) w h1 (by decide) (by decide) (by decide) (by decide) (by omega) (by rw [h2, hl]; apply decide_eq_false; omega) (by decide) (lw_lt (by omega)) h0).mono ?_
  rintro e w' ⟨gc', cap', rfl, h3, hgc, has⟩
  obtain ⟨cur, _, hbc, _⟩ := h1.row
  have hix := h1.bits.idx (i := 4 + 3 * j) (by omega)
  rw [hl] at h3
  refine ⟨?_, ⟨Nat.le_trans h0 has.size, gc', cap', _, h3, h2.next hix⟩, has.below h0 h1.bg hbc h1.bb2⟩
  rw [hl, lw_next]
  congr 3
  simp
  omega
theorem ch_cells (w : World) (h : ChH w base g gb gb2 size j) :
    Calls Try.prog 10 #[.pointer (some ⟨g, 0, none⟩)] w fun e w' => e = .returned (.int .i64 (size : Int)) ∧ w = w' := by
  obtain ⟨h0, gc, cap, ws, h1, h2⟩ := h
  exact cellsH_any w h1
def CntPost (n : Nat) (w : World) (e : Ending) (w' : World) : Prop := e = .returned (.int .i64 (n : Int)) ∧ Below w.heap.size w w'
def ChReach (w : World) (n size : Nat) (e : Ending) (w' : World) : Prop := ∃ sb : Nat, e = .returned (.tuple #[.pointer (some ⟨sb, 0, none⟩), .int .i64 ((3 * n + 2 : Nat) : Int), .int .i64 0]) ∧ Below w.heap.size w w' ∧
  ∀ w2, Below w'.heap.size w' w2 → Calls Try.prog 9 #[.pointer (some ⟨sb, 0, none⟩), .int .i64 (size : Int)] w2 (CntPost (n + 1) w2)
theorem half_nodup {ws fs : List Nat} (hn : fs.Nodup) (hp : ∀ p ∈ fs, isP ws p) : (fs.map (· / 2)).Nodup := by
  refine List.pairwise_map.2 (hn.imp_of_mem ?_)
  intro x y hx hy hne e
  have := (hp x hx).1
  have := (hp y hy).1
  exact hne (by omega)
theorem ch_reach (w : World) (h : ChH w base g gb gb2 size n) (hn : 1 ≤ n) (hn5 : n ≤ 5000000) :
    Calls Try.prog 7 #[.pointer (some ⟨g, 0, none⟩), .slice (some ⟨w.heap.size, 0, none⟩) 1 1] (w.alloc (.cells #[.int .u64 (lw n : Int)] 28)) (ChReach (w.alloc (.cells #[.int .u64 (lw n : Int)] 28)) n size) := by
  have h0 := h.below ((Below.refl _ _).alloc (Nat.le_refl _) (.cells #[.int .u64 (lw n : Int)] 28))
  obtain ⟨hb, gc, cap, ws, h1, h2⟩ := h0
  have hsm := h1.small
  have hlw : lw n = 6 * n + 2 := by unfold lw; rw [if_neg (by omega)]
  have hf : findL ws [] [lw n] = some [6 * n + 2] := by
    rw [findL, hlw, find1_new (h2.o hn (Nat.le_refl _) hn5) (by simp)]; rfl
  refine (reach_any [lw n] (some ⟨w.heap.size, 0, none⟩) 1 _ (chain_graph h2 hn5) h1 (rd_one w _) (by intro x hx; simp at hx; subst hx; exact lw_lt hn5) (by simp) hf (chain_waves h2 hn5 hn)).mono ?_
  rintro e w' ⟨sb, sb2, bs, rfl, _, _, hB, hmem, ⟨hnd, hisp⟩, hbl⟩
  refine ⟨sb, ?_, hbl, fun w2 hb2 => ?_⟩
  · rw [show (chS n (max n 2)).1 = chF n (max n 2) from rfl, chain_sum hn]
  · refine (below_nat sb sb2 size size (size : Int) bs w2 (hB.below hb2 hB.gl hB.gl2) (by omega)).mono ?_
    rintro e w3 ⟨q, rfl, rfl⟩
    refine ⟨?_, below_q' w2 q⟩
    rw [cnt_list (bitAt bs) size ((chF n (max n 2)).map (· / 2)) (half_nodup hnd hisp) (fun x hx => by
      obtain ⟨p, hp, rfl⟩ := List.mem_map.1 hx
      exact (hisp p hp).lt h1) (fun i _ => by
      rw [hmem i, List.mem_map]
      constructor
      · exact fun h => ⟨2 * i, h, by omega⟩
      · rintro ⟨p, hp, rfl⟩
        rw [show 2 * (p / 2) = p by have := (hisp p hp).1; omega]; exact hp), List.length_map, chain_len hn]
theorem ch_steps (w : World) (h : ChH w base g gb gb2 size n) (hn : 1 ≤ n) (hn5 : n ≤ 5000000) :
    Calls Try.prog 8 #[.pointer (some ⟨g, 0, none⟩), .int .u64 (lw n : Int), .int .u64 8] w fun e w' => e = .returned (.tuple #[.int .i64 ((n : Int) - 1), .int .i64 0]) ∧ Below w.heap.size w w' := by
  obtain ⟨hb, gc, cap, ws, h1, h2⟩ := h
  have hlw : lw n = 6 * n + 2 := by unfold lw; rw [if_neg (by omega)]
  have hp := h2.o hn (Nat.le_refl _) hn5
  have hf : findL ws [] [6 * n + 2] = some [6 * n + 2] := by
    rw [findL, find1_new hp (by simp)]; rfl
  rw [hlw, show ((n : Int) - 1) = ((n - 1 : Nat) : Int) by omega]
  exact steps_any (6 * n + 2) 8 w (chain_graph h2 hn5).leads h1 hp (h2.o (m := 1) (Nat.le_refl _) hn hn5) hf (chain_waves h2 hn5 hn) (by omega) (fun t _ => chain_met hn t) (by omega)
/-! ### the fixed fact -/
abbrev awL : List Nat := chL 1 ++ (4 :: pk 1 1 0 false :: List.replicate 1 1)
def awLd (p : Nat) : List Nat := if p = 4 then [4] else [4, 1]
theorem aw_graph {ws : List Nat} (h : Bt ws 2) : Graph awLd chCn awL ws := fun p hp => by
  rcases h.isp hp with rfl | ⟨m, m1, m2, rfl⟩
  · exact ⟨4, 0, 0, 0, false, [], ⟨hp, ⟨rfl, rfl, by decide, by decide⟩, fun _ => ⟨by decide, rfl⟩, fun e => by cases e⟩, rfl, by decide⟩
  · rcases (show m = 1 ∨ m = 2 by omega) with rfl | rfl
    · exact ⟨4, 1, 1, 0, false, [1], ⟨hp, ⟨rfl, rfl, by decide, by decide⟩, fun _ => ⟨by decide, rfl⟩, fun e => by cases e⟩, rfl, by decide⟩
    · exact ⟨4, 1, 1, 0, false, [1], ⟨hp, ⟨rfl, rfl, by decide, by decide⟩, fun _ => ⟨by decide, rfl⟩, fun e => by cases e⟩, rfl, by decide⟩
def awS (t : Nat) : List Nat × Nat := if t = 0 then ([8], 0) else if t = 1 then ([8, 4], 1) else ([8, 4], 2)
theorem aw_waves {ws : List Nat} (h : Bt ws 2) : Waves awLd ws [8] awS 2 := by
  have h4 := h.c
  refine ⟨rfl, fun t ht => ?_, rfl⟩
  rcases (show t = 0 ∨ t = 1 by omega) with rfl | rfl
  · refine ⟨by decide, ?_, rfl⟩
    show askL awLd ws [8] [8] = some [8, 4]
    rw [askL, show awLd 8 = [4, 1] from rfl, findL, find1_new h4 (by decide)]
    show ((findL ws [8, 4] [1]).bind fun f => askL awLd ws f []) = _
    rw [findL, find1_num (by decide)]; rfl
  · refine ⟨by decide, ?_, rfl⟩
    show askL awLd ws [8, 4] [4] = some [8, 4]
    rw [askL, show awLd 4 = [4] from rfl, findL, find1_in h4 (by decide)]; rfl
def AwH (w : World) (base g gb gb2 : Nat) : Prop := base ≤ w.heap.size ∧ ∃ gc cap ws, HeapAt w base g gc cap gb gb2 40 0 awL ws ∧ Bt ws 2
theorem AwH.below (h : AwH w base g gb gb2) (hb : Below w.heap.size w w') : AwH w' base g gb gb2 := by
  obtain ⟨h0, gc, cap, ws, h1, h2⟩ := h
  exact ⟨Nat.le_trans h0 hb.size, gc, cap, ws, h1.below hb, h2⟩
theorem aw_obj (w : World) (h : ChH w base g gb gb2 40 1) :
    Calls Try.prog 6 #[.pointer (some ⟨g, 0, none⟩), .int .u64 4, .int .i64 1, .int .i64 1, .int .u64 1] w fun e w' => e = .returned (.tuple #[.int .u64 14, .int .i64 0]) ∧ AwH w' base g gb gb2 ∧ Below base w w' := by
  obtain ⟨h0, gc, cap, ws, h1, h2⟩ := h
  refine (alloc_fit 4 1 1 1 1 w h1 (by decide) (by decide) (by decide) (by decide) (by decide) (by rw [h2]; decide) (by decide) (by decide) h0).mono ?_
  rintro e w' ⟨gc', cap', rfl, h3, hgc, has⟩
  obtain ⟨cur, _, hbc, _⟩ := h1.row
  have hix := h1.bits.idx (i := 7) (by decide)
  exact ⟨rfl, ⟨Nat.le_trans h0 has.size, gc', cap', _, h3, h2.next hix⟩, has.below h0 h1.bg hbc h1.bb2⟩
def AwReach (w : World) (e : Ending) (w' : World) : Prop := ∃ sb : Nat, e = .returned (.tuple #[.pointer (some ⟨sb, 0, none⟩), .int .i64 5, .int .i64 0]) ∧ Below w.heap.size w w' ∧
  Calls Try.prog 9 #[.pointer (some ⟨sb, 0, none⟩), .int .i64 40] w' (CntPost 2 w')
theorem aw_reach (w : World) (h : AwH w base g gb gb2) :
    Calls Try.prog 7 #[.pointer (some ⟨g, 0, none⟩), .slice (some ⟨w.heap.size, 0, none⟩) 1 1] (w.alloc (.cells #[.int .u64 8] 28)) (AwReach (w.alloc (.cells #[.int .u64 8] 28))) := by
  have h0 := h.below ((Below.refl _ _).alloc (Nat.le_refl _) (.cells #[.int .u64 8] 28))
  obtain ⟨hb, gc, cap, ws, h1, h2⟩ := h0
  have hf : findL ws [] [8] = some [8] := by
    rw [findL, find1_new (h2.o (m := 1) (by decide) (by decide) (by decide)) (by simp)]; rfl
  refine (reach_any [8] (some ⟨w.heap.size, 0, none⟩) 1 _ (aw_graph h2) h1 (rd_one w 8) (by simp) (by simp) hf (aw_waves h2)).mono ?_
  rintro e w' ⟨sb, sb2, bs, rfl, _, _, hB, hmem, ⟨hnd, hisp⟩, hbl⟩
  refine ⟨sb, rfl, hbl, ?_⟩
  refine (below_nat sb sb2 40 40 40 bs w' hB (by decide)).mono ?_
  rintro e w3 ⟨q, rfl, rfl⟩
  refine ⟨?_, below_q' w' q⟩
  rw [cnt_list (bitAt bs) 40 [4, 2] (by decide) (by decide) (fun i _ => by
    rw [hmem i]
    show 2 * i ∈ [8, 4] ↔ _
    simp
    omega)]
  rfl
theorem awake_mark (w : World) :
    Calls Try.prog 4 #[] w fun e w' => e = .returned (.bool true) ∧ Below w.heap.size w w' := by
  have hnew : Calls Try.prog 5 #[.int .i64 40] w (NewHPost w 40) := new_ok 40 w (by decide) (by decide)
  go_enter Try.func4, Try.ntmps4
  go_wp2_with fail
  refine hnew.mono ?_
  rintro e w1 ⟨g, gc, gb, gb2, rfl, h1, hb1⟩
  have H1 := Lib.hid h1
  have s1 := hb1.size
  have HB1 := Lib.hid hb1
  clear h1 hnew hb1
  go_wp2_with fail
  refine (ch_class _ H1.out (by decide) s1).mono ?_
  rintro e w2 ⟨rfl, h2, hb2⟩
  have H2 := Lib.hid h2
  have HB2 := Lib.hid (HB1.out.trans hb2)
  clear h2 hb2 H1 HB1
  go_wp2_with fail
  refine (ch_obj _ H2.out (by decide) (by decide)).mono ?_
  rintro e w3 ⟨rfl, h3, hb3⟩
  have H3 := Lib.hid h3
  have HB3 := Lib.hid (HB2.out.trans hb3)
  clear h3 hb3 H2 HB2
  rw [show (lw (0 + 1) : Int) = 8 from rfl]
  go_wp2_with fail
  refine (aw_obj _ H3.out).mono ?_
  rintro e w4 ⟨rfl, h4, hb4⟩
  have H4 := Lib.hid h4
  have HB4 := Lib.hid (HB3.out.trans hb4)
  clear h4 hb4 H3 HB3 s1
  go_wp2_with fail
  refine (aw_reach _ H4.out).mono ?_
  rintro e w5 ⟨sb, rfl, hb5, hcnt⟩
  have HB5 := Lib.hid (HB4.out.trans (((Below.refl _ _).alloc (Nat.le_refl _) _).trans (hb5.mono (by simp)) |>.mono HB4.out.size))
  have HC := Lib.hid hcnt
  clear hb5 hcnt H4 HB4
  go_wp2_with fail
  refine HC.out.mono ?_
  rintro e w6 ⟨rfl, hb6⟩
  have HB6 := Lib.hid (HB5.out.trans (hb6.mono HB5.out.size))
  clear HB5 hb6
  go_wp2_with fail
  go_ret
  exact ⟨rfl, HB6.out⟩
end
theorem lim_deep (n : Int) : ∃ N : Nat, max 1 (min n 3000) = (N : Int) ∧ 1 ≤ N ∧ N ≤ 3000 := ⟨(max 1 (min n 3000)).toNat, by omega, by omega, by omega⟩
theorem lw_zero : Value.int .u64 1 = .int .u64 ((lw 0 : Nat) : Int) := rfl
theorem vIn {a b : Int} (h : a = b) : Value.int .i64 a = .int .i64 b := by rw [h]
set_option maxRecDepth 100000 in
set_option maxHeartbeats 600000 in
theorem deep_any (n m : Int) (w : World) :
    Calls Try.prog 3 #[.int .i64 n, .int .i64 m] w fun e w' => e = .returned (.bool true) ∧ Below w.heap.size w w' := by
  obtain ⟨N, hN, hN1, hN2⟩ := lim_deep n
  have hnew := fun (w' : World) => new_ok (3 * N + 20) w' (by omega) (by omega)
  rw [show ((3 * N + 20 : Nat) : Int) = 3 * (N : Int) + 20 by omega] at hnew
  have HN := Lib.hid hN
  clear hN
  go_enter Try.func3, Try.ntmps3
  go_wp2_with fail
  refine (awake_mark _).mono ?_
  rintro e w1 ⟨rfl, hb1⟩
  go_upto_region 3 with fail
  go_cut [0] (fun v wx => v = .int .i64 (N : Int) ∧ w1 = wx)
  case first =>
    clear hnew hN1 hN2 hb1
    go_wp2_with fail
    all_goals go_meet
    all_goals exact ⟨vIn (by have := HN.out; omega), rfl⟩
  case rest =>
    obtain ⟨rfl, rfl⟩ := hcut
    go_wp2_with fail
    refine (hnew w1).mono ?_
    rintro e w2 ⟨g, gc, gb, gb2, rfl, h2, hb2⟩
    have H2 := Lib.hid h2
    have HB2 := Lib.hid (hb1.trans (hb2.mono hb1.size))
    have HS2 := Lib.hid hb2.size
    have HW1 := Lib.hid (show w.heap.size ≤ w1.heap.size from hb1.size)
    obtain ⟨base, hbase⟩ : ∃ base, w1.heap.size = base := ⟨_, rfl⟩
    rw [hbase] at H2 HS2 HW1
    clear h2 hb2 hb1 hnew HN hbase
    go_wp2_with fail
    refine (ch_class _ H2.out (by omega) HS2.out).mono ?_
    rintro e w3 ⟨rfl, h3, hb3⟩
    have H3 := Lib.hid h3
    have HB3 := Lib.hid (HB2.out.trans (hb3.mono HW1.out))
    clear h3 hb3 H2 HB2 HS2
    go_wp2_with fail
    go_loopw [11, 9, 10] (fun i l f wr => ∃ (j : Nat) (fv : Int), j ≤ N ∧ i = .int .i64 j ∧ l = .int .u64 (lw j : Nat) ∧ f = .int .u64 fv ∧ Hid (j ≠ 0 → fv = 8) ∧ Hid (ChH wr base g gb gb2 (3 * N + 20) j) ∧ Hid (Below w.heap.size w wr)) (fun i _ _ _ => N - (intOf i).toNat)
    case atStart => exact ⟨0, 0, Nat.zero_le _, rfl, lw_zero, rfl, Lib.hid (by simp), H3, HB3⟩
    case round =>
      obtain ⟨j, fv, hj, rfl, rfl, rfl, HFv, HR, HB⟩ := hrel
      clear H3 HB3
      by_cases hlt : j < N
      · go_wp2_with fail
        refine (ch_obj _ HR.out (by omega) (by omega)).mono ?_
        rintro e w4 ⟨rfl, h4, hb4⟩
        have H4 := Lib.hid h4
        have HB4 := Lib.hid (HB.out.trans (hb4.mono HW1.out))
        clear h4 hb4 HR HB
        rcases Nat.eq_zero_or_pos j with rfl | hj0
        · go_wp2_with fail
          go_roundw
          case rel => exact ⟨1, 8, by omega, rfl, rfl, rfl, Lib.hid (fun _ => rfl), H4, HB4⟩
          case measure => simp [intOf]; omega
        · go_wp2_with fail
          go_roundw
          case rel => exact ⟨j + 1, fv, by omega, by simp, rfl, rfl, Lib.hid (fun _ => HFv.out (by omega)), H4, HB4⟩
          case measure => simp [intOf]; omega
      · have e : j = N := by omega
        subst e
        obtain rfl : fv = 8 := HFv.out (by omega)
        clear HFv
        go_wp2_with fail
        refine (ch_reach _ HR.out hN1 (by omega)).mono ?_
        rintro e w4 ⟨sb, rfl, hb4, hcnt⟩
        have hb5 := ((Below.refl _ _).alloc (Nat.le_refl _) _).trans (hb4.mono (by simp))
        have H5 := Lib.hid (HR.out.below hb5)
        have HB5 := Lib.hid (HB.out.trans (hb5.mono HB.out.size))
        have HC := Lib.hid hcnt
        clear hcnt hb4 hb5 HR HB
        rw [show ((3 * j + 2 : Nat) : Int) = 3 * (j : Int) + 2 by omega]
        go_wp2_with fail
        refine (ch_steps _ H5.out hN1 (by omega)).mono ?_
        rintro e w6 ⟨rfl, hb6⟩
        have H6 := Lib.hid (H5.out.below hb6)
        have HB6 := Lib.hid (HB5.out.trans (hb6.mono HB5.out.size))
        have hcnt := HC.out w6 hb6
        have hcells := ch_cells w6 H6.out
        unfold CntPost at hcnt
        rw [show ((3 * j + 20 : Nat) : Int) = 3 * (j : Int) + 20 by omega] at hcnt hcells
        rw [show ((j + 1 : Nat) : Int) = (j : Int) + 1 by omega] at hcnt
        clear hb6 HC H5 HB5 H6
        go_wp2_with (go_at_call 10; (with_reducible refine hcells.mono ?_); rintro e w' ⟨rfl, rfl⟩)
        refine hcnt.mono ?_
        rintro e w7 ⟨rfl, hb7⟩
        have HB7 := Lib.hid (HB6.out.trans (hb7.mono HB6.out.size))
        clear hb7 HB6 hcnt hcells
        go_wp2_with fail
        go_ret
        exact ⟨rfl, HB7.out⟩
theorem walk_MarkDeep (n m : Int) (w : World) (_wn : (Lit.int .i64 n).wf = true) (_wm : (Lit.int .i64 m).wf = true) :
    Calls Try.prog 3 #[.int .i64 n, .int .i64 m] w fun e w' => e = .returned (.bool true) ∧ Below w.heap.size w w' := deep_any n m w
end Go.Proofs.Ythklbpcpmmpfmaa.Fl
