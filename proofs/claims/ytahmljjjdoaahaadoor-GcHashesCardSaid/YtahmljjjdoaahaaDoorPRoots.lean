/-
  Roots: words by places, or as they are.
-/
import Derived.Test.YtahmljjjdoaahaaDoorLay
import Derived.Test.YtahmljjjdoaahaaDoorPDoc
import Derived.Test.YtahmljjjdoaahaaDoorPHeap
namespace Go.Proofs.YtahmljjjdoaahaaDoor.Fl
open Go.RowKit

def rootX (os : List Ob) (x : Nat) : Nat := if x ≤ 1000 ∧ 0 < os.length then 2 * pos os (x % os.length) else x
def rootL (os : List Ob) (l : List Nat) : List Nat := (l.take 6).map (rootX os)
theorem rootX_lt {os : List Ob} {x : Nat} (hl : (Lof os).length ≤ 16777216) (hx : x < 18446744073709551616) : rootX os x < 18446744073709551616 := by
  unfold rootX
  split
  · next h =>
    have := pos_top os (Nat.mod_lt x h.2)
    omega
  · exact hx
theorem ownsRow_other {w w' : World} {B s1 s2 n1 n2 : Nat} {e1 e2 : TypeId} {v1 v2 : Value} {xs1 xs2 : List Value} (h1 : w.ownsRow B e1 s1 v1 n1 xs1) (h2 : w.ownsRow B e2 s2 v2 n2 xs2) (he : e1 ≠ e2) (hg : w.grownBy w' v1.ownBlock) : w'.ownsRow B e2 s2 v2 n2 xs2 :=
  ownsRow_keep h2 fun b cur _ hb => hg.block b (lt_of_block hb) fun e => by
    rcases h1.2 with ⟨rfl, _⟩ | ⟨g, cap, cur1, rfl, _, hg1, _⟩
    · cases e
    · injection e with e
      subst e
      rw [hb] at hg1
      injection hg1 with hg1
      injection hg1 with _ hg1 _
      exact he hg1.symm
def RootsPost (w : World) (rs : List Nat) (e : Ending) (w' : World) : Prop := ∃ A c A' c', e = .returned (.tuple #[.slice A rs.length c, .slice A' rs.length c']) ∧ Rd w' w'.heap.size A (cw rs) ∧ Rd w' w'.heap.size A' (cw rs) ∧ (A = none → rs.length = 0) ∧ Below w.heap.size w w'
set_option maxRecDepth 100000 in
set_option maxHeartbeats 4000000 in
theorem roots_any {lo B : Nat} {A AL : Option Addr} {os : List Ob} (size last : Int) (c cL : Nat) (ls : List Nat) (w : World) (h : DocAt w lo B A os) (hB : B ≤ w.heap.size) (hl : (Lof os).length ≤ 16777216) (hr : Rd w w.heap.size AL (cw ls)) (hll : ls.length ≤ 9223372036854775807) (hlw : ∀ x ∈ ls, x < 18446744073709551616) :
    Calls Tryd.prog 7 #[.agg #[.int .i64 size, .slice A os.length c, .int .u32 last], .slice AL ls.length cL] w (RootsPost w (rootL os ls)) := by
  obtain ⟨wr0, hwr⟩ : ∃ wr, w.alloc (.cells #[.int .i64 size, .slice A os.length c, .int .u32 last] 31) = wr := ⟨_, rfl⟩
  have B1 : wr0.heap[w.heap.size]? = some (.cells #[.int .i64 size, .slice A os.length c, .int .u32 last] 31 (0, 0)) := by rw [← hwr]; exact heap_alloc_new w _
  have hbr : Below w.heap.size w wr0 := by rw [← hwr]; exact (Below.refl _ _).alloc (Nat.le_refl _) _
  have hs1 : w.heap.size + 1 ≤ wr0.heap.size := by rw [← hwr]; simp
  have HD := Lib.hid (h.below (hbr.mono hB))
  have HR := Lib.hid (hr.below hbr (Nat.le_refl _))
  have HBr := Lib.hid hbr
  have HB1 := Lib.hid B1
  have HLw := Lib.hid hlw
  have hon : os.length ≤ 16777216 := by
    have := pos_all os
    have := pos_ge os (k := os.length) (Nat.le_refl _)
    omega
  clear h hr hbr B1 hlw
  go_enter Tryd.func7, Tryd.ntmps7
  go_wp2_with fail
  clear hwr
  go_loopw [6, 7, 8] (fun a b i wr => ∃ (j : Nat) (A1 A2 : Option Addr) (c1 c2 : Nat), j ≤ min ls.length 6 ∧ i = .int .i64 j ∧ a = .slice A1 j c1 ∧ b = .slice A2 j c2 ∧ Hid (wr.ownsRow (w.heap.size + 1) 38 1 (.slice A1 j c1) j (cw (rootL os (ls.take j)))) ∧ Hid (wr.ownsRow (w.heap.size + 1) 37 1 (.slice A2 j c2) j (cw (rootL os (ls.take j)))) ∧ Hid (Below (w.heap.size + 1) wr0 wr)) (fun _ _ i _ => 6 - (intOf i).toNat)
  case atStart => exact ⟨0, none, none, 0, 0, Nat.zero_le _, rfl, rfl, rfl, Lib.hid (World.ownsRow_nil _ _ _ _), Lib.hid (World.ownsRow_nil _ _ _ _), Lib.hid (Below.refl _ _)⟩
  case round =>
    obtain ⟨j, A1, A2, c1, c2, hj, rfl, rfl, rfl, HO1, HO2, HBl⟩ := hrel
    by_cases hlt : j < ls.length ∧ j < 6
    · obtain ⟨h1, h2⟩ := hlt
      obtain ⟨b, off, rfl, hb, hcell⟩ := rdw_at (HR.out.below (HBl.out.mono (Nat.le_succ _)) (Nat.le_refl _)) h1
      have hx := HLw.out _ (List.getElem_mem h1)
      have f1 := cells3 ((HBl.out.block _ (Nat.lt_succ_self _)).trans HB1.out)
      have hrs := Lib.hid (show rootL os (ls.take (j + 1)) = rootL os (ls.take j) ++ [rootX os ls[j]] by
        unfold rootL
        rw [List.take_take, List.take_take, Nat.min_eq_right (by omega), Nat.min_eq_right (by omega), List.take_succ_eq_append_getElem h1, List.map_append]; rfl)
      have hyx := Lib.hid (rootX_lt hl hx)
      generalize ls[j] = x at *
      have HX := Lib.hid hx
      clear hx
      go_upto_region 7 with fail
      obtain ⟨B0, hB0⟩ : ∃ B0, decide (x ≤ 1000 ∧ 0 < os.length) = B0 := ⟨_, rfl⟩
      have HB0 := Lib.hid hB0
      clear hB0
      go_cut [31] (fun v wx => v = .bool B0 ∧ wr = wx)
      case first =>
        by_cases hx0 : x ≤ 1000
        · have e1 : (x : Int) ≤ 1000 := by omega
          by_cases hn0 : 0 < os.length
          · have e2 : (0 : Int) < (os.length : Int) := by omega
            have HB := Lib.hid (show B0 = true by rw [← HB0.out]; exact decide_eq_true ⟨hx0, hn0⟩)
            clear hx0 hn0
            go_wp2_with fail
            all_goals go_meet
            all_goals exact ⟨by rw [HB.out]; exact congrArg Value.bool (decide_eq_true (by omega)), rfl⟩
          · have e2 : ¬ ((0 : Int) < (os.length : Int)) := by omega
            have HB := Lib.hid (show B0 = false by rw [← HB0.out]; exact decide_eq_false (fun h => hn0 h.2))
            clear hx0 hn0
            go_wp2_with fail
            all_goals go_meet
            all_goals exact ⟨by rw [HB.out]; exact congrArg Value.bool (decide_eq_false (by omega)), rfl⟩
        · have e1 : ¬ ((x : Int) ≤ 1000) := by omega
          have HB := Lib.hid (show B0 = false by rw [← HB0.out]; exact decide_eq_false (fun h => hx0 h.1))
          clear hx0
          go_wp2_with fail
          all_goals go_meet
          all_goals exact ⟨by rw [HB.out], rfl⟩
      case rest =>
       obtain ⟨rfl, rfl⟩ := hcut
       go_upto_if 31 with fail
       go_cut [9] (fun v wx => v = .int .u64 (rootX os x : Int) ∧ Hid (Below wr.heap.size wr wx))
       case first =>
        by_cases hc : x ≤ 1000 ∧ 0 < os.length
        · have hrx : rootX os x = 2 * pos os (x % os.length) := by unfold rootX; rw [if_pos hc]
          have hm := Nat.mod_lt x hc.2
          obtain ⟨bd, od, Aw, cA, Ab, cB, rfl, hbd, d0, _⟩ := (HD.out.below (HBl.out.mono (by omega))).at_ hm
          have hpt := pos_top os hm
          have e3 : B0 = true := by rw [← HB0.out]; simp [hc.1, hc.2]
          have HRX := Lib.hid hrx
          generalize hP : pos os (x % os.length) = P at *
          have hm1 : ((x : Int).tmod (os.length : Int)) = ((x % os.length : Nat) : Int) := by
            rw [Int.tmod_eq_emod_of_nonneg (by omega)]; simp
          have hn0 : ((os.length : Int) == 0) = false := beq_eq_false_iff_ne.2 (by omega)
          rw [e3]
          clear e3 hrx hP
          go_wp2_with fail
          have HBd := Lib.hid (fun nq => (show Below wr.heap.size wr (wr.drewN nq) from below_drewN (Below.refl _ _) nq))
          go_quiet (fail)
          go_wp2_with fail
          all_goals go_meet
          all_goals exact ⟨by rw [HRX.out]; simp, HBd.out _⟩
        · have hrx : rootX os x = x := by unfold rootX; rw [if_neg hc]
          have HRX := Lib.hid hrx
          have e3 : B0 = false := by rw [← HB0.out]; exact decide_eq_false hc
          rw [e3]
          clear e3 hc hrx
          go_wp2_with fail
          all_goals go_meet
          all_goals exact ⟨by rw [HRX.out], Lib.hid (Below.refl _ _)⟩
       case rest =>
        obtain ⟨rfl, HB1'⟩ := hcut
        obtain ⟨i0, hi0, hz0, hz1, hz2⟩ := info_parts u64info
        have HI := Lib.hid (And.intro hi0 (And.intro hz0 (And.intro hz1 hz2)))
        obtain ⟨i1, hi1, hy0, hy1, hy2⟩ := info_parts wordinfo
        have HJ := Lib.hid (And.intro hi1 (And.intro hy0 (And.intro hy1 hy2)))
        clear hi0 hz0 hz1 hz2 hi1 hy0 hy1 hy2
        generalize rootX os x = y at *
        have hb1 : Below (w.heap.size + 1) wr0 wc := HBl.out.trans (HB1'.out.mono (by have := HBl.out.size; omega))
        have hO1 := Lib.hid (ownsRow_keep HO1.out fun b cur _ hb => HB1'.out.block b (lt_of_block hb))
        have hO2 := Lib.hid (ownsRow_keep HO2.out fun b cur _ hb => HB1'.out.block b (lt_of_block hb))
        have hsz1 := hb1.size
        have hBl1 := Lib.hid hb1
        have hcl : (cw (rootL os (ls.take (j + 1)))) = cw (rootL os (ls.take j)) ++ [.int .u64 (y : Int)] := by rw [hrs.out]; simp [cw]
        have HCl := Lib.hid hcl
        clear hcl hb1 HO1 HO2 HBl HB1' hrs hcell hb f1
        go_wp2_with (at_builtin; refine wpList_append_own _ rfl _ _ 44 rfl (w.heap.size + 1) 38 i1 (.int .u64 0) 1 8 Tryd.underlying44 HJ.out.1 HJ.out.2.1 HJ.out.2.2.1 HJ.out.2.2.2 rfl (by decide) _ _ _ rfl (World.ownsRow.alloc hO1.out _) ⟨wc.heap.size, 0, none⟩ 1 1 [.int .u64 (y : Int)] rfl rfl ?c1 ?c2 ?c3 ?c4 ?c5 ?_)
        case c1 => exact lone_cell wc _ _
        case c2 => intro u hu; simp at hu; subst hu; rfl
        case c3 => unfold maxLen; omega
        case c4 => omega
        case c5 => simp; omega
        intro v1 w4 hown1 hgrow1 _
        have hO24 := Lib.hid (ownsRow_other (World.ownsRow.alloc hO1.out _) (World.ownsRow.alloc hO2.out _) (by decide) hgrow1)
        have hb4 : Below (w.heap.size + 1) wr0 w4 := ((hBl1.out.alloc (by omega) _).grown hgrow1 (by simp; omega) (fun k hk => World.ownsRow.lt hO1.out k hk |>.1))
        have hsz4 := hb4.size
        have hB4 := Lib.hid hb4
        have hown1' := Lib.hid hown1
        clear hown1 hgrow1 hb4 hO1 hO2
        go_wp2_with (at_builtin; refine wpList_append_own _ rfl _ _ 23 rfl (w.heap.size + 1) 37 i0 (.int .u64 0) 1 8 Tryd.underlying23 HI.out.1 HI.out.2.1 HI.out.2.2.1 HI.out.2.2.2 rfl (by decide) _ _ _ rfl (World.ownsRow.alloc hO24.out _) ⟨w4.heap.size, 0, none⟩ 1 1 [.int .u64 (y : Int)] rfl rfl ?c1 ?c2 ?c3 ?c4 ?c5 ?_)
        case c1 => exact lone_cell w4 _ _
        case c2 => intro u hu; simp at hu; subst hu; rfl
        case c3 => unfold maxLen; omega
        case c4 => omega
        case c5 => simp; omega
        intro v2 w5 hown2 hgrow2 _
        have hO15 := Lib.hid (ownsRow_other (World.ownsRow.alloc hO24.out _) (World.ownsRow.alloc hown1'.out _) (by decide) hgrow2)
        have hB5 := Lib.hid ((hB4.out.alloc (by omega) _).grown hgrow2 (by simp; omega) (fun k hk => World.ownsRow.lt hO24.out k hk |>.1))
        have hown2' := Lib.hid hown2
        clear hown2 hgrow2 hO24 hown1' hB4
        obtain ⟨B1, d1, rfl⟩ : ∃ B1 d1, v1 = .slice B1 (j + 1) d1 := by
          rcases hO15.out.2 with ⟨_, e⟩ | ⟨g', cap', cur, e, _⟩
          · omega
          · exact ⟨_, cap', e⟩
        obtain ⟨B2, d2, rfl⟩ : ∃ B2 d2, v2 = .slice B2 (j + 1) d2 := by
          rcases hown2'.out.2 with ⟨_, e⟩ | ⟨g', cap', cur, e, _⟩
          · omega
          · exact ⟨_, cap', e⟩
        go_wp2_with fail
        go_roundw
        case rel => exact ⟨j + 1, B1, B2, d1, d2, by omega, by simp, rfl, rfl, by rw [HCl.out]; exact hO15, by rw [HCl.out]; exact hown2', hB5⟩
        case measure => simp [intOf]; omega
    · have e : rootL os (ls.take j) = rootL os ls := by
        unfold rootL
        rw [List.take_take]
        rcases Nat.lt_or_ge j 6 with h | h
        · have : j = ls.length := by omega
          subst this
          rw [List.take_of_length_le (l := ls) (by omega), List.take_of_length_le (l := ls) (by omega)]
        · rw [Nat.min_eq_left h]
      have hjl : (rootL os ls).length = j := by unfold rootL; simp; omega
      rw [e] at HO1 HO2
      have hA1 : A1 = none → (rootL os ls).length = 0 := by
        intro h
        rcases HO1.out.2 with ⟨_, h0⟩ | ⟨g, cap, cur, e1, _⟩
        · omega
        · rw [h] at e1; injection e1 with e1; cases e1
      have H1 := Lib.hid (show RootsPost w (rootL os ls) (.returned (.tuple #[.slice A1 j c1, .slice A2 j c2])) wr from ⟨A1, c1, A2, c2, by rw [hjl], ownsRow_rd HO1.out, ownsRow_rd HO2.out, hA1, HBr.out.trans (HBl.out.mono (Nat.le_succ _))⟩)
      have hlt2 : ¬ ((j : Int) < (ls.length : Int)) ∨ ((j : Int) < (ls.length : Int)) ∧ ¬ ((j : Int) < 6) := by omega
      clear HO1 HO2 HD HB1 HR HBr HBl e hjl hlt hA1
      rcases hlt2 with h | ⟨h, h'⟩
      · go_wp2_with fail
        go_ret2
        exact H1.out
      · go_wp2_with fail
        go_ret2
        exact H1.out
end Go.Proofs.YtahmljjjdoaahaaDoor.Fl
