/-
  The walk of FoundlingNumbers.
-/
import Derived.Test.YtmlfooofgedmaaaDoorWkSmallTexts
import Derived.Test.YtmlfooofgedmaaaDoorWord
import Derived.Test.YtmlfooofgedmaaaDoorInts
namespace Go.Proofs.YtmlfooofgedmaaaDoor.Fl
open Go.RowKit

/-- the words of the halves -/
def nw (cs : List Int) : List Nat := cs.map fun z => (wd (z / 2)).toNat
theorem nw_len (cs : List Int) : (nw cs).length = cs.length := by simp [nw]
theorem nw_lt (cs : List Int) : ∀ x ∈ nw cs, x < 18446744073709551616 := by
  intro x hx
  simp only [nw, List.mem_map] at hx
  obtain ⟨z, _, rfl⟩ := hx
  have := wd_isW (z / 2)
  unfold IsW at this; omega
theorem nw_take {cs : List Int} {k : Nat} (h : k < cs.length) : nw (cs.take (k + 1)) = nw (cs.take k) ++ [(wd (cs[k] / 2)).toNat] := by
  rw [List.take_succ_eq_append_getElem h]; simp only [nw, List.map_append, List.map_cons, List.map_nil]
theorem nw_at {cs : List Int} {k m : Nat} (h : k < m) (hm : m ≤ cs.length) : (nw (cs.take m))[k]? = some (wd (cs[k]'(by omega) / 2)).toNat := by
  simp [nw, h, show k < cs.length by omega]
theorem half_inR {z : Int} (h : (Lit.int .i64 z).wf = true) : InR (z / 2) := by
  have := bounds_i64 h
  unfold InR; omega
theorem wd_nat (n : Int) : ∃ x : Nat, wd n = (x : Int) ∧ (wd n).toNat = x ∧ x < 18446744073709551616 := by
  have := wd_isW n
  unfold IsW at this
  exact ⟨(wd n).toNat, by omega, rfl, by omega⟩
theorem ownw_far {w : World} {base G : Nat} {v : Value} {ws : List Nat} (h : OwnW w base v ws) (hG : G < base) (x : Value) : OwnW (w.setCell ⟨G, 0, none⟩ x) base v ws := by
  refine ⟨h.1, h.2.elim .inl fun ⟨g, cap, cur, hv, hbg, hg, r⟩ => .inr ⟨g, cap, cur, hv, hbg, ?_, r⟩⟩
  exact (Below.heap_setCell w ⟨G, 0, none⟩ x g (by show g ≠ G; omega)).trans hg
theorem wb_one (x : Nat) : wb [x] = le x 8 := by simp [wb]
theorem upd_wb (l : List Nat) (x : Nat) : upd (upd 0 (wb l)) (le x 8) = upd 0 (wb (l ++ [x])) := by rw [upd_append, wb_snoc]
/-- what the running total is good for -/
def Tot (t : Int) (ok : Bool) : Prop := IsW t ∧ (ok = true → ∃ T, InR T ∧ t = wd T)
theorem rd_one (w : World) (x : Nat) (T : TypeId) : Rd (w.alloc (.cells #[.int .u64 (x : Int)] T)) (w.heap.size + 1) (some ⟨w.heap.size, 0, none⟩) (cw [x]) := by
  refine .inr ⟨_, 0, rfl, by omega, fun j v hj => ?_⟩
  rw [Nat.zero_add, cell_of_row _ _ _ _ _ _ (heap_alloc_new w _), ← hj]; simp [cw]
theorem own_capX {w : World} {base n c : Nat} {A : Option Addr} {xs : List UInt8} (h : Own w base (.slice A n c) xs) : xs.length ≤ c := by
  rcases h.2 with ⟨e, h0⟩ | ⟨g, cap, cur, e, hb, hg, hnc, _⟩
  · omega
  · injection e with _ _ e; omega
theorem own_capX' {w : World} {base : Nat} {v : Value} {xs : List UInt8} (h : Own w base v xs) : ∃ A c, v = .slice A xs.length c ∧ Rd w w.heap.size A (cb xs) ∧ xs.length ≤ c := by
  obtain ⟨A, c, rfl, hr, _⟩ := own_rd h
  exact ⟨A, c, rfl, hr, own_capX h⟩
def NumRel (cs : List Int) (m : Nat) (w : World) (v3 v5 v6 v7 : Value) (wr : World) : Prop := ∃ (k : Nat) (t : Int) (ok : Bool), v7 = .int .i64 k ∧ v5 = .int .u64 t ∧ v6 = .bool ok ∧ k ≤ m ∧ Tot t ok ∧ OwnW wr (w.heap.size + 1) v3 (nw (cs.take k)) ∧
  wr.cell? ⟨w.heap.size, 0, none⟩ = some (.int .u32 ((upd 0 (wb (nw (cs.take k))) : Nat) : Int)) ∧ wr.frozen? ⟨w.heap.size, 0, none⟩ = false ∧ Below w.heap.size w wr ∧ w.heap.size < wr.heap.size
attribute [local irreducible] upd
set_option maxHeartbeats 4000000 in
set_option maxRecDepth 100000 in
theorem numbers_any (cs : List Int) (c : Nat) (A : Option Addr) (w : World) (hr : Rd w w.heap.size A (cs.map (Value.int .i64))) (hw : ∀ z ∈ cs, (Lit.int .i64 z).wf = true) (hlen : cs.length ≤ c) (hcm : c ≤ maxLen) (he : EnvT w) :
    Calls Tryd.prog 6 #[.slice A cs.length c] w fun e w' => e = .returned (.bool true) ∧ Below w.heap.size w w' := by
  unfold maxLen at hcm
  have HR := Lib.hid hr
  have HW := Lib.hid hw
  clear hr hw
  obtain ⟨m, hm⟩ : ∃ m, min cs.length 40 = m := ⟨_, rfl⟩
  have HM := Lib.hid hm
  clear hm
  go_enter Tryd.func6, Tryd.ntmps6
  go_wp2_with fail
  go_loopw [3, 5, 6, 7] (fun v3 v5 v6 v7 wr => NumRel cs m w v3 v5 v6 v7 wr) (fun _ _ _ v7 _ => 40 - (intOf v7).toNat)
  case atStart =>
    have hal := heap_alloc_new w (.cells #[Value.int .u32 0] 29)
    exact ⟨0, 1, true, rfl, rfl, rfl, Nat.zero_le _, ⟨by unfold IsW; omega, fun _ => ⟨0, by unfold InR; omega, by unfold wd; rfl⟩⟩, ownw_nil _ _, by rw [cell_of_row _ _ _ _ _ _ hal]; simp [nw, wb, upd_nil], frozen_of_row _ _ _ _ _ hal, (Below.refl _ _).alloc (Nat.le_refl _) _, by simp⟩
  case round =>
    obtain ⟨k, t, ok, rfl, rfl, rfl, hk, hT, hown, hcell, hfr, hbl, hGs⟩ := hrel
    have HC := Lib.hid hcell
    have HF := Lib.hid hfr
    clear hcell hfr
    by_cases hlt : k < cs.length ∧ k < 40
    · obtain ⟨hl1, hl2⟩ := hlt
      have hinR := half_inR (HW.out _ (List.getElem_mem hl1))
      have hzb := bounds_i64 (HW.out _ (List.getElem_mem hl1))
      have HN := Lib.hid (nw_take hl1)
      obtain ⟨b, off, rfl, hbB, hc1⟩ := HR.out.at_ (k := k) (by rw [List.length_map]; exact hl1)
      have hc2 : wr.cell? ⟨b, off + k, none⟩ = some (.int .i64 cs[k]) := by rw [hbl.cell (p := ⟨b, off + k, none⟩) hbB, hc1]; simp
      clear hc1
      generalize cs[k] = z at hinR hzb HN hc2
      obtain ⟨z0, z1⟩ := hzb
      have i0 := hinR.1
      have i1 := hinR.2
      have HI := Lib.hid hinR
      clear hinR
      have hof := fun w' => of_in (z / 2) w' HI.out
      have htx := fun w' (h : EnvT w') => text_any (z / 2) w' (by omega) (by omega) h.tab
      have hpa := fun w' (h : EnvT w') => parse_env ⟨(Lib.itoa (z / 2)).toArray⟩ w' (by rw [mk_size]; have := itoa_len (z / 2) (by omega) (by omega); omega) h
      rw [bs_mk, (itoa_pv HI.out).1, (itoa_pv HI.out).2] at hpa
      obtain ⟨x, hx1, hx2, hx3⟩ := wd_nat (z / 2)
      rw [hx1] at hof
      rw [hx2] at HN
      have HX1 := Lib.hid hx1
      have HX3 := Lib.hid hx3
      clear hx1 hx2 hx3
      go_wp2_with fail
      refine (hof _).mono ?_
      rintro e w1 ⟨rfl, rfl⟩
      go_wp2_with fail
      refine (htx _ (he.below hbl)).mono ?_
      rintro e w1 ⟨rfl, hb1⟩
      have s1 := hb1.size
      go_wp2_with fail
      refine (hpa _ (he.below (hbl.trans (hb1.mono (by omega))))).mono ?_
      rintro e w2 ⟨rfl, hb2⟩
      have s2 := hb2.size
      have hb12 : Below wr.heap.size wr w2 := hb1.trans (hb2.mono s1)
      have hown2 := OwnW.below hown hb12
      have hbw2 := hbl.trans (hb12.mono (by omega))
      clear hb1 hb2 hof htx hpa
      have hadd := he.below hbw2
      obtain ⟨i0', hi, hz0', hz1', hz2'⟩ := info_parts u64info
      have hc2' := HC.out
      have hf2' := HF.out
      have HC2 := Lib.hid ((hb12.cell (p := ⟨w.heap.size, 0, none⟩) hGs).trans hc2')
      have HF2 := Lib.hid ((hb12.frozen (p := ⟨w.heap.size, 0, none⟩) hGs).trans hf2')
      have s12 := hb12.size
      have hkl : (nw (cs.take k)).length ≤ 40 := by rw [nw_len, List.length_take]; omega
      clear hc2' hf2' HC HF hb12
      go_wp2_with (at_builtin; refine wpList_append_own _ rfl _ _ 53 rfl (w.heap.size + 1) 59 i0' (.int .u64 0) 1 8 Tryd.underlying53 hi hz0' hz1' hz2' rfl (by decide) _ _ _ rfl (World.ownsRow.alloc hown2 _) ⟨w2.heap.size, 0, none⟩ 1 1 [.int .u64 (x : Int)] rfl rfl ?c1 ?c2 ?c3 ?c4 ?c5 ?_)
      case c1 => exact lone_cell w2 _ _
      case c2 => exact lone_onew _
      case c3 => unfold maxLen; omega
      case c4 => omega
      case c5 => simp; omega
      intro v3' w3 hown' hgrow _
      have R1 : OwnW w3 (w.heap.size + 1) v3' (nw (cs.take (k + 1))) := by rw [HN.out]; exact ownw_push hown'
      have hb3 := ((Below.refl (w.heap.size + 1) w2).alloc (by omega) (.cells #[.int .u64 (x : Int)] 59)).grown hgrow (by simp; omega) (fun j hj => OwnW.lt hown2 j hj)
      have s3 := hb3.size
      have HC3 := Lib.hid ((hb3.cell (p := ⟨w.heap.size, 0, none⟩) (by show w.heap.size < w.heap.size + 1; omega)).trans HC2.out)
      have HF3 := Lib.hid ((hb3.frozen (p := ⟨w.heap.size, 0, none⟩) (by show w.heap.size < w.heap.size + 1; omega)).trans HF2.out)
      have hbw3 := hbw2.trans (hb3.mono (by omega))
      clear hown' hgrow hown hown2 hb3 HC2 HF2 hi hz0' hz1' hz2' hbw2 hbl
      have hwd := fun w' B (A' : Option Addr) (hr : Rd w' B A' (cw [x])) (hB : B ≤ w'.heap.size) => words_any [x] 1 B A' w' hr hB (by simp) (by simp; exact HX3.out)
      go_wp2_with fail
      refine (hwd _ (w3.heap.size + 1) _ (rd_one w3 x 59) (by simp)).mono ?_
      rintro e w4 ⟨v4, rfl, hO4, hb4⟩
      rw [wb_one] at hO4
      have hb34 : Below w3.heap.size w3 w4 := ((Below.refl _ _).alloc (Nat.le_refl _) _).trans (hb4.mono (by simp))
      have s4 := hb34.size
      have R2 := OwnW.below R1 hb34
      have HC4 := Lib.hid ((hb34.cell (p := ⟨w.heap.size, 0, none⟩) (by show w.heap.size < w3.heap.size; omega)).trans HC3.out)
      have HF4 := Lib.hid ((hb34.frozen (p := ⟨w.heap.size, 0, none⟩) (by show w.heap.size < w3.heap.size; omega)).trans HF3.out)
      have hbw4 := hbw3.trans (hb34.mono (by omega))
      obtain ⟨A4, c4, rfl, hr4, _⟩ := own_rd hO4
      rw [le_len] at *
      have hsum := sum_add (le x 8) c4 w4.heap.size w.heap.size (upd 0 (wb (nw (cs.take k)))) A4 w4 hr4 (by rw [le_len]; omega) (upd_lt _ _) HC4.out HF4.out
      rw [le_len, upd_wb, ← HN.out] at hsum
      have hcc : (w4.setCell ⟨w.heap.size, 0, none⟩ (.int .u32 ((upd 0 (wb (nw (cs.take (k + 1)))) : Nat) : Int))).cell? ⟨w.heap.size, 0, none⟩ = some (.int .u32 ((upd 0 (wb (nw (cs.take (k + 1)))) : Nat) : Int)) := World.cell?_setCell_same _ _ _ HC4.out
      have hff : (w4.setCell ⟨w.heap.size, 0, none⟩ (.int .u32 ((upd 0 (wb (nw (cs.take (k + 1)))) : Nat) : Int))).frozen? ⟨w.heap.size, 0, none⟩ = false := (World.frozen?_setCell _ _ _ _).trans HF4.out
      have R3 := ownw_far R2 (G := w.heap.size) (by omega) (.int .u32 ((upd 0 (wb (nw (cs.take (k + 1)))) : Nat) : Int))
      have hbw5 : Below w.heap.size w (w4.setCell ⟨w.heap.size, 0, none⟩ (.int .u32 ((upd 0 (wb (nw (cs.take (k + 1)))) : Nat) : Int))) := hbw4.setCell (Nat.le_refl _) _
      have s5 : (w4.setCell ⟨w.heap.size, 0, none⟩ (.int .u32 ((upd 0 (wb (nw (cs.take (k + 1)))) : Nat) : Int))).heap.size = w4.heap.size := by simp [World.setCell]
      have hs5 : w.heap.size < (w4.setCell ⟨w.heap.size, 0, none⟩ (.int .u32 ((upd 0 (wb (nw (cs.take (k + 1)))) : Nat) : Int))).heap.size := by omega
      clear HC3 HF3 HC4 HF4 hb34 hb4 hO4 hr4 R1 R2 hbw3 hbw4 s5 hwd
      generalize w4.setCell ⟨w.heap.size, 0, none⟩ (.int .u32 ((upd 0 (wb (nw (cs.take (k + 1)))) : Nat) : Int)) = w5 at *
      have HCC := Lib.hid hcc
      have HFF := Lib.hid hff
      clear hcc hff
      have HX1' := HX1.out
      obtain ⟨hTW, hTT⟩ := hT
      have HTT := Lib.hid hTT
      clear hTT
      have HTW := Lib.hid hTW
      clear hTW
      cases ok
      · go_wp2_with fail
        refine hsum.mono ?_
        rintro e w6 ⟨rfl, rfl⟩
        go_wp2_with fail
        go_roundw
        case rel => exact ⟨k + 1, t, false, by simp, rfl, rfl, by have := HM.out; omega, ⟨HTW.out, fun h => by cases h⟩, R3, HCC.out, HFF.out, hbw5, hs5⟩
        case measure => simp [intOf]; omega
      · obtain ⟨T, hTR, hTt⟩ := HTT.out rfl
        subst hTt
        have hre := fun w' => rvalue_any (wd T) w' (wd_isW T)
        rw [val_wd hTR] at hre
        have hdo := fun w' => rdo_add T (z / 2) w' hTR HI.out
        have hHTR := Lib.hid hTR
        clear hTR HTT
        by_cases hin : InR (T + z / 2)
        · have had := fun w' => add_in T (z / 2) w' hHTR.out HI.out hin
          have hr2 := fun w' => rvalue_any (wd (T + z / 2)) w' (wd_isW _)
          rw [val_wd hin] at hr2
          unfold resN at hdo
          rw [if_pos hin, resE_in hin] at hdo
          rw [HX1'] at had
          have HIN := Lib.hid hin
          clear hin HX1'
          go_wp2_with fail
          refine hsum.mono ?_
          rintro e w6 ⟨rfl, rfl⟩
          go_wp2_with fail
          refine (had _).mono ?_
          rintro e w6 ⟨rfl, hb6⟩
          have s6 := hb6.size
          have R4 := OwnW.below R3 hb6
          have HC6 := Lib.hid ((hb6.cell (p := ⟨w.heap.size, 0, none⟩) hs5).trans HCC.out)
          have HF6 := Lib.hid ((hb6.frozen (p := ⟨w.heap.size, 0, none⟩) hs5).trans HFF.out)
          have hbw6 := hbw5.trans (hb6.mono (by omega))
          clear hb6 HCC HFF R3 hsum had hbw5
          go_wp2_with (first
            | (go_at_call 32; (with_reducible refine (hdo _).mono ?_); rintro e w' ⟨rfl, rfl⟩)
            | (go_at_call 33; (with_reducible refine (hre _).mono ?_); rintro e w' ⟨rfl, rfl⟩)
            | (go_at_call 33; (with_reducible refine (hr2 _).mono ?_); rintro e w' ⟨rfl, rfl⟩))
          go_roundw
          case rel => exact ⟨k + 1, wd (T + z / 2), true, by simp, rfl, rfl, by have := HM.out; omega, ⟨wd_isW _, fun _ => ⟨_, HIN.out, rfl⟩⟩, R4, HC6.out, HF6.out, hbw6, by omega⟩
          case measure => simp [intOf]; omega
        · have had := fun w' => add_out T (z / 2) w' hHTR.out HI.out hin
          unfold resN at hdo
          rw [if_neg hin, resE_out hin] at hdo
          rw [HX1'] at had
          clear hin HX1'
          go_wp2_with fail
          refine hsum.mono ?_
          rintro e w6 ⟨rfl, rfl⟩
          go_wp2_with fail
          refine (had _).mono ?_
          rintro e w6 ⟨rfl, hb6⟩
          have s6 := hb6.size
          have R4 := OwnW.below R3 hb6
          have HC6 := Lib.hid ((hb6.cell (p := ⟨w.heap.size, 0, none⟩) hs5).trans HCC.out)
          have HF6 := Lib.hid ((hb6.frozen (p := ⟨w.heap.size, 0, none⟩) hs5).trans HFF.out)
          have hbw6 := hbw5.trans (hb6.mono (by omega))
          clear hb6 HCC HFF R3 hsum had hbw5
          go_wp2_with (first
            | (go_at_call 32; (with_reducible refine (hdo _).mono ?_); rintro e w' ⟨rfl, rfl⟩)
            | (go_at_call 33; (with_reducible refine (hre _).mono ?_); rintro e w' ⟨rfl, rfl⟩))
          go_roundw
          case rel => exact ⟨k + 1, 0, false, by simp, rfl, rfl, by have := HM.out; omega, ⟨by unfold IsW; omega, fun h => by cases h⟩, R4, HC6.out, HF6.out, hbw6, by omega⟩
          case measure => simp [intOf]; omega
    · have hkm : k = m := by have := HM.out; omega
      have hm40 : m ≤ 40 := by have := HM.out; omega
      have hml : m ≤ cs.length := by have := HM.out; omega
      have hge : ¬ (k < cs.length ∧ k < 40) := hlt
      subst hkm
      clear hlt hT
      have hnl : (nw (cs.take k)).length = k := by rw [nw_len, List.length_take]; omega
      have hnlt := nw_lt (cs.take k)
      obtain ⟨ws, hws⟩ : ∃ ws, nw (cs.take k) = ws := ⟨_, rfl⟩
      rw [hws] at hown HC hnl hnlt
      have HWS := Lib.hid hws
      clear hws
      obtain ⟨U, hU⟩ : ∃ U, upd 0 (wb ws) = U := ⟨_, rfl⟩
      rw [hU] at HC
      have HU := Lib.hid hU
      clear hU
      obtain ⟨A3, c3, rfl, hr3, _⟩ := ownw_rd hown
      clear hown
      obtain rfl : k = ws.length := hnl.symm
      have hw1 := fun w' B (hr : Rd w' B A3 (cw ws)) (hB : B ≤ w'.heap.size) => words_any ws c3 B A3 w' hr hB (by omega) hnlt
      have hsame := fun w' (A' : Option Addr) c' B B' (h1 : Rd w' B A' (cw ws)) (h2 : Rd w' B' A3 (cw ws)) => same_same ws c' c3 B B' A' A3 w' h1 h2 (by omega)
      have huw := uw_wb ws hnlt
      have hwl := wb_len ws
      have HNT := Lib.hid hnlt
      have HR3 := Lib.hid hr3
      obtain ⟨X, hX⟩ : ∃ X, wb ws = X := ⟨_, rfl⟩
      rw [hX] at huw hwl
      have HU2 : Hid (upd 0 X = U) := by rw [← hX]; exact HU
      have HX := Lib.hid hX
      have huw' := fun w' (A' : Option Addr) c' B (h : Rd w' B A' (cb X)) (hB : B ≤ w'.heap.size) (hc : X.length ≤ c') => unwords_any X c' B A' w' h hB (by omega) hc
      have HUW := Lib.hid huw
      have HWL := Lib.hid hwl
      clear hnlt hr3 hX huw hwl HU hnl
      by_cases hkc : ws.length < cs.length
      · have hk40 : 40 ≤ ws.length := by omega
        clear hge
        go_wp2_with fail
        refine (hw1 _ _ HR3.out (Nat.le_refl _)).mono ?_
        rintro e w1 ⟨v1, rfl, hO1, hb1⟩
        rw [HX.out] at hO1
        have s1 := hb1.size
        obtain ⟨A1, c1, rfl, hr1, hcap1⟩ := own_capX' hO1
        have HR1 := Lib.hid hr1
        have HC1 := Lib.hid ((hb1.cell (p := ⟨w.heap.size, 0, none⟩) hGs).trans HC.out)
        have hbw1 := hbl.trans (hb1.mono (by omega))
        have HR31 := Lib.hid (HR3.out.below hb1 (Nat.le_refl _))
        clear hr1 hO1 hb1 HC hbl hw1
        go_wp2_with fail
        refine (huw' _ _ _ _ HR1.out (Nat.le_refl _) hcap1).mono ?_
        rintro e w2 ⟨v2, r2, rfl, hb2, hcond⟩
        rw [if_pos (by have := HWL.out; omega), show X.length / 8 = ws.length by have := HWL.out; omega, HUW.out] at hcond
        obtain ⟨rfl, hO2⟩ := hcond
        have s2 := hb2.size
        obtain ⟨A2, c2, rfl, hr2, _⟩ := ownw_rd hO2
        have HR2 := Lib.hid hr2
        have HC2 := Lib.hid ((hb2.cell (p := ⟨w.heap.size, 0, none⟩) (by show w.heap.size < w1.heap.size; omega)).trans HC1.out)
        have hbw2 := hbw1.trans (hb2.mono (by omega))
        have HR32 := Lib.hid (HR31.out.below hb2 (by omega))
        have HR12 := Lib.hid (HR1.out.below hb2 (Nat.le_refl _))
        clear hr2 hO2 hb2 HC1 hbw1 HR31 HR1 huw'
        go_wp2_with fail
        refine (hsame _ _ _ _ _ HR2.out HR32.out).mono ?_
        rintro e w3 ⟨rfl, q, rfl⟩
        have hb3 : Below w2.heap.size w2 (w2.drewN q) := below_drewN (Below.refl _ _) q
        have HC3 := Lib.hid ((hb3.cell (p := ⟨w.heap.size, 0, none⟩) (by show w.heap.size < w2.heap.size; omega)).trans HC2.out)
        have HR13 := Lib.hid (HR12.out.below hb3 (by omega))
        have HR23 := Lib.hid (HR2.out.below hb3 (by omega))
        have hbw3 := hbw2.trans (hb3.mono (by omega))
        have s3 : w2.heap.size ≤ (w2.drewN q).heap.size := hb3.size
        clear hb3 HC2 HR12 HR2 HR32 hbw2 hsame
        generalize w2.drewN q = w3 at *
        go_wp2_with fail
        refine (sum_value w.heap.size U w3 HC3.out).mono ?_
        rintro e w3' ⟨rfl, rfl⟩
        go_wp2_with fail
        refine (crc_any X _ A1 w3 (HR13.out.more (by omega)) (by have := HWL.out; omega)).mono ?_
        rintro e w4 ⟨rfl, hb4⟩
        rw [HU2.out]
        have s4 := hb4.size
        have HR14 := Lib.hid (HR13.out.below hb4 (by omega))
        have HR24 := Lib.hid (HR23.out.below hb4 (by omega))
        have hbw4 := hbw3.trans (hb4.mono (by omega))
        clear hb4 HC3 HR13 HR23 hbw3
        go_wp2_with fail
        refine (crc_any X _ A1 w4 (HR14.out.more (by omega)) (by have := HWL.out; omega)).mono ?_
        rintro e w5 ⟨rfl, hb5⟩
        rw [HU2.out]
        have s5 := hb5.size
        have HR15 := Lib.hid (HR14.out.below hb5 (by omega))
        have HR25 := Lib.hid (HR24.out.below hb5 (by omega))
        have hbw5 := hbw4.trans (hb5.mono (by omega))
        clear hb5 HR14 HR24 hbw4
        go_wp2_with fail
        refine (rcrc_any X _ w1.heap.size A1 w5 HR15.out (by have := HWL.out; omega)).mono ?_
        rintro e w5' ⟨rfl, rfl⟩
        rw [HU2.out]
        have HRC := Lib.hid (HR.out.below hbw5 (Nat.le_refl _))
        clear HR15
        go_wp2_with fail
        go_loop [129] (fun v => ∃ i : Nat, i ≤ ws.length ∧ v = .int .i64 i) (fun v => ws.length - (intOf v).toNat)
        case atStart => exact ⟨0, Nat.zero_le _, rfl⟩
        case round =>
          obtain ⟨i, hi, rfl⟩ := hrel
          by_cases hil : i < ws.length
          · obtain ⟨b, off, rfl, hbB, hc1⟩ := HRC.out.at_ (k := i) (by rw [List.length_map]; omega)
            obtain ⟨b2, off2, rfl, hbB2, hc2⟩ := rdw_at HR25.out hil
            have hwi : ws[i]? = some (wd (cs[i]'(by omega) / 2)).toNat := by have h := nw_at hil hml; rwa [HWS.out] at h
            rw [List.getElem?_eq_getElem hil] at hwi
            injection hwi with hwi
            rw [hwi, Int.toNat_of_nonneg (wd_isW _).1] at hc2
            have hinR := half_inR (HW.out _ (List.getElem_mem (show i < cs.length by omega)))
            have hc3 : w5.cell? ⟨b, off + i, none⟩ = some (.int .i64 (cs[i]'(by omega))) := by rw [hc1]; simp
            clear hc1 hwi
            generalize cs[i]'(by omega) = z at hinR hc2 hc3
            have hvl := fun w' => value_wd (z / 2) w' hinR
            clear hinR
            go_wp2_with fail
            refine (hvl _).mono ?_
            rintro e w6 ⟨rfl, rfl⟩
            go_wp2_with fail
            go_round
            case rel => exact ⟨i + 1, by omega, by simp⟩
            case measure => simp [intOf]; omega
          · have hw7 := words_any [7] 1 (w5.heap.size + 1) (some ⟨w5.heap.size, 0, none⟩) (w5.alloc (.cells #[.int .u64 7] 59)) (rd_one w5 7 _) (by simp) (by simp) (by simp)
            rw [show ([7] : List Nat).length = 1 from rfl] at hw7
            go_wp2_with fail
            refine hw7.mono ?_
            rintro e w7 ⟨v7, rfl, hO7, hb7⟩
            rw [wb_one] at hO7
            obtain ⟨A7, c7, rfl, _, _⟩ := own_rd hO7
            rw [le_len]
            have hbw7 : Below w.heap.size w w7 := (hbw5.alloc (by omega) _).trans (hb7.mono (by simp; omega))
            clear hO7 hb7 hw7
            go_wp2_with fail
            go_ret
            exact ⟨rfl, hbw7⟩
      · clear hge
        go_wp2_with fail
        refine (hw1 _ _ HR3.out (Nat.le_refl _)).mono ?_
        rintro e w1 ⟨v1, rfl, hO1, hb1⟩
        rw [HX.out] at hO1
        have s1 := hb1.size
        obtain ⟨A1, c1, rfl, hr1, hcap1⟩ := own_capX' hO1
        have HR1 := Lib.hid hr1
        have HC1 := Lib.hid ((hb1.cell (p := ⟨w.heap.size, 0, none⟩) hGs).trans HC.out)
        have hbw1 := hbl.trans (hb1.mono (by omega))
        have HR31 := Lib.hid (HR3.out.below hb1 (Nat.le_refl _))
        clear hr1 hO1 hb1 HC hbl hw1
        go_wp2_with fail
        refine (huw' _ _ _ _ HR1.out (Nat.le_refl _) hcap1).mono ?_
        rintro e w2 ⟨v2, r2, rfl, hb2, hcond⟩
        rw [if_pos (by have := HWL.out; omega), show X.length / 8 = ws.length by have := HWL.out; omega, HUW.out] at hcond
        obtain ⟨rfl, hO2⟩ := hcond
        have s2 := hb2.size
        obtain ⟨A2, c2, rfl, hr2, _⟩ := ownw_rd hO2
        have HR2 := Lib.hid hr2
        have HC2 := Lib.hid ((hb2.cell (p := ⟨w.heap.size, 0, none⟩) (by show w.heap.size < w1.heap.size; omega)).trans HC1.out)
        have hbw2 := hbw1.trans (hb2.mono (by omega))
        have HR32 := Lib.hid (HR31.out.below hb2 (by omega))
        have HR12 := Lib.hid (HR1.out.below hb2 (Nat.le_refl _))
        clear hr2 hO2 hb2 HC1 hbw1 HR31 HR1 huw'
        go_wp2_with fail
        refine (hsame _ _ _ _ _ HR2.out HR32.out).mono ?_
        rintro e w3 ⟨rfl, q, rfl⟩
        have hb3 : Below w2.heap.size w2 (w2.drewN q) := below_drewN (Below.refl _ _) q
        have HC3 := Lib.hid ((hb3.cell (p := ⟨w.heap.size, 0, none⟩) (by show w.heap.size < w2.heap.size; omega)).trans HC2.out)
        have HR13 := Lib.hid (HR12.out.below hb3 (by omega))
        have HR23 := Lib.hid (HR2.out.below hb3 (by omega))
        have hbw3 := hbw2.trans (hb3.mono (by omega))
        have s3 : w2.heap.size ≤ (w2.drewN q).heap.size := hb3.size
        clear hb3 HC2 HR12 HR2 HR32 hbw2 hsame
        generalize w2.drewN q = w3 at *
        go_wp2_with fail
        refine (sum_value w.heap.size U w3 HC3.out).mono ?_
        rintro e w3' ⟨rfl, rfl⟩
        go_wp2_with fail
        refine (crc_any X _ A1 w3 (HR13.out.more (by omega)) (by have := HWL.out; omega)).mono ?_
        rintro e w4 ⟨rfl, hb4⟩
        rw [HU2.out]
        have s4 := hb4.size
        have HR14 := Lib.hid (HR13.out.below hb4 (by omega))
        have HR24 := Lib.hid (HR23.out.below hb4 (by omega))
        have hbw4 := hbw3.trans (hb4.mono (by omega))
        clear hb4 HC3 HR13 HR23 hbw3
        go_wp2_with fail
        refine (crc_any X _ A1 w4 (HR14.out.more (by omega)) (by have := HWL.out; omega)).mono ?_
        rintro e w5 ⟨rfl, hb5⟩
        rw [HU2.out]
        have s5 := hb5.size
        have HR15 := Lib.hid (HR14.out.below hb5 (by omega))
        have HR25 := Lib.hid (HR24.out.below hb5 (by omega))
        have hbw5 := hbw4.trans (hb5.mono (by omega))
        clear hb5 HR14 HR24 hbw4
        go_wp2_with fail
        refine (rcrc_any X _ w1.heap.size A1 w5 HR15.out (by have := HWL.out; omega)).mono ?_
        rintro e w5' ⟨rfl, rfl⟩
        rw [HU2.out]
        have HRC := Lib.hid (HR.out.below hbw5 (Nat.le_refl _))
        clear HR15
        go_wp2_with fail
        go_loop [129] (fun v => ∃ i : Nat, i ≤ ws.length ∧ v = .int .i64 i) (fun v => ws.length - (intOf v).toNat)
        case atStart => exact ⟨0, Nat.zero_le _, rfl⟩
        case round =>
          obtain ⟨i, hi, rfl⟩ := hrel
          by_cases hil : i < ws.length
          · obtain ⟨b, off, rfl, hbB, hc1⟩ := HRC.out.at_ (k := i) (by rw [List.length_map]; omega)
            obtain ⟨b2, off2, rfl, hbB2, hc2⟩ := rdw_at HR25.out hil
            have hwi : ws[i]? = some (wd (cs[i]'(by omega) / 2)).toNat := by have h := nw_at hil hml; rwa [HWS.out] at h
            rw [List.getElem?_eq_getElem hil] at hwi
            injection hwi with hwi
            rw [hwi, Int.toNat_of_nonneg (wd_isW _).1] at hc2
            have hinR := half_inR (HW.out _ (List.getElem_mem (show i < cs.length by omega)))
            have hc3 : w5.cell? ⟨b, off + i, none⟩ = some (.int .i64 (cs[i]'(by omega))) := by rw [hc1]; simp
            clear hc1 hwi
            generalize cs[i]'(by omega) = z at hinR hc2 hc3
            have hvl := fun w' => value_wd (z / 2) w' hinR
            clear hinR
            go_wp2_with fail
            refine (hvl _).mono ?_
            rintro e w6 ⟨rfl, rfl⟩
            go_wp2_with fail
            go_round
            case rel => exact ⟨i + 1, by omega, by simp⟩
            case measure => simp [intOf]; omega
          · have hw7 := words_any [7] 1 (w5.heap.size + 1) (some ⟨w5.heap.size, 0, none⟩) (w5.alloc (.cells #[.int .u64 7] 59)) (rd_one w5 7 _) (by simp) (by simp) (by simp)
            rw [show ([7] : List Nat).length = 1 from rfl] at hw7
            go_wp2_with fail
            refine hw7.mono ?_
            rintro e w7 ⟨v7, rfl, hO7, hb7⟩
            rw [wb_one] at hO7
            obtain ⟨A7, c7, rfl, _, _⟩ := own_rd hO7
            rw [le_len]
            have hbw7 : Below w.heap.size w w7 := (hbw5.alloc (by omega) _).trans (hb7.mono (by simp; omega))
            clear hO7 hb7 hw7
            go_wp2_with fail
            go_ret
            exact ⟨rfl, hbw7⟩
theorem walk_FoundlingNumbers (A : Option Addr) (len cap : Nat) (zs : List Int) (W : World) (h : IsRow .i64 W A len cap zs) (he : EnvT W) :
    Calls Tryd.prog 6 #[.slice A len cap] W fun e w' => e = .returned (.bool true) ∧ Below W.heap.size W w' := by
  obtain ⟨cs, rfl, hc, hm, hr, _, hw⟩ := ints_row h
  exact numbers_any cs cap A W hr hw hc hm he
end Go.Proofs.YtmlfooofgedmaaaDoor.Fl
