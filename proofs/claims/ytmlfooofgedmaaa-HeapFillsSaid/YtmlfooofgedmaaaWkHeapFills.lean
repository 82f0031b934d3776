/-
  The walk of HeapFills.
-/
import Derived.Test.YtmlfooofgedmaaaHeapH
import Derived.Test.YtmlfooofgedmaaaInts
namespace Go.Proofs.Ytmlfooofgedmaaa.Fl
open Go.RowKit

theorem ints_at {w : World} {B : Nat} {A : Option Addr} {cs : List Int} (h : Rd w B A (cs.map (Value.int .i64))) {k : Nat} (hk : k < cs.length) :
    ∃ b off, A = some ⟨b, off, none⟩ ∧ b < B ∧ w.cell? ⟨b, off + k, none⟩ = some (.int .i64 cs[k]) := by
  obtain ⟨b, off, hA, hb, hc⟩ := h.at_ (k := k) (by simpa using hk)
  exact ⟨b, off, hA, hb, by simpa using hc⟩
theorem vI {a b : Int} (h : a = b) : Value.int .i64 a = .int .i64 b := by rw [h]
theorem cells_lim (n : Int) : ∃ C : Nat, max 16 (min n 600) = (C : Int) ∧ 16 ≤ C ∧ C ≤ 600 := ⟨(max 16 (min n 600)).toNat, by omega, by omega, by omega⟩
set_option maxRecDepth 100000 in
set_option maxHeartbeats 4000000 in
theorem fills_any (n : Int) (cs : List Int) (c : Nat) (A : Option Addr) (w : World) (hr : Rd w w.heap.size A (cs.map (Value.int .i64))) (hw : ∀ x ∈ cs, (Lit.int .i64 x).wf = true) (_hcs : cs.length ≤ 9223372036854775807) :
    Calls Try.prog 7 #[.int .i64 n, .slice A cs.length c] w fun e w' => e = .returned (.bool true) ∧ Below w.heap.size w w' := by
  obtain ⟨C, hC, hC1, hC2⟩ := cells_lim n
  have hnew := fun (w' : World) => new_ok C w' hC1 (by omega)
  have HC := Lib.hid hC
  clear hC
  go_enter Try.func7, Try.ntmps7
  go_wp2_with fail
  refine (awake_heap _).mono ?_
  rintro e w1 ⟨rfl, hb1⟩
  go_upto_region 3 with fail
  go_cut [0] (fun v wx => v = .int .i64 (C : Int) ∧ w1 = wx)
  case first =>
    clear hnew hw hr hC1 hC2 hb1
    go_wp2_with fail
    all_goals go_meet
    all_goals exact ⟨vI (by have := HC.out; omega), rfl⟩
  case rest =>
    obtain ⟨rfl, rfl⟩ := hcut
    go_wp2_with fail
    refine (hnew w1).mono ?_
    rintro e w2 ⟨g, gc, gb, gb2, rfl, h2, hb2⟩
    have HI2 := Lib.hid (hi_begin h2 hb2.size)
    have hbw2 : Below w.heap.size w w2 := hb1.trans (hb2.mono hb1.size)
    have hs1 := hb1.size
    have HW1 := Lib.hid (show w.heap.size ≤ w1.heap.size from hb1.size)
    generalize w1.heap.size = base at *
    clear h2 hb2 hb1 hnew HC
    go_wp2_with fail
    go_loopw [7, 8] (fun l i wr => ∃ (k : Nat) (lf : Int), k ≤ cs.length ∧ k ≤ 60 ∧ i = .int .i64 k ∧ l = .int .i64 lf ∧ Hid (HI wr base g gb gb2 C lf) ∧ Below w.heap.size w wr) (fun _ i _ => cs.length - (intOf i).toNat)
    case atStart => exact ⟨0, (C : Int) - 2, Nat.zero_le _, by omega, rfl, rfl, HI2, hbw2⟩
    case round =>
      obtain ⟨k, lf, hk, hk60, rfl, rfl, HR, hbl⟩ := hrel
      clear HI2 hbw2
      have hbd := HR.out.bd
      by_cases hlt : k < cs.length ∧ k < 60
      · obtain ⟨hlt, hlt60⟩ := hlt
        obtain ⟨b, off, rfl, _, hcell⟩ := ints_at (hr.below hbl (Nat.le_refl _)) hlt
        have hwx := bounds_i64 (hw _ (List.getElem_mem hlt))
        generalize cs[k] = x at hcell hwx
        go_upto_region 11 with fail
        go_cut [9] (fun v wx => ∃ t : Int, v = .int .i64 t ∧ 0 ≤ t ∧ t ≤ 700 ∧ wr = wx)
        case first =>
          clear hw hr hC1 hC2 hs1 hbl hbd HR HW1 hk hk60
          go_wp2_with fail
          all_goals go_meet
          all_goals exact ⟨_, rfl, by omega, by omega, rfl⟩
        case rest =>
          obtain ⟨t, rfl, ht0, ht1, rfl⟩ := hcut
          clear hcell hwx
          have hk2 : 0 ≤ (k : Int) % 2 ∧ (k : Int) % 2 ≤ 1 := by omega
          by_cases hf : t + 2 ≤ lf
          · go_wp2_with fail
            refine (hi_fit ((k : Int) % 2) t HR.out hk2.1 hk2.2 ht0 (by omega) hf).mono ?_
            rintro e w3 ⟨p, rfl, h3, hb3, _⟩
            have hb4 : Below w.heap.size w w3 := hbl.trans (hb3.mono HW1.out)
            have H3 := Lib.hid h3
            clear h3 hb3 HR hbl hk2
            go_wp2_with (first
              | (go_at_call 22; (with_reducible refine (hi_free H3.out).mono ?_); rintro e w' ⟨rfl, rfl⟩)
              | (go_at_call 23; (with_reducible refine (hi_used H3.out).mono ?_); rintro e w' ⟨rfl, rfl⟩))
            go_roundw
            case rel => exact ⟨k + 1, _, by omega, by omega, by simp, rfl, H3, hb4⟩
            case measure => simp [intOf]; omega
          · go_wp2_with fail
            refine (hi_full ((k : Int) % 2) t HR.out hk2.1 hk2.2 ht0 (by omega) (by omega)).mono ?_
            rintro e w3 ⟨rfl, hb3⟩
            have hb4 : Below w.heap.size w w3 := hbl.trans (hb3.mono hbl.size)
            have H3 := Lib.hid (HR.out.below hb3)
            clear hb3 HR hbl hk2
            go_wp2_with (first
              | (go_at_call 22; (with_reducible refine (hi_free H3.out).mono ?_); rintro e w' ⟨rfl, rfl⟩)
              | (go_at_call 23; (with_reducible refine (hi_used H3.out).mono ?_); rintro e w' ⟨rfl, rfl⟩))
            go_roundw
            case rel => exact ⟨k + 1, _, by omega, by omega, by simp, rfl, H3, hb4⟩
            case measure => simp [intOf]; omega
      · by_cases hl2 : lf < 2
        · rcases Nat.lt_or_ge k cs.length with hq | hq
          · have hq60 : 60 ≤ k := by omega
            go_wp2_with fail
            refine (hi_full 0 0 HR.out (by decide) (by decide) (by decide) (by decide) (by omega)).mono ?_
            rintro e w3 ⟨rfl, hb3⟩
            go_wp2_with fail
            go_ret
            exact ⟨rfl, hbl.trans (hb3.mono hbl.size)⟩
          · go_wp2_with fail
            refine (hi_full 0 0 HR.out (by decide) (by decide) (by decide) (by decide) (by omega)).mono ?_
            rintro e w3 ⟨rfl, hb3⟩
            go_wp2_with fail
            go_ret
            exact ⟨rfl, hbl.trans (hb3.mono hbl.size)⟩
        · rcases Nat.lt_or_ge k cs.length with hq | hq
          · have hq60 : 60 ≤ k := by omega
            go_wp2_with fail
            refine (hi_fit 1 (lf - 2) HR.out (by decide) (by decide) (by omega) (by omega) (by omega)).mono ?_
            rintro e w3 ⟨p, rfl, h3, hb3, hp⟩
            have hb4 : Below w.heap.size w w3 := hbl.trans (hb3.mono HW1.out)
            rw [show lf - (lf - 2 + 2) = 0 by omega] at h3
            have H3 := Lib.hid h3
            have HP := Lib.hid hp
            clear h3 hp hb3 HR
            go_wp2_with (go_at_call 24; (with_reducible refine HP.out.mono ?_); rintro e w' ⟨rfl, rfl⟩)
            refine (hi_full 0 0 H3.out (by decide) (by decide) (by decide) (by decide) (by decide)).mono ?_
            rintro e w5 ⟨rfl, hb5⟩
            have H5 := Lib.hid (H3.out.below hb5)
            go_wp2_with (go_at_call 22; (with_reducible refine (hi_free H5.out).mono ?_); rintro e w' ⟨rfl, rfl⟩)
            go_ret
            exact ⟨rfl, hb4.trans (hb5.mono hb4.size)⟩
          · go_wp2_with fail
            refine (hi_fit 1 (lf - 2) HR.out (by decide) (by decide) (by omega) (by omega) (by omega)).mono ?_
            rintro e w3 ⟨p, rfl, h3, hb3, hp⟩
            have hb4 : Below w.heap.size w w3 := hbl.trans (hb3.mono HW1.out)
            rw [show lf - (lf - 2 + 2) = 0 by omega] at h3
            have H3 := Lib.hid h3
            have HP := Lib.hid hp
            clear h3 hp hb3 HR
            go_wp2_with (go_at_call 24; (with_reducible refine HP.out.mono ?_); rintro e w' ⟨rfl, rfl⟩)
            refine (hi_full 0 0 H3.out (by decide) (by decide) (by decide) (by decide) (by decide)).mono ?_
            rintro e w5 ⟨rfl, hb5⟩
            have H5 := Lib.hid (H3.out.below hb5)
            go_wp2_with (go_at_call 22; (with_reducible refine (hi_free H5.out).mono ?_); rintro e w' ⟨rfl, rfl⟩)
            go_ret
            exact ⟨rfl, hb4.trans (hb5.mono hb4.size)⟩
theorem walk_HeapFills (n : Int) (A : Option Addr) (len cap : Nat) (zs : List Int) (W : World) (_wn : (Lit.int .i64 n).wf = true) (h : IsRow .i64 W A len cap zs) :
    Calls Try.prog 7 #[.int .i64 n, .slice A len cap] W fun e w' => e = .returned (.bool true) ∧ Below W.heap.size W w' := by
  obtain ⟨cs, rfl, hc, hm, hr, _, hw⟩ := ints_row h
  exact fills_any n cs cap A W hr hw (by unfold maxLen at hm; omega)
end Go.Proofs.Ytmlfooofgedmaaa.Fl
