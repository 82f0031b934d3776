/-
  The walk of PackNumbers.
-/
import Derived.Test.YtdcehjdngjafoaaDoorSpare
namespace Go.Proofs.YtdcehjdngjafoaaDoor.Fl
open Go.RowKit

theorem short_any (l c : Nat) (A : Option Addr) (n : Nat) (w : World) (hc : l ≤ c) (hn : n ≤ 600) :
    Calls Tryd.prog 42 #[.slice A l c, .int .i64 (n : Int)] w fun e w' => e = .returned (.slice A (min l n) c) ∧ w = w' := by
  by_cases h : n < l
  · go_enter Tryd.func42, Tryd.ntmps42
    go_wp2_with fail
    go_ret
    exact ⟨by rw [Nat.min_eq_right (Nat.le_of_lt h)]; rfl, rfl⟩
  · go_enter Tryd.func42, Tryd.ntmps42
    go_wp2_with fail
    go_ret
    exact ⟨by rw [Nat.min_eq_left (by omega)]; rfl, rfl⟩
theorem xor_byte (c : UInt8) : ∃ d : UInt8, bits .xor .u8 (c.toNat : Int) 255 = (d.toNat : Int) := by
  have hc := UInt8.toNat_lt c
  have h1 : c.toNat ^^^ 255 < 2 ^ 8 := Nat.xor_lt_two_pow (by omega) (by omega)
  refine ⟨UInt8.ofNat (c.toNat ^^^ 255), ?_⟩
  rw [show (255 : Int) = ((255 : Nat) : Int) from rfl, u8_xor_nat _ _ (by omega) (by omega), UInt8.toNat_ofNat', Nat.mod_eq_of_lt h1]
theorem fit_take {xs L : List UInt8} (h : ∀ i, i < xs.length + 7 → L[i]? = some (sp xs i)) : L.take xs.length = xs := by
  apply List.ext_getElem?
  intro i
  rw [List.getElem?_take]
  by_cases hi : i < xs.length
  · rw [if_pos hi, h i (by omega), sp_in hi, List.getElem?_eq_getElem hi]
  · rw [if_neg hi, List.getElem?_eq_none (by omega)]
theorem res_cases (ys : List UInt8) (m : Nat) : (errNum ys m = 0 ∧ decide (errNum ys m = 0) = true) ∨ (errNum ys m = 4 ∧ decide (errNum ys m = 0) = false) := by
  unfold errNum; split <;> simp
theorem Own.below {w w' : World} {base : Nat} {v : Value} {xs : List UInt8} (h : Own w base v xs) (hb : Below w.heap.size w w') : Own w' base v xs := by
  refine ⟨h.1, h.2.elim .inl fun ⟨g, cap, cur, hv, hbg, hg, r⟩ => .inr ⟨g, cap, cur, hv, hbg, ?_, r⟩⟩
  have hlt : g < w.heap.size := by
    rcases Nat.lt_or_ge g w.heap.size with h1 | h1
    · exact h1
    · rw [Array.getElem?_eq_none h1] at hg; cases hg
  rw [hb.block g hlt]; exact hg
theorem own_ad {w : World} {base n c : Nat} {A : Option Addr} {xs : List UInt8} (h : Own w base (.slice A n c) xs) (hn : 0 < n) : ∃ g, A = some ⟨g, 0, none⟩ ∧ base ≤ g := by
  rcases h.2 with ⟨e, _⟩ | ⟨g, cap, cur, e, hb, _⟩
  · injection e with _ e _; omega
  · injection e with e _ _; exact ⟨g, e, hb⟩
set_option maxHeartbeats 4000000 in
theorem packNumbers_short (ys : List UInt8) (c B l : Nat) (A : Option Addr) (x : Nat) (n : Int) (w : World) (hr : Rd w B A (cb ys)) (hB : B ≤ w.heap.size) (hn : A = none → ys = [] ∧ c = 0) (hlc : l ≤ c) (hl : min l 200 = ys.length) (hx : x < 18446744073709551616) (he : EnvB w) :
    Calls Tryd.prog 10 #[.slice A l c, .int .u64 (x : Int), .int .i64 n] w fun e w' => e = .returned (.bool true) ∧ Below w.heap.size w w' := by
  have hyl : ys.length ≤ 200 := by omega
  have hS := fun w' => short_any l c A 200 w' hlc (by omega)
  rw [hl] at hS
  have hyc : ys.length ≤ c := by omega
  have HX := Lib.hid hx
  have HR := Lib.hid hr
  have HHN := Lib.hid hn
  clear hl hlc hx hr hn
  go_enter Tryd.func10, Tryd.ntmps10
  go_wp2_with fail
  refine (awakeP_any _ he).mono ?_
  rintro e w1 ⟨rfl, hb1⟩
  go_wp2_with fail
  refine (hS w1).mono ?_
  rintro e w1' ⟨rfl, rfl⟩
  clear hS
  have hs1 := hb1.size
  have hr1 := Lib.hid (HR.out.below hb1 hB)
  go_wp2_with fail
  refine (spare_any ys c B A w1 hr1.out (by omega) (by omega)).mono ?_
  rintro e w2 ⟨g, L, rfl, hg, hL, hO, hI, hb2⟩
  obtain ⟨_, _, e2, hrL, _⟩ := own_rd hO
  rw [hL] at e2
  injection e2 with e2 _ e3
  subst e2
  subst e3
  have HT := Lib.hid (fit_take hI)
  have hrL' := hrL.take_ ys.length
  rw [cb_take, HT.out] at hrL'
  have HrL := Lib.hid hrL
  have HrY := Lib.hid hrL'
  have HI := Lib.hid hI
  clear hI hO hrL hrL' HT
  have hs2 := hb2.size
  go_wp2_with fail
  refine (put_any ys (ys.length + 7) w2.heap.size (some ⟨g, 0, none⟩) x n w2 HrY.out (Nat.le_refl _) HX.out (by omega)).mono ?_
  rintro e w3 ⟨v', rfl, hO, hb3⟩
  obtain ⟨m, hm⟩ : ∃ m, m = min n.toNat 8 := ⟨_, rfl⟩
  have hm8 : m ≤ 8 := by omega
  rw [← hm] at hO
  generalize hP : ys ++ le x m = P at hO
  have hPl : P.length ≤ 208 := by rw [← hP, List.length_append, le_len]; omega
  have HP := Lib.hid hP
  clear hP
  obtain ⟨Ap, cp, rfl, hrP, _⟩ := own_rd hO
  have hs3 := hb3.size
  have HY3 := Lib.hid (HrY.out.below hb3 (Nat.le_refl _))
  have HL3 := Lib.hid (HrL.out.below hb3 (Nat.le_refl _))
  have HA3 := Lib.hid ((hr1.out.below hb2 (by omega)).below hb3 (by omega))
  have HrP := Lib.hid hrP
  have HO := Lib.hid hO
  clear hO hrP HrY HrL hr1 HR
  go_wp2_with fail
  refine (get_any ys (ys.length + 7) w2.heap.size (some ⟨g, 0, none⟩) n w3 HY3.out (by omega)).mono ?_
  rintro e w3' ⟨rfl, rfl⟩
  rw [← hm]
  go_wp2_with fail
  refine (rget_any ys c B A n w3 HA3.out).mono ?_
  rintro e w3' ⟨rfl, rfl⟩
  rw [← hm]
  go_wp2_with fail
  refine (rput_any ys c B A x n w3 HA3.out (by omega) HX.out (by omega) HHN.out).mono ?_
  rintro e w4 ⟨v4, rfl, hO4, hb4⟩
  rw [← hm, HP.out] at hO4
  obtain ⟨Aq, cq, rfl, hrQ, _⟩ := own_rd hO4
  have HP4 := Lib.hid (HrP.out.below hb4 (Nat.le_refl _))
  have HQ4 := Lib.hid hrQ
  clear hO4 hrQ
  go_wp2_with fail
  refine (equal_same _ cp cq w3.heap.size w4.heap.size Ap Aq w4 HP4.out HQ4.out).mono ?_
  rintro e w4' ⟨rfl, rfl⟩
  have HL4 := Lib.hid (HL3.out.below hb4 (by omega))
  have HA4 := Lib.hid (HA3.out.below hb4 (by omega))
  have HK := kept_any ys L (ys.length + 7) c w2.heap.size B (some ⟨g, 0, none⟩) A w4 HL4.out HA4.out hL HI.out (by omega)
  rw [hL] at HK
  have hcase := res_cases ys (min n.toNat 8)
  generalize resNum ys (min n.toNat 8) = rn
  generalize errNum ys (min n.toNat 8) = en at hcase ⊢
  have hb5 : Below w.heap.size w w4 := (hb1.trans (hb2.mono (by omega))).trans ((hb3.mono (by omega)).trans (hb4.mono (by omega)))
  have hs4 := hb4.size
  have HO4 : Hid (Own w4 w2.heap.size (.slice Ap P.length cp) P) := Lib.hid (HO.out.below hb4)
  rcases hcase with ⟨rfl, hd⟩ | ⟨rfl, hd⟩
  all_goals go_wp2_with fail
  all_goals refine HK.mono ?_
  all_goals rintro e w5 ⟨rfl, q, rfl⟩
  all_goals go_wp2_with fail
  all_goals go_loopw [74] (fun i wr => ∃ (k : Nat) (P' : List UInt8), k ≤ P.length ∧ i = .int .i64 k ∧ P'.length = P.length ∧ Hid (Own wr w2.heap.size (.slice Ap P.length cp) P') ∧ Below w2.heap.size w4 wr) (fun i _ => P.length - (intOf i).toNat)
  case atStart => exact ⟨0, P, Nat.zero_le _, rfl, rfl, HO4, below_drewN (Below.refl _ _) _⟩
  case atStart => exact ⟨0, P, Nat.zero_le _, rfl, rfl, HO4, below_drewN (Below.refl _ _) _⟩
  all_goals
    obtain ⟨k, P', hk, rfl, hP', HOr, hbr⟩ := hrel
    by_cases hlt : k < P.length
    · obtain ⟨gp, rfl, hgp⟩ := own_ad HOr.out (by omega)
      have hc1 := own_cell HOr.out hP' (j := k) (by omega)
      have hf1 := own_free HOr.out hP' k
      obtain ⟨d, hd⟩ := xor_byte (P'[k]'(by omega))
      have R1 := Lib.hid (own_set HOr.out hP' k d rfl)
      have hk' : k < P'.length := by omega
      go_wp2_with fail
      go_roundw
      case rel => exact ⟨k + 1, P'.set k d, by omega, by simp, by rw [List.length_set]; exact hP', R1, hbr.setCell hgp _⟩
      case measure => simp [intOf]; omega
    · have HKr := kept_any ys L (ys.length + 7) c w2.heap.size B (some ⟨g, 0, none⟩) A wr (HL4.out.below hbr (Nat.le_refl _)) (HA4.out.below hbr (by omega)) hL HI.out (by omega)
      rw [hL] at HKr
      go_wp2_with fail
      refine HKr.mono ?_
      rintro e w6 ⟨rfl, q2, rfl⟩
      go_wp2_with fail
      go_ret
      exact ⟨rfl, below_drewN (hb5.trans (hbr.mono (by omega))) _⟩
/-- a slice of bytes that came in, cut to at most m bytes -/
theorem bytes_cut {w : World} {A : Option Addr} {len cap : Nat} {zs : List Int} (m : Nat) (h : IsRow .u8 w A len cap zs) :
    ∃ ys : List UInt8, min len m = ys.length ∧ len ≤ cap ∧ Rd w w.heap.size A (cb ys) ∧ (A = none → ys = [] ∧ cap = 0) := by
  obtain ⟨xs, hx, hc, _, hr, hn, _⟩ := bytes_of_row h
  refine ⟨xs.take m, by rw [List.length_take, hx, Nat.min_comm], hc, by rw [← cb_take]; exact hr.take_ m, fun h0 => ?_⟩
  obtain ⟨h1, h2⟩ := hn h0
  exact ⟨by rw [List.eq_nil_of_length_eq_zero (hx.trans h1)]; simp, h2⟩
theorem walk_PackNumbers (A : Option Addr) (len cap : Nat) (zs : List Int) (x n : Int) (W : World) (h : IsRow .u8 W A len cap zs) (wx : (Lit.int .u64 x).wf = true) (_wn : (Lit.int .i64 n).wf = true) (he : EnvB W) :
    Calls Tryd.prog 10 #[.slice A len cap, .int .u64 x, .int .i64 n] W fun e w' => e = .returned (.bool true) ∧ Below W.heap.size W w' := by
  obtain ⟨ys, hl, hc, hr, hn⟩ := bytes_cut 200 h
  have hx := bounds_u64 wx
  obtain ⟨y, rfl⟩ : ∃ y : Nat, x = y := ⟨x.toNat, by omega⟩
  exact packNumbers_short ys cap W.heap.size len A y n W hr (Nat.le_refl _) hn hc hl (by omega) he
end Go.Proofs.YtdcehjdngjafoaaDoor.Fl
