/-
  The walk of PackSums.
-/
import Derived.Test.YtmlfooofgedmaaaDoorWkPackNumbers
import Derived.Deep.DeepCutAuto
import Derived.Test.YtmlfooofgedmaaaDoorInts
import Derived.Test.YtmlfooofgedmaaaDoorMath
namespace Go.Proofs.YtmlfooofgedmaaaDoor.Fl
open Go.RowKit

theorem i64_and255 (x : Int) : bits .and .i64 x 255 = x % 256 := by
  rw [and_i64, show u 255 = 2 ^ 8 - 1 from rfl, Nat.and_two_pow_sub_one_eq_mod]
  unfold wrap64 u
  omega
theorem sum_set {ys : List UInt8} {i : Nat} {d : UInt8} (h : i < ys.length) (hd : d ≠ ys[i]) : upd 0 (ys.set i d) ≠ upd 0 ys := by
  have e1 : ys.set i d = ys.take i ++ d :: ys.drop (i + 1) := by rw [List.set_eq_take_append_cons_drop, if_pos h]
  have e2 : ys = ys.take i ++ ys[i] :: ys.drop (i + 1) := by rw [← List.drop_eq_getElem_cons h, List.take_append_drop]
  rw [e1]
  intro e
  rw [e2] at e
  exact upd_other (ys.take i) (ys.drop (i + 1)) hd (by simpa [List.take_take, List.drop_append] using e)
theorem byte_w8 (o : Int) : ((UInt8.ofNat (o % 256).toNat).toNat : Int) = o % 256 := by
  rw [UInt8.toNat_ofNat']; omega
theorem to_ex {e : Int} {f n : Nat} {wx wr : World} (h1 : (f : Int) ≤ e) (h2 : e ≤ n) (hw : wx = wr) : ∃ t : Nat, Value.int .i64 e = .int .i64 (t : Int) ∧ f ≤ t ∧ t ≤ n ∧ wx = wr :=
  ⟨e.toNat, by rw [Int.toNat_of_nonneg (by omega)], by omega, by omega, hw⟩
theorem ints_at {w : World} {B : Nat} {A : Option Addr} {cs : List Int} (h : Rd w B A (cs.map (Value.int .i64))) {k : Nat} (hk : k < cs.length) :
    ∃ b off, A = some ⟨b, off, none⟩ ∧ b < B ∧ w.cell? ⟨b, off + k, none⟩ = some (.int .i64 cs[k]) := by
  obtain ⟨b, off, hA, hb, hc⟩ := h.at_ (k := k) (by rw [List.length_map]; exact hk)
  exact ⟨b, off, hA, hb, by rw [hc]; simp⟩
theorem piece_len {ys : List UInt8} {f t : Nat} (h : t ≤ ys.length) : ((ys.take t).drop f).length = t - f := by
  rw [List.length_drop, List.length_take, Nat.min_eq_left h]
theorem piece_sum {ys : List UInt8} {f t v : Nat} (h : f ≤ t) (hv : v = upd 0 (ys.take f)) : upd v ((ys.take t).drop f) = upd 0 (ys.take t) := by
  rw [hv, upd_append]
  congr 1
  rw [show ys.take f = (ys.take t).take f by rw [List.take_take, Nat.min_eq_left h], List.take_append_drop]
theorem rd_map {w : World} {B : Nat} {A : Option Addr} {ys : List UInt8} (h : Rd w B A (cb ys)) (f : Nat) : Rd w B (A.map fun x => x.add f) (cb (ys.drop f)) := by
  rcases h with h | ⟨b, off, rfl, hb, hc⟩
  · have : ys = [] := by cases ys with
      | nil => rfl
      | cons a t => simp [cb] at h
    subst this; exact .inl (by simp [cb])
  · rw [← cb_drop]
    have := Rd.drop_ (.inr ⟨b, off, rfl, hb, hc⟩ : Rd w B (some ⟨b, off, none⟩) (cb ys)) f
    have e : (⟨b, off, none⟩ : Addr).add f = ⟨b, off + f, none⟩ := by unfold Addr.add; split <;> simp_all
    rw [Option.map_some, e]; exact this
theorem value_q (g v : Nat) (w : World) (hc : w.cell? ⟨g, 0, none⟩ = some (.int .u32 (v : Int))) :
    Calls Tryd.prog 11 #[.pointer (some ⟨g, 0, none⟩)] w fun e w' => e = .returned (.int .u32 (v : Int)) ∧ w' = w := (sum_value g v w hc).mono fun _ _ ⟨h1, h2⟩ => ⟨h1, h2.symm⟩
theorem rcrc_q (xs : List UInt8) (c B : Nat) (A : Option Addr) (w : World) (hr : Rd w B A (cb xs)) (hn : xs.length ≤ 4096) :
    Calls Tryd.prog 12 #[.slice A xs.length c] w fun e w' => e = .returned (.int .u32 (upd 0 xs : Nat)) ∧ w' = w := (rcrc_any xs c B A w hr hn).mono fun _ _ ⟨h1, h2⟩ => ⟨h1, h2.symm⟩
attribute [local irreducible] crcBit crcBits crcByte crcAll compl upd
set_option maxHeartbeats 4000000 in
set_option maxRecDepth 100000 in
theorem packSums_short (ys : List UInt8) (cs : List Int) (o0 o1 : Int) (c c2 l : Nat) (A A2 : Option Addr) (w : World) (hr : Rd w w.heap.size A (cb ys)) (hr2 : Rd w w.heap.size A2 (cs.map (Value.int .i64))) (hn : A = none → ys = [] ∧ c = 0)
    (hcs : ∀ x ∈ cs, (Lit.int .i64 x).wf = true) (hlc : l ≤ c) (hl : min l 600 = ys.length) (wo0 : (Lit.int .i64 o0).wf = true) (wo1 : (Lit.int .i64 o1).wf = true) (he : EnvB w) :
    Calls Tryd.prog 3 #[.slice A l c, .slice A2 cs.length c2, .agg #[.int .i64 o0, .int .i64 o1]] w fun e w' => e = .returned (.bool true) ∧ Below w.heap.size w w' := by
  have hyl : ys.length ≤ 600 := by omega
  have hS := fun w' => short_any l c A 600 w' hlc (by omega)
  rw [hl] at hS
  have hyc : ys.length ≤ c := by omega
  have HR := Lib.hid hr
  have HR2 := Lib.hid hr2
  have HHN := Lib.hid hn
  have HCS := Lib.hid hcs
  clear hr hr2 hn hl hlc hcs
  go_enter Tryd.func3, Tryd.ntmps3
  go_wp2_with fail
  refine (awakeP_any _ (he.below ((Below.refl _ _).alloc (Nat.le_refl _) _))).mono ?_
  rintro e w1 ⟨rfl, hb1⟩
  go_wp2_with fail
  refine (hS w1).mono ?_
  rintro e w1' ⟨rfl, rfl⟩
  clear hS
  go_wp2_with fail
  have hb1' : Below w.heap.size w w1 := ((Below.refl _ _).alloc (Nat.le_refl _) _).trans (hb1.mono (by simp))
  have HR1 := Lib.hid (HR.out.below hb1' (Nat.le_refl _))
  have HR21 := Lib.hid (HR2.out.below hb1' (Nat.le_refl _))
  have hs1 := hb1'.size
  have hlt1 : w.heap.size < w1.heap.size := by have := hb1.size; simp at this; omega
  have HB0 := Lib.hid (show ∀ j (v : Value), #[Value.int .i64 o0, .int .i64 o1][j]? = some v → w1.cell? ⟨w.heap.size, j, none⟩ = some v from fun j v hj => by
    rw [hb1.cell (p := ⟨w.heap.size, j, none⟩) (by simp), cell_of_row _ _ _ _ _ _ (heap_alloc_new w _)]; exact hj)
  clear hb1 HR HR2
  obtain ⟨G, hG⟩ : ∃ G, w1.heap.size = G := ⟨_, rfl⟩
  rw [hG]
  have HG := Lib.hid hG
  clear hG
  go_loopw [8, 9] (fun fv iv wr => ∃ k f v : Nat, fv = .int .i64 f ∧ iv = .int .i64 k ∧ f ≤ ys.length ∧ k ≤ 12 ∧ Hid (v = upd 0 (ys.take f) ∧ v < 4294967296) ∧ wr.cell? ⟨G, 0, none⟩ = some (.int .u32 (v : Int)) ∧ wr.frozen? ⟨G, 0, none⟩ = false ∧ G < wr.heap.size ∧ Below G w1 wr) (fun _ iv _ => 12 - (intOf iv).toNat)
  case atStart =>
    have hG := HG.out
    have hal : (w1.alloc (.cells #[Value.int .u32 0] 29)).heap[G]? = some (.cells #[Value.int .u32 0] 29 (0, 0)) := by rw [← hG]; exact heap_alloc_new w1 _
    exact ⟨0, 0, 0, rfl, rfl, Nat.zero_le _, by omega, Lib.hid ⟨by rw [List.take_zero, upd_nil (by omega)], by omega⟩, by rw [cell_of_row _ _ _ _ _ _ hal]; rfl, frozen_of_row _ _ _ _ _ hal, by rw [← hG]; simp, (Below.refl _ _).alloc (by rw [← hG]; exact Nat.le_refl _) _⟩
  case round =>
    obtain ⟨k, f, v, rfl, rfl, hf, hk, HV, hcell, hfr, hGs, hbl⟩ := hrel
    have hs2 := hbl.size
    by_cases hgo : k < 12 ∧ f < ys.length
    · obtain ⟨hk12, hfl⟩ := hgo
      go_upto_if 31 with (fail)
      go_cut [10] (fun tv wx => ∃ t : Nat, tv = .int .i64 (t : Int) ∧ f ≤ t ∧ t ≤ ys.length ∧ wx = wr)
      case first =>
        by_cases hck : k < cs.length
        · obtain ⟨b2, off2, rfl, _, hc2⟩ := ints_at (HR21.out.below hbl (by have := HG.out; omega)) hck
          have hwf := bounds_i64 (HCS.out _ (List.getElem_mem hck))
          generalize cs[k] = z at hc2 hwf
          go_wp2_with fail
          all_goals go_meet
          all_goals refine to_ex ?_ ?_ rfl
          all_goals omega
        · go_wp2_with fail
          all_goals go_meet
          all_goals refine to_ex ?_ ?_ rfl
          all_goals omega
      case rest =>
        obtain ⟨t, rfl, hft, htl, rfl⟩ := hcut
        have hrd := HR1.out.below hbl (by have := HG.out; omega)
        obtain ⟨b, off, rfl, _, _⟩ := rdb_at hrd hfl
        have hBG : w.heap.size ≤ wc.heap.size := by have := HG.out; omega
        have hcp := copy_any ((ys.take t).drop f) (c - f) w.heap.size (some ⟨b, off + f, none⟩) wc (by rw [← cb_drop, ← cb_take]; exact (hrd.take_ t).drop_ f) hBG (by rw [piece_len htl]; omega) (fun h => by cases h)
        rw [piece_len htl] at hcp
        have HPL := Lib.hid (piece_len (f := f) htl)
        have HPS := Lib.hid (piece_sum hft HV.out.1)
        have HUL := Lib.hid (upd_lt v ((ys.take t).drop f))
        generalize (ys.take t).drop f = P at hcp HPL HPS HUL
        obtain ⟨u, hu⟩ : ∃ u, upd v P = u := ⟨_, rfl⟩
        rw [hu] at HPS HUL
        have HU := Lib.hid hu
        clear hu
        go_wp2_with fail
        refine hcp.mono ?_
        rintro e w2 ⟨v2, rfl, hO2, hb2⟩
        obtain ⟨A3, c3, rfl, hr3, _⟩ := own_rd hO2
        have HR3 := Lib.hid hr3
        have hcell2 := (hb2.cell (p := ⟨G, 0, none⟩) hGs).trans hcell
        have hfr2 := (hb2.frozen (p := ⟨G, 0, none⟩) hGs).trans hfr
        clear hr3 hO2
        go_wp2_with fail
        refine (sum_add P c3 w2.heap.size G v A3 w2 HR3.out (by rw [HPL.out]; omega) HV.out.2 hcell2 hfr2).mono ?_
        rintro e w3' ⟨rfl, rfl⟩
        rw [HU.out]
        have hb3 : Below G w2 (w2.setCell ⟨G, 0, none⟩ (.int .u32 (u : Int))) := (Below.refl G w2).setCell (Nat.le_refl _) _
        have hcell3 : (w2.setCell ⟨G, 0, none⟩ (.int .u32 (u : Int))).cell? ⟨G, 0, none⟩ = some (.int .u32 (u : Int)) := World.cell?_setCell_same _ _ _ hcell2
        have hfr3 : (w2.setCell ⟨G, 0, none⟩ (.int .u32 (u : Int))).frozen? ⟨G, 0, none⟩ = false := (World.frozen?_setCell _ _ _ _).trans hfr2
        generalize w2.setCell ⟨G, 0, none⟩ (.int .u32 (u : Int)) = w3 at hb3 hcell3 hfr3
        have hs3 := hb3.size
        have hs22 := hb2.size
        have hrd3 := (hrd.below hb2 hBG).below hb3 (by have := HG.out; omega)
        have hcr := fun n => rcrc_q (ys.take t) c w.heap.size (some ⟨b, off, none⟩) (w3.drewN n) (by rw [← cb_take]; exact (hrd3.below (below_drewN (Below.refl _ _) n) (Nat.le_refl _)).take_ t) (by rw [List.length_take]; omega)
        rw [List.length_take, Nat.min_eq_left htl, ← HPS.out] at hcr
        have hvl := fun n => value_q G u (w3.drewN n) hcell3
        go_wp2_with fail
        go_quiet (first
          | (go_at_call 11; exact Calls.quiet_of_same (hvl _))
          | (go_at_call 12; exact Calls.quiet_of_same (hcr _)))
        have HVN := Lib.hid (And.intro HPS.out HUL.out)
        have hG3 : G < w3.heap.size := by omega
        have hb13 : Below G w1 w3 := hbl.trans ((hb2.mono (by omega)).trans hb3)
        clear hcr hvl hb3 hb2 hrd3 hrd hbl hcell hfr HU HPS HUL HPL HR3
        go_wp2_with fail
        go_roundw
        case rel => exact ⟨k + 1, t, u, rfl, by simp, htl, by omega, HVN, hcell3, hfr3, hG3, below_drewN hb13 _⟩
        case measure => simp [intOf]; omega
    · have hb2 : Below w.heap.size w wr := hb1'.trans (hbl.mono (by have := HG.out; omega))
      have hrd := HR1.out.below hbl (by have := HG.out; omega)
      have hsum : upd v (ys.drop f) = upd 0 ys := by
        have := piece_sum (t := ys.length) hf HV.out.1
        rwa [List.take_length] at this
      obtain ⟨U, hU⟩ : ∃ U, upd 0 ys = U := ⟨_, rfl⟩
      have HUE := Lib.hid hU
      rw [hU] at hsum
      clear hU
      have HADD : ∀ (A' : Option Addr) (n c' : Nat), Rd wr w.heap.size A' (cb (ys.drop f)) → ys.length - f = n → Calls Tryd.prog 9 #[.pointer (some ⟨G, 0, none⟩), .slice A' n c'] wr (fun e w' => e = .returned (.tuple #[]) ∧ w'.cell? ⟨G, 0, none⟩ = some (.int .u32 (U : Int)) ∧ Below G wr w') := fun A' n c' hz he' => by
        have h := sum_add (ys.drop f) c' w.heap.size G v A' wr hz (by rw [List.length_drop]; omega) HV.out.2 hcell hfr
        rw [List.length_drop, he', hsum] at h
        exact h.mono fun e w' ⟨h1, h2⟩ => ⟨h1, by rw [← h2]; exact World.cell?_setCell_same _ _ _ hcell, by rw [← h2]; exact (Below.refl G wr).setCell (Nat.le_refl _) _⟩
      have HRM := Lib.hid (rd_map hrd f)
      have HRD := Lib.hid hrd
      have HADD' := Lib.hid HADD
      have HRN := Lib.hid (show ys.length ≤ f → Rd wr w.heap.size A (cb (ys.drop f)) from fun h => by rw [List.drop_of_length_le h]; exact Rd.nil _ _ _)
      clear HADD hsum hrd hcell hfr HR1 HR21
      by_cases hk12 : k < 12
      · obtain rfl : f = ys.length := by omega
        go_wp2_with fail
        all_goals first
          | (with_reducible refine (HADD'.out A 0 0 (HRN.out (by omega)) (by omega)).mono ?_)
          | (with_reducible refine (HADD'.out _ 0 _ HRM.out (by omega)).mono ?_)
        all_goals rintro e w4 ⟨rfl, hc4, hb4⟩
        all_goals have hs4 := hb4.size
        all_goals have hr4 := HRD.out.below hb4 (by have := HG.out; omega)
        all_goals go_wp2_with fail
        all_goals refine (sum_value G U w4 hc4).mono ?_
        all_goals rintro e w4' ⟨rfl, rfl⟩
        all_goals go_wp2_with fail
        all_goals refine (crc_any ys _ A w4 (hr4.more (by have := HG.out; omega)) (by omega)).mono ?_
        all_goals rintro e w5 ⟨rfl, hb5⟩
        all_goals rw [HUE.out]
        all_goals have hs5 := hb5.size
        all_goals have hr5 := hr4.below hb5 (by have := HG.out; omega)
        all_goals go_wp2_with fail
        all_goals refine (crc_any ys _ A w5 (hr5.more (by have := HG.out; omega)) (by omega)).mono ?_
        all_goals rintro e w6 ⟨rfl, hb6⟩
        all_goals rw [HUE.out]
        all_goals have hs6 := hb6.size
        all_goals have hr6 := hr5.below hb6 (by have := HG.out; omega)
        all_goals go_wp2_with fail
        all_goals refine (rcrc_any ys _ w.heap.size A w6 hr6 (by omega)).mono ?_
        all_goals rintro e w6' ⟨rfl, rfl⟩
        all_goals rw [HUE.out]
        all_goals have hb16 : Below G w1 w6 := hbl.trans (hb4.trans ((hb5.mono (by omega)).trans (hb6.mono (by omega))))
        all_goals go_wp2_with fail
        all_goals have hgs : w.heap.size < G := by have := HG.out; omega
        all_goals have m0 : w6.cell? ⟨w.heap.size, 0, none⟩ = some (.int .i64 o0) := (hb16.cell (p := ⟨w.heap.size, 0, none⟩) hgs).trans (HB0.out 0 _ rfl)
        all_goals have m1 : w6.cell? ⟨w.heap.size, 1, none⟩ = some (.int .i64 o1) := (hb16.cell (p := ⟨w.heap.size, 1, none⟩) hgs).trans (HB0.out 1 _ rfl)
        all_goals have hand := i64_and255 o1
        all_goals have n0 := bounds_i64 wo0
        all_goals have n1 := bounds_i64 wo1
        all_goals have hb6w : Below w.heap.size w w6 := hb1'.trans (hb16.mono (by omega))
        all_goals by_cases c1 : o0 < 0
        all_goals try (
          have d1 : decide (o0 < 0) = true := decide_eq_true c1
          go_quiet (fail)
          go_wp2_with fail
          go_ret
          exact ⟨rfl, below_drewN hb6w _⟩)
        all_goals by_cases c3 : (ys.length : Int) ≤ o0
        all_goals try (
          have d1 : decide (o0 < 0) = false := decide_eq_false c1
          have d2 : decide ((ys.length : Int) ≤ o0) = true := decide_eq_true c3
          go_quiet (fail)
          go_wp2_with fail
          go_ret
          exact ⟨rfl, below_drewN hb6w _⟩)
        all_goals
          obtain ⟨i, rfl⟩ : ∃ i : Nat, o0 = i := ⟨o0.toNat, by omega⟩
          have hil : i < ys.length := by omega
          obtain ⟨b, off, rfl, hbB, hci⟩ := rdb_at hr6 hil
          have d1 : decide ((i : Int) < 0) = false := decide_eq_false c1
          have d2 : decide ((ys.length : Int) ≤ (i : Int)) = false := decide_eq_false c3
          have d2' : decide (ys.length ≤ i) = false := decide_eq_false (by omega)
          have hby : (ys[i].toNat : Int) ≤ 255 := by have := UInt8.toNat_lt ys[i]; omega
          by_cases heq : (ys[i].toNat : Int) = o1 % 256
          · have d3 : ((ys[i].toNat : Int) == o1 % 256) = true := by simp [heq]
            go_quiet (fail)
            go_wp2_with fail
            go_ret
            exact ⟨rfl, below_drewN hb6w _⟩
          · have d3 : ((ys[i].toNat : Int) == o1 % 256) = false := by simp [heq]
            have hd : UInt8.ofNat (o1 % 256).toNat ≠ ys[i] := fun e => heq (by rw [← e, byte_w8])
            have HSS := Lib.hid (sum_set hil hd)
            have HBW := Lib.hid (byte_w8 o1)
            generalize UInt8.ofNat (o1 % 256).toNat = d at HSS HBW
            clear hd heq
            go_quiet (fail)
            go_wp2_with fail
            have hr6q := hr6.below (below_drewN (Below.refl _ _) nq) (Nat.le_refl _)
            refine (copy_any ys _ w.heap.size (some ⟨b, off, none⟩) (w6.drewN nq) hr6q (by show w.heap.size ≤ w6.heap.size; omega) (by omega) (fun h => by cases h)).mono ?_
            rintro e w7 ⟨v7, rfl, hO7, hb7⟩
            have hb7' : Below w6.heap.size (w6.drewN nq) w7 := hb7
            have hs7 : w6.heap.size ≤ w7.heap.size := hb7'.size
            obtain ⟨A7, c7, rfl, _, _⟩ := own_rd hO7
            obtain ⟨g7, rfl, hg7⟩ := own_ad hO7 (by omega)
            have hg7' : w6.heap.size ≤ g7 := hg7
            have m07 := (hb7'.cell (p := ⟨w.heap.size, 0, none⟩) (by show w.heap.size < w6.heap.size; omega)).trans m0
            have m17 := (hb7'.cell (p := ⟨w.heap.size, 1, none⟩) (by show w.heap.size < w6.heap.size; omega)).trans m1
            have hc7 := own_cell hO7 rfl hil
            have hf7 := own_free hO7 rfl i
            have R1 := own_set hO7 rfl i d HBW.out.symm
            have hr7 := hr6q.below hb7' (by show w.heap.size ≤ w6.heap.size; omega)
            have hb8 : Below w6.heap.size w7 (w7.setCell ⟨g7, i, none⟩ (.int .u8 (o1 % 256))) := (Below.refl _ _).setCell hg7' _
            clear hO7 m0 m1 hci
            go_wp2_with fail
            obtain ⟨w8, hw8⟩ : ∃ w8, w7.setCell ⟨g7, i, none⟩ (.int .u8 (o1 % 256)) = w8 := ⟨_, rfl⟩
            rw [hw8] at R1 hb8 ⊢
            clear hw8
            obtain ⟨A8, c8, e8, hr8, _⟩ := own_rd R1
            injection e8 with e8 e7 e9
            clear e7
            subst e8
            subst e9
            have hcx := crc_any (ys.set i d) c7 (some ⟨g7, 0, none⟩) w8 hr8 (by rw [List.length_set]; omega)
            have HVU := HSS.out
            rw [HUE.out] at HVU
            rw [List.length_set] at hcx
            generalize upd 0 (ys.set i d) = V at hcx HVU
            have HNE := Lib.hid (show ((V : Int) != (U : Int)) = true by simp; omega)
            have hs8 := hb8.size
            have hr9 := hr7.below hb8 (by omega)
            clear HSS HVU R1 hr8
            refine hcx.mono ?_
            rintro e w9 ⟨rfl, hb9⟩
            have hs9 := hb9.size
            have HR10 := Lib.hid ((hr9.below hb9 (by omega)).more (B' := w9.heap.size) (by omega))
            have HB7w := Lib.hid ((below_drewN hb6w nq).trans ((hb7'.mono (by omega)).trans ((hb8.mono (by omega)).trans (hb9.mono (by omega)))))
            have hsw : w.heap.size ≤ w9.heap.size := by omega
            clear hcx hr9 hb9 hb8 hb7' hr7 hr6q hr6 hb6w hb16 m07 m17 hand n0 n1 hc7 hf7 hg7 hg7' d1 d2 d2' hby hs8 hs9 hs7 hs6 hs5 hs4 c1 c3 d3
            go_wp2_with fail
            refine (crc_any ys _ (some ⟨b, off, none⟩) w9 HR10.out (by omega)).mono ?_
            rintro e w10 ⟨rfl, hb10⟩
            rw [HUE.out]
            have HBQ := Lib.hid (HB7w.out.trans (hb10.mono hsw))
            clear hb10
            go_wp2_with fail
            go_ret
            exact ⟨ret_bool HNE.out, HBQ.out⟩
      · go_wp2_with fail
        all_goals first
          | (with_reducible refine (HADD'.out A _ 0 (HRN.out (by omega)) rfl).mono ?_)
          | (with_reducible refine (HADD'.out _ _ _ HRM.out rfl).mono ?_)
        all_goals rintro e w4 ⟨rfl, hc4, hb4⟩
        all_goals have hs4 := hb4.size
        all_goals have hr4 := HRD.out.below hb4 (by have := HG.out; omega)
        all_goals go_wp2_with fail
        all_goals refine (sum_value G U w4 hc4).mono ?_
        all_goals rintro e w4' ⟨rfl, rfl⟩
        all_goals go_wp2_with fail
        all_goals refine (crc_any ys _ A w4 (hr4.more (by have := HG.out; omega)) (by omega)).mono ?_
        all_goals rintro e w5 ⟨rfl, hb5⟩
        all_goals rw [HUE.out]
        all_goals have hs5 := hb5.size
        all_goals have hr5 := hr4.below hb5 (by have := HG.out; omega)
        all_goals go_wp2_with fail
        all_goals refine (crc_any ys _ A w5 (hr5.more (by have := HG.out; omega)) (by omega)).mono ?_
        all_goals rintro e w6 ⟨rfl, hb6⟩
        all_goals rw [HUE.out]
        all_goals have hs6 := hb6.size
        all_goals have hr6 := hr5.below hb6 (by have := HG.out; omega)
        all_goals go_wp2_with fail
        all_goals refine (rcrc_any ys _ w.heap.size A w6 hr6 (by omega)).mono ?_
        all_goals rintro e w6' ⟨rfl, rfl⟩
        all_goals rw [HUE.out]
        all_goals have hb16 : Below G w1 w6 := hbl.trans (hb4.trans ((hb5.mono (by omega)).trans (hb6.mono (by omega))))
        all_goals go_wp2_with fail
        all_goals have hgs : w.heap.size < G := by have := HG.out; omega
        all_goals have m0 : w6.cell? ⟨w.heap.size, 0, none⟩ = some (.int .i64 o0) := (hb16.cell (p := ⟨w.heap.size, 0, none⟩) hgs).trans (HB0.out 0 _ rfl)
        all_goals have m1 : w6.cell? ⟨w.heap.size, 1, none⟩ = some (.int .i64 o1) := (hb16.cell (p := ⟨w.heap.size, 1, none⟩) hgs).trans (HB0.out 1 _ rfl)
        all_goals have hand := i64_and255 o1
        all_goals have n0 := bounds_i64 wo0
        all_goals have n1 := bounds_i64 wo1
        all_goals have hb6w : Below w.heap.size w w6 := hb1'.trans (hb16.mono (by omega))
        all_goals by_cases c1 : o0 < 0
        all_goals try (
          have d1 : decide (o0 < 0) = true := decide_eq_true c1
          go_quiet (fail)
          go_wp2_with fail
          go_ret
          exact ⟨rfl, below_drewN hb6w _⟩)
        all_goals by_cases c3 : (ys.length : Int) ≤ o0
        all_goals try (
          have d1 : decide (o0 < 0) = false := decide_eq_false c1
          have d2 : decide ((ys.length : Int) ≤ o0) = true := decide_eq_true c3
          go_quiet (fail)
          go_wp2_with fail
          go_ret
          exact ⟨rfl, below_drewN hb6w _⟩)
        all_goals
          obtain ⟨i, rfl⟩ : ∃ i : Nat, o0 = i := ⟨o0.toNat, by omega⟩
          have hil : i < ys.length := by omega
          obtain ⟨b, off, rfl, hbB, hci⟩ := rdb_at hr6 hil
          have d1 : decide ((i : Int) < 0) = false := decide_eq_false c1
          have d2 : decide ((ys.length : Int) ≤ (i : Int)) = false := decide_eq_false c3
          have d2' : decide (ys.length ≤ i) = false := decide_eq_false (by omega)
          have hby : (ys[i].toNat : Int) ≤ 255 := by have := UInt8.toNat_lt ys[i]; omega
          by_cases heq : (ys[i].toNat : Int) = o1 % 256
          · have d3 : ((ys[i].toNat : Int) == o1 % 256) = true := by simp [heq]
            go_quiet (fail)
            go_wp2_with fail
            go_ret
            exact ⟨rfl, below_drewN hb6w _⟩
          · have d3 : ((ys[i].toNat : Int) == o1 % 256) = false := by simp [heq]
            have hd : UInt8.ofNat (o1 % 256).toNat ≠ ys[i] := fun e => heq (by rw [← e, byte_w8])
            have HSS := Lib.hid (sum_set hil hd)
            have HBW := Lib.hid (byte_w8 o1)
            generalize UInt8.ofNat (o1 % 256).toNat = d at HSS HBW
            clear hd heq
            go_quiet (fail)
            go_wp2_with fail
            have hr6q := hr6.below (below_drewN (Below.refl _ _) nq) (Nat.le_refl _)
            refine (copy_any ys _ w.heap.size (some ⟨b, off, none⟩) (w6.drewN nq) hr6q (by show w.heap.size ≤ w6.heap.size; omega) (by omega) (fun h => by cases h)).mono ?_
            rintro e w7 ⟨v7, rfl, hO7, hb7⟩
            have hb7' : Below w6.heap.size (w6.drewN nq) w7 := hb7
            have hs7 : w6.heap.size ≤ w7.heap.size := hb7'.size
            obtain ⟨A7, c7, rfl, _, _⟩ := own_rd hO7
            obtain ⟨g7, rfl, hg7⟩ := own_ad hO7 (by omega)
            have hg7' : w6.heap.size ≤ g7 := hg7
            have m07 := (hb7'.cell (p := ⟨w.heap.size, 0, none⟩) (by show w.heap.size < w6.heap.size; omega)).trans m0
            have m17 := (hb7'.cell (p := ⟨w.heap.size, 1, none⟩) (by show w.heap.size < w6.heap.size; omega)).trans m1
            have hc7 := own_cell hO7 rfl hil
            have hf7 := own_free hO7 rfl i
            have R1 := own_set hO7 rfl i d HBW.out.symm
            have hr7 := hr6q.below hb7' (by show w.heap.size ≤ w6.heap.size; omega)
            have hb8 : Below w6.heap.size w7 (w7.setCell ⟨g7, i, none⟩ (.int .u8 (o1 % 256))) := (Below.refl _ _).setCell hg7' _
            clear hO7 m0 m1 hci
            go_wp2_with fail
            obtain ⟨w8, hw8⟩ : ∃ w8, w7.setCell ⟨g7, i, none⟩ (.int .u8 (o1 % 256)) = w8 := ⟨_, rfl⟩
            rw [hw8] at R1 hb8 ⊢
            clear hw8
            obtain ⟨A8, c8, e8, hr8, _⟩ := own_rd R1
            injection e8 with e8 e7 e9
            clear e7
            subst e8
            subst e9
            have hcx := crc_any (ys.set i d) c7 (some ⟨g7, 0, none⟩) w8 hr8 (by rw [List.length_set]; omega)
            have HVU := HSS.out
            rw [HUE.out] at HVU
            rw [List.length_set] at hcx
            generalize upd 0 (ys.set i d) = V at hcx HVU
            have HNE := Lib.hid (show ((V : Int) != (U : Int)) = true by simp; omega)
            have hs8 := hb8.size
            have hr9 := hr7.below hb8 (by omega)
            clear HSS HVU R1 hr8
            refine hcx.mono ?_
            rintro e w9 ⟨rfl, hb9⟩
            have hs9 := hb9.size
            have HR10 := Lib.hid ((hr9.below hb9 (by omega)).more (B' := w9.heap.size) (by omega))
            have HB7w := Lib.hid ((below_drewN hb6w nq).trans ((hb7'.mono (by omega)).trans ((hb8.mono (by omega)).trans (hb9.mono (by omega)))))
            have hsw : w.heap.size ≤ w9.heap.size := by omega
            clear hcx hr9 hb9 hb8 hb7' hr7 hr6q hr6 hb6w hb16 m07 m17 hand n0 n1 hc7 hf7 hg7 hg7' d1 d2 d2' hby hs8 hs9 hs7 hs6 hs5 hs4 c1 c3 d3
            go_wp2_with fail
            refine (crc_any ys _ (some ⟨b, off, none⟩) w9 HR10.out (by omega)).mono ?_
            rintro e w10 ⟨rfl, hb10⟩
            rw [HUE.out]
            have HBQ := Lib.hid (HB7w.out.trans (hb10.mono hsw))
            clear hb10
            go_wp2_with fail
            go_ret
            exact ⟨ret_bool HNE.out, HBQ.out⟩
theorem walk_PackSums (A : Option Addr) (len cap : Nat) (zs : List Int) (A2 : Option Addr) (len2 cap2 : Nat) (zs2 : List Int) (o0 o1 : Int) (W : World) (h : IsRow .u8 W A len cap zs) (h2 : IsRow .i64 W A2 len2 cap2 zs2)
    (wo0 : (Lit.int .i64 o0).wf = true) (wo1 : (Lit.int .i64 o1).wf = true) (he : EnvB W) :
    Calls Tryd.prog 3 #[.slice A len cap, .slice A2 len2 cap2, .agg #[.int .i64 o0, .int .i64 o1]] W fun e w' => e = .returned (.bool true) ∧ Below W.heap.size W w' := by
  obtain ⟨ys, hl, hc, hr, hn⟩ := bytes_cut 600 h
  obtain ⟨cs, rfl, hc2, _, hr2, hn2, hw⟩ := ints_row h2
  exact packSums_short ys cs o0 o1 cap cap2 len A A2 W hr hr2 hn hw hc hl wo0 wo1 he
end Go.Proofs.YtmlfooofgedmaaaDoor.Fl
