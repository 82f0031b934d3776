/-
  The walk of PackSets.
-/
import Derived.Test.YtmlfooofgedmaaaDoorBools
import Derived.Test.YtmlfooofgedmaaaDoorAwP
import Derived.Test.YtmlfooofgedmaaaDoorInts
namespace Go.Proofs.YtmlfooofgedmaaaDoor.Fl
open Go.RowKit

attribute [local irreducible] cnt bitAt flip inl
def SetRel (cs : List Int) (W : World) (N g g2 G : Nat) (v7 v8 : Value) (wr : World) : Prop := ∃ (k : Nat) (ws : List Nat), v8 = .int .i64 (k : Int) ∧ k ≤ cs.length ∧ k ≤ 60 ∧ BitsAt wr g g2 N ws ∧ LAt wr G (inl ws N) ∧ v7 = .int .i64 ((cnt (bitAt ws) N : Nat) : Int) ∧ Below W.heap.size W wr
def nm (N : Nat) (v : Value) : Nat := if intOf v < 0 then 0 else N + 1 - (intOf v).toNat
theorem nm_lt {N i : Nat} {r : Int} (hi : i < N) (h : r = -1 ∨ (i : Int) + 1 ≤ r ∧ r < N) : nm N (.int .i64 r) < nm N (.int .i64 (i : Int)) := by
  have e : ∀ z : Int, nm N (.int .i64 z) = if z < 0 then 0 else N + 1 - z.toNat := fun _ => rfl
  rw [e, e, if_neg (by omega : ¬ (i : Int) < 0)]
  rcases h with h | ⟨h1, h2⟩
  · rw [if_pos (by omega)]; omega
  · rw [if_neg (by omega)]; omega
theorem ext60 {a b : Nat} (h : ¬ (a < b ∧ a < 60)) (h1 : a ≤ b) (h2 : a ≤ 60) : a = b ∨ a = 60 := by omega
set_option maxHeartbeats 8000000 in
set_option maxRecDepth 100000 in
theorem sets_any (n : Int) (cs : List Int) (c : Nat) (A : Option Addr) (w : World) (hr : Rd w w.heap.size A (cs.map (Value.int .i64))) (hw : ∀ z ∈ cs, (Lit.int .i64 z).wf = true) (hcm : cs.length ≤ maxLen) (he : EnvB w) :
    Calls Tryd.prog 5 #[.int .i64 n, .slice A cs.length c] w fun e w' => e = .returned (.bool true) ∧ Below w.heap.size w w' := by
  unfold maxLen at hcm
  have HR := Lib.hid hr
  have HW := Lib.hid hw
  clear hr hw
  obtain ⟨N, hN⟩ : ∃ N : Nat, max 0 (min n 500) = (N : Int) := ⟨(max 0 (min n 500)).toNat, by omega⟩
  have hN5 : N ≤ 500 := by omega
  have HN := Lib.hid hN
  clear hN
  have hmk := fun w' => make_bools N (by omega) w'
  go_enter Tryd.func5, Tryd.ntmps5
  go_wp2_with fail
  refine (awakeP_any _ he).mono ?_
  rintro e w1 ⟨rfl, hb1⟩
  go_upto_region 3 with (fail)
  go_cut [0] (fun v wx => v = .int .i64 (N : Int) ∧ w1 = wx)
  case first =>
    go_wp2_with fail
    all_goals go_meet
    all_goals exact ⟨vInt (by have := HN.out; omega), rfl⟩
  case rest =>
    obtain ⟨rfl, rfl⟩ := hcut
    go_wp2_with fail
    refine (newBits_nat N (by omega) w1).mono ?_
    rintro e w2 ⟨g, g2, rfl, hg, hg2, hB, hb2⟩
    have HB := Lib.hid hB
    clear hB
    go_wp2_with fail
    obtain ⟨G, hG⟩ : ∃ G, w2.heap.size = G := ⟨_, rfl⟩
    have hs2 := hb2.size
    have hs1 := hb1.size
    have hLA : LAt (w2.alloc (.cells (bl (List.replicate N false)).toArray 4)) G (inl (List.replicate ((N + 63) / 64) 0) N) := by
      rw [inl_zero, ← hG]; exact heap_alloc_new w2 _
    have hBA : BitsAt (w2.alloc (.cells (bl (List.replicate N false)).toArray 4)) g g2 N (List.replicate ((N + 63) / 64) 0) := HB.out.below ((Below.refl w2.heap.size w2).alloc (Nat.le_refl _) _) HB.out.gl HB.out.gl2
    have hbA : Below w.heap.size w (w2.alloc (.cells (bl (List.replicate N false)).toArray 4)) := (hb1.trans (hb2.mono (by omega))).alloc (by omega) _
    have hGg : g ≠ G ∧ g2 ≠ G := by have := HB.out.gl; have := HB.out.gl2; omega
    have hwg2 : w.heap.size ≤ g2 := by omega
    have hwG : w.heap.size ≤ G := by omega
    have hwg : w.heap.size ≤ g := by omega
    rw [hG]
    have HLA := Lib.hid hLA
    have HBA := Lib.hid hBA
    clear hLA hBA HB hb1 hb2 hG hmk
    generalize w2.alloc (.cells (bl (List.replicate N false)).toArray 4) = w3 at *
    go_loopw [7, 8] (fun v7 v8 wr => SetRel cs w N g g2 G v7 v8 wr) (fun _ v8 _ => 60 - (intOf v8).toNat)
    case atStart => exact ⟨0, _, rfl, Nat.zero_le _, by omega, HBA.out, HLA.out, vInt (by rw [cnt_zero_iff.2 (fun j _ => bitAt_zero _ j)]; rfl), hbA⟩
    case round =>
      obtain ⟨k, ws, rfl, hk, hk60, hB, hL, rfl, hbl⟩ := hrel
      have HL := Lib.hid hL
      have hLl : (inl ws N).length = N := inl_len ws N
      have HC := Lib.hid (cnt_le (bitAt ws) N)
      by_cases hlt : k < cs.length ∧ k < 60
      · obtain ⟨hl1, hl2⟩ := hlt
        have hzb := bounds_i64 (HW.out _ (List.getElem_mem hl1))
        obtain ⟨b, off, rfl, hbB, hc1⟩ := HR.out.at_ (k := k) (by rw [List.length_map]; exact hl1)
        have hc2 : wr.cell? ⟨b, off + k, none⟩ = some (.int .i64 cs[k]) := by rw [hbl.cell (p := ⟨b, off + k, none⟩) hbB, hc1]; simp
        clear hc1
        generalize cs[k] = z at hzb hc2
        obtain ⟨z0, z1⟩ := hzb
        by_cases hz : 0 ≤ z ∧ z < (N : Int)
        · obtain ⟨i, rfl⟩ : ∃ i : Nat, z = i := ⟨z.toNat, by omega⟩
          have hiN : i < N := by omega
          have hix := hB.idx hiN
          have hcl := HL.out.cell (k := i) (by omega)
          have hfr := HL.out.free i
          rw [inl_at ws hiN] at hcl
          clear hz
          cases hbi : bitAt ws i with
          | true =>
            rw [hbi] at hcl
            have hst := set_same g g2 N i true ws wr hB hiN hbi
            have HST := Lib.hid hst
            clear hst hbi
            go_wp2_with fail
            refine HST.out.mono ?_
            rintro e w4 ⟨rfl, hB4, hb4, _, hk4⟩
            have HB4 := Lib.hid hB4
            have hbl4 := hbl.trans (hb4 w.heap.size hwg2)
            have HL4 := Lib.hid (HL.out.at_ (hk4 G (fun e => hGg.2 e.symm)))
            clear hB4 hb4 hk4 hbl HL hB
            go_wp2_with fail
            go_roundw
            case rel => exact ⟨k + 1, ws, by simp, by omega, by omega, HB4.out, HL4.out, rfl, hbl4⟩
            case measure => simp [intOf]; omega
          | false =>
            rw [hbi] at hcl
            have HST := Lib.hid (set_flip g g2 N i true ws wr hB hiN (by rw [hbi]; rfl))
            have HFL := Lib.hid (inl_flip (N := N) hix hbi)
            have HCF := Lib.hid (cnt_flip hix hbi hiN)
            clear hbi
            go_wp2_with fail
            refine HST.out.mono ?_
            rintro e w4 ⟨rfl, hB4, hb4, hs4, hk4⟩
            have HL4 := Lib.hid (HL.out.at_ (hk4 G (fun e => hGg.2 e.symm)))
            have hcl4 := HL4.out.cell (k := i) (by omega)
            have hfr4 := HL4.out.free i
            rw [inl_at ws hiN] at hcl4
            have HL5 := Lib.hid (HL4.out.set i true)
            have HB5 := Lib.hid (hB4.at_ (w' := w4.setCell ⟨G, i, none⟩ (.bool true)) (Below.heap_setCell _ _ _ _ hGg.1) (Below.heap_setCell _ _ _ _ hGg.2))
            have hbl4 := hbl.trans (hb4 w.heap.size hwg2)
            have hbl5 : Below w.heap.size w (w4.setCell ⟨G, i, none⟩ (.bool true)) := hbl4.setCell hwG _
            have hcc := HC.out
            have hcb : (cnt (bitAt ws) N : Int) ≤ N := by omega
            clear hB4 hb4 hk4 hbl hbl4 HL hB HL4 hcl hfr hs4
            go_wp2_with fail
            go_roundw
            case rel => exact ⟨k + 1, flip ws i, by simp, by omega, by omega, HB5.out, by rw [← HFL.out]; exact HL5.out, vInt (by rw [HCF.out]; simp), hbl5⟩
            case measure => simp [intOf]; omega
        · have HST := Lib.hid (set_out g g2 N z true ws wr hB (by omega))
          by_cases hz0 : 0 ≤ z
          · have hz1 : (N : Int) ≤ z := by omega
            clear hz
            go_wp2_with fail
            refine HST.out.mono ?_
            rintro e w4 ⟨rfl, hB4, hb4, _, hk4⟩
            have HB4 := Lib.hid hB4
            have hbl4 := hbl.trans (hb4 w.heap.size hwg2)
            have HL4 := Lib.hid (HL.out.at_ (hk4 G (fun e => hGg.2 e.symm)))
            clear hB4 hb4 hk4 hbl HL hB
            go_wp2_with fail
            go_roundw
            case rel => exact ⟨k + 1, ws, by simp, by omega, by omega, HB4.out, HL4.out, rfl, hbl4⟩
            case measure => simp [intOf]; omega
          · have hz1 : z < 0 := by omega
            clear hz hz0
            go_wp2_with fail
            refine HST.out.mono ?_
            rintro e w4 ⟨rfl, hB4, hb4, _, hk4⟩
            have HB4 := Lib.hid hB4
            have hbl4 := hbl.trans (hb4 w.heap.size hwg2)
            have HL4 := Lib.hid (HL.out.at_ (hk4 G (fun e => hGg.2 e.symm)))
            clear hB4 hb4 hk4 hbl HL hB
            go_wp2_with fail
            go_roundw
            case rel => exact ⟨k + 1, ws, by simp, by omega, by omega, HB4.out, HL4.out, rfl, hbl4⟩
            case measure => simp [intOf]; omega
      · by_cases hkl : k < cs.length
        · have hk6 : 60 ≤ k := by omega
          have HEN := Lib.hid (he.below hbl)
          clear hlt
          go_wp2_with fail
          refine (next_any g g2 N 0 0 ws wr hB HEN.out rfl).mono ?_
          rintro e w4 ⟨r0, q0, rfl, hnx0, rfl⟩
          have HNX0 := Lib.hid hnx0
          have HBW := Lib.hid hB
          clear hnx0 hB
          go_wp2_with fail
          go_loopw [11, 12] (fun v11 v12 wx => ∃ (p q : Nat) (r : Int), v12 = .int .i64 r ∧ Hid (IsNext ws N p r) ∧ p ≤ N ∧ v11 = .int .i64 ((cnt (bitAt ws) p : Nat) : Int) ∧ wr.drewN q = wx) (fun _ v12 _ => nm N v12)
          case atStart => exact ⟨0, q0, r0, rfl, HNX0, Nat.zero_le _, vInt (by rw [cnt_zero]; rfl), rfl⟩
          case round =>
            obtain ⟨p, q, r, rfl, HNX, hpN, rfl, rfl⟩ := hrel
            have hBq := HBW.out.drewN q
            have HEq := Lib.hid (HEN.out.drewN q)
            have HLq : Hid (LAt (wr.drewN q) G (inl ws N)) := Lib.hid (HL.out.at_ rfl)
            have hblq := below_drewN hbl q
            have hcp := cnt_le (bitAt ws) p
            rcases HNX.out with ⟨rfl, hno⟩ | ⟨i, rfl, hpi, hiN, hbi, hno⟩
            · have HCE := Lib.hid (cnt_skip (f := bitAt ws) hpN (fun j h1 _ => hno j h1))
              clear hno
              go_wp2_with fail
              refine (clone_any g g2 N ws (wr.drewN q) hBq).mono ?_
              rintro e w5 ⟨c, c2, rfl, hcg, hcg2, hBC, hb5⟩
              have hs5 := hb5.size
              have hsq : (wr.drewN q).heap.size = wr.heap.size := rfl
              have hgl := hBq.gl
              have hgl2 := hBq.gl2
              have hB5 := hBq.below hb5 hgl hgl2
              have hbl5 := hblq.trans (hb5.mono hblq.size)
              have hwc2 : w.heap.size ≤ c2 := by have := hblq.size; omega
              have hne1 : g ≠ c2 := by omega
              have hne2 : g2 ≠ c2 := by omega
              have HBC := Lib.hid hBC
              have HB5 := Lib.hid hB5
              clear hBC hB5 hb5 hBq hblq hcg hcg2 hgl hgl2 HLq HEq HL HBW
              go_wp2_with fail
              go_loopw [89] (fun v wx => ∃ (k : Nat) (us : List Nat), v = .int .i64 (k : Int) ∧ k ≤ N ∧ BitsAt wx c c2 N us ∧ Hid (∀ j, bitAt us j = (decide (k ≤ j) && bitAt ws j)) ∧ BitsAt wx g g2 N ws ∧ Below w.heap.size w wx) (fun v _ => N - (intOf v).toNat)
              case atStart => exact ⟨0, ws, rfl, Nat.zero_le _, HBC.out, Lib.hid (fun j => by simp), HB5.out, hbl5⟩
              case round =>
                obtain ⟨i, us, rfl, hi, hBU, HU, hBS, hbx⟩ := hrel
                by_cases hiN : i < N
                · have hui := HU.out i
                  rw [decide_eq_true (Nat.le_refl i), Bool.true_and] at hui
                  cases hbi : bitAt ws i with
                  | false =>
                    have HST := Lib.hid (set_same c c2 N i false us _ hBU hiN (hui.trans hbi))
                    have HU2 : Hid (∀ j, bitAt us j = (decide (i + 1 ≤ j) && bitAt ws j)) := Lib.hid fun j => by
                      rw [HU.out j]
                      by_cases e : j = i
                      · subst e; rw [hbi]; simp
                      · rw [Bool.eq_iff_iff]; simp; intro _; omega
                    clear hbi hui
                    go_wp2_with fail
                    refine HST.out.mono ?_
                    rintro e w6 ⟨rfl, hB6, hb6, _, hk6⟩
                    have HB6 := Lib.hid hB6
                    have HS6 := Lib.hid (hBS.at_ (hk6 g hne1) (hk6 g2 hne2))
                    have hbl6 := hbx.trans (hb6 w.heap.size hwc2)
                    clear hB6 hb6 hk6 hBU hBS hbx
                    go_wp2_with fail
                    go_roundw
                    case rel => exact ⟨i + 1, us, by simp, by omega, HB6.out, HU2, HS6.out, hbl6⟩
                    case measure => simp [intOf]; omega
                  | true =>
                    have HST := Lib.hid (set_flip c c2 N i false us _ hBU hiN (hui.trans hbi))
                    have HU2 : Hid (∀ j, bitAt (flip us i) j = (decide (i + 1 ≤ j) && bitAt ws j)) := Lib.hid fun j => by
                      rw [bitAt_flip (hBU.idx hiN), HU.out j, hui, hbi]
                      by_cases e : j = i
                      · subst e; rw [if_pos rfl, decide_eq_false (by omega : ¬ j + 1 ≤ j)]; rfl
                      · rw [if_neg e, Bool.eq_iff_iff]; simp; intro _; omega
                    clear hbi hui
                    go_wp2_with fail
                    refine HST.out.mono ?_
                    rintro e w6 ⟨rfl, hB6, hb6, _, hk6⟩
                    have HB6 := Lib.hid hB6
                    have HS6 := Lib.hid (hBS.at_ (hk6 g hne1) (hk6 g2 hne2))
                    have hbl6 := hbx.trans (hb6 w.heap.size hwc2)
                    clear hB6 hb6 hk6 hBU hBS hbx
                    go_wp2_with fail
                    go_roundw
                    case rel => exact ⟨i + 1, flip us i, by simp, by omega, HB6.out, HU2, HS6.out, hbl6⟩
                    case measure => simp [intOf]; omega
                · obtain rfl : i = N := by omega
                  have HEM : Hid (us = List.replicate ((i + 63) / 64) 0) := Lib.hid (words_ext (by rw [hBU.len, List.length_replicate]) hBU.lt (fun x hx => by rw [List.eq_of_mem_replicate hx]; omega) (fun j _ => by
                    rw [bitAt_zero, HU.out j]
                    by_cases hj : i ≤ j
                    · rw [hBS.top j hj]; simp
                    · simp [hj]))
                  obtain ⟨C, hC⟩ : ∃ C, cnt (bitAt ws) i = C := ⟨_, rfl⟩
                  have HQ : Hid (decide (ws = us) = decide (C = 0)) := Lib.hid (by
                    rw [Bool.eq_iff_iff]
                    simp only [decide_eq_true_eq, ← hC, cnt_zero_iff]
                    constructor
                    · intro h j _; rw [h, HEM.out, bitAt_zero]
                    · intro h
                      refine words_ext (by rw [hBS.len, hBU.len]) hBS.lt hBU.lt fun j _ => ?_
                      rw [HEM.out, bitAt_zero]
                      by_cases hj : j < i
                      · exact h j hj
                      · exact hBS.top j (by omega))
                  have HCP := Lib.hid (HCE.out.symm.trans hC)
                  have HCB := Lib.hid (below_nat g g2 i i (i : Int) ws _ hBS (by omega))
                  have HCC := Lib.hid hC
                  have hCl : C ≤ i := by rw [← hC]; exact cnt_le _ _
                  clear hiN
                  have hCp := HCP.out
                  have hN1 : ∀ r, IsNext us i 0 r → r = -1 := fun r h => by
                    rcases h with ⟨h, _⟩ | ⟨k', _, _, _, h, _⟩
                    · exact h
                    · rw [HEM.out, bitAt_zero] at h; cases h
                  have HN1 := Lib.hid hN1
                  clear hN1
                  go_wp2_with fail
                  refine HCB.out.mono ?_
                  rintro e w7 ⟨q7, rfl, rfl⟩
                  rw [HCC.out]
                  have HU7 := Lib.hid (hBU.drewN q7)
                  have HUU := Lib.hid hBU
                  have HSS := Lib.hid hBS
                  have hb7 := Lib.hid hbx
                  have HE7 := Lib.hid ((he.below hbx).drewN q7)
                  clear hBU hBS hbx HCB
                  go_wp2_with fail
                  refine (next_any c c2 i 0 0 us _ HU7.out HE7.out rfl).mono ?_
                  rintro e w8 ⟨r8, q8, rfl, hnx8, rfl⟩
                  rw [HN1.out r8 hnx8]
                  have HU8 := Lib.hid (HUU.out.drewN (q7 + q8))
                  have HS8 := Lib.hid (HSS.out.drewN (q7 + q8))
                  have hb8 := below_drewN hb7.out (q7 + q8)
                  clear hnx8 HU7 HE7 hb7 HUU HSS
                  go_wp2_with fail
                  refine (newBits_nat i (by omega) _).mono ?_
                  rintro e w9 ⟨f, f2, rfl, _, _, hBN, hb9⟩
                  have HBN := Lib.hid hBN
                  have HU9 := Lib.hid (HU8.out.below hb9 HU8.out.gl HU8.out.gl2)
                  have HS9 := Lib.hid (HS8.out.below hb9 HS8.out.gl HS8.out.gl2)
                  have hbl9 := hb8.trans (hb9.mono hb8.size)
                  have HD : Hid (decide (us = List.replicate ((i + 63) / 64) 0) = true) := Lib.hid (by rw [HEM.out]; simp)
                  clear hBN hb9 HU8 HS8 hb8
                  have hsm := same_bits_n c c2 i us f f2 _ w9 HU9.out HBN.out
                  rw [HD.out] at hsm
                  go_wp2_with fail
                  refine hsm.mono ?_
                  rintro e w10 ⟨q10, rfl, rfl⟩
                  clear hsm
                  have hsn := same_bits_n g g2 i ws c c2 us (w9.drewN q10) (HS9.out.drewN q10) (HU9.out.drewN q10)
                  rw [HQ.out] at hsn
                  go_wp2_with fail
                  refine hsn.mono ?_
                  rintro e w11 ⟨q11, rfl, rfl⟩
                  clear hsn
                  have hfin : (((C : Int) == 0) == decide (C = 0)) = true := by
                    by_cases h : C = 0 <;> simp [h]
                  have HF := Lib.hid hfin
                  clear hfin
                  generalize decide (C = 0) = d at HF ⊢
                  obtain ⟨d', hd'⟩ : ∃ d', ((C : Int) == 0) = d' := ⟨_, rfl⟩
                  rw [hd'] at HF
                  go_wp2_with fail
                  go_ret
                  exact ⟨ret_bool HF.out, below_drewN hbl9 _⟩
            · have hBqi := hBq
              have HBE : Hid (cnt (bitAt ws) i = cnt (bitAt ws) p) := Lib.hid (cnt_skip hpi hno)
              have HSU := Lib.hid (cnt_succ (bitAt ws) i hbi)
              have hcl := HLq.out.cell (k := i) (by rw [inl_len]; exact hiN)
              rw [inl_at ws hiN, hbi] at hcl
              have HBI := Lib.hid (below_nat g g2 N i (i : Int) ws (wr.drewN q) hBq (by omega))
              clear hno hbi
              go_wp2_with fail
              refine HBI.out.mono ?_
              rintro e w5 ⟨q5, rfl, rfl⟩
              rw [HBE.out]
              have HB5 := Lib.hid (HBW.out.drewN (q + q5))
              have HE5 := Lib.hid (HEN.out.drewN (q + q5))
              go_wp2_with fail
              refine (next_any g g2 N (i + 1) ((i : Int) + 1) ws _ HB5.out HE5.out (by omega)).mono ?_
              rintro e w6 ⟨r6, q6, rfl, hnx6, rfl⟩
              have hr6 : r6 = -1 ∨ (i : Int) + 1 ≤ r6 ∧ r6 < N := by
                rcases hnx6 with ⟨h, _⟩ | ⟨i', h, h2, h3, _⟩
                · exact .inl h
                · exact .inr (by omega)
              have HNX6 := Lib.hid hnx6
              clear hnx6 hBqi hBq HB5 HE5 hcl
              go_wp2_with fail
              go_roundw
              case rel => exact ⟨i + 1, _, r6, rfl, HNX6, by omega, vInt (by rw [HSU.out, HBE.out]; simp), rfl⟩
              case measure => exact nm_lt hiN hr6
        · have hk6 : cs.length ≤ k := by omega
          clear hkl
          have HEN := Lib.hid (he.below hbl)
          clear hlt
          go_wp2_with fail
          refine (next_any g g2 N 0 0 ws wr hB HEN.out rfl).mono ?_
          rintro e w4 ⟨r0, q0, rfl, hnx0, rfl⟩
          have HNX0 := Lib.hid hnx0
          have HBW := Lib.hid hB
          clear hnx0 hB
          go_wp2_with fail
          go_loopw [11, 12] (fun v11 v12 wx => ∃ (p q : Nat) (r : Int), v12 = .int .i64 r ∧ Hid (IsNext ws N p r) ∧ p ≤ N ∧ v11 = .int .i64 ((cnt (bitAt ws) p : Nat) : Int) ∧ wr.drewN q = wx) (fun _ v12 _ => nm N v12)
          case atStart => exact ⟨0, q0, r0, rfl, HNX0, Nat.zero_le _, vInt (by rw [cnt_zero]; rfl), rfl⟩
          case round =>
            obtain ⟨p, q, r, rfl, HNX, hpN, rfl, rfl⟩ := hrel
            have hBq := HBW.out.drewN q
            have HEq := Lib.hid (HEN.out.drewN q)
            have HLq : Hid (LAt (wr.drewN q) G (inl ws N)) := Lib.hid (HL.out.at_ rfl)
            have hblq := below_drewN hbl q
            have hcp := cnt_le (bitAt ws) p
            rcases HNX.out with ⟨rfl, hno⟩ | ⟨i, rfl, hpi, hiN, hbi, hno⟩
            · have HCE := Lib.hid (cnt_skip (f := bitAt ws) hpN (fun j h1 _ => hno j h1))
              clear hno
              go_wp2_with fail
              refine (clone_any g g2 N ws (wr.drewN q) hBq).mono ?_
              rintro e w5 ⟨c, c2, rfl, hcg, hcg2, hBC, hb5⟩
              have hs5 := hb5.size
              have hsq : (wr.drewN q).heap.size = wr.heap.size := rfl
              have hgl := hBq.gl
              have hgl2 := hBq.gl2
              have hB5 := hBq.below hb5 hgl hgl2
              have hbl5 := hblq.trans (hb5.mono hblq.size)
              have hwc2 : w.heap.size ≤ c2 := by have := hblq.size; omega
              have hne1 : g ≠ c2 := by omega
              have hne2 : g2 ≠ c2 := by omega
              have HBC := Lib.hid hBC
              have HB5 := Lib.hid hB5
              clear hBC hB5 hb5 hBq hblq hcg hcg2 hgl hgl2 HLq HEq HL HBW
              go_wp2_with fail
              go_loopw [89] (fun v wx => ∃ (k : Nat) (us : List Nat), v = .int .i64 (k : Int) ∧ k ≤ N ∧ BitsAt wx c c2 N us ∧ Hid (∀ j, bitAt us j = (decide (k ≤ j) && bitAt ws j)) ∧ BitsAt wx g g2 N ws ∧ Below w.heap.size w wx) (fun v _ => N - (intOf v).toNat)
              case atStart => exact ⟨0, ws, rfl, Nat.zero_le _, HBC.out, Lib.hid (fun j => by simp), HB5.out, hbl5⟩
              case round =>
                obtain ⟨i, us, rfl, hi, hBU, HU, hBS, hbx⟩ := hrel
                by_cases hiN : i < N
                · have hui := HU.out i
                  rw [decide_eq_true (Nat.le_refl i), Bool.true_and] at hui
                  cases hbi : bitAt ws i with
                  | false =>
                    have HST := Lib.hid (set_same c c2 N i false us _ hBU hiN (hui.trans hbi))
                    have HU2 : Hid (∀ j, bitAt us j = (decide (i + 1 ≤ j) && bitAt ws j)) := Lib.hid fun j => by
                      rw [HU.out j]
                      by_cases e : j = i
                      · subst e; rw [hbi]; simp
                      · rw [Bool.eq_iff_iff]; simp; intro _; omega
                    clear hbi hui
                    go_wp2_with fail
                    refine HST.out.mono ?_
                    rintro e w6 ⟨rfl, hB6, hb6, _, hk6⟩
                    have HB6 := Lib.hid hB6
                    have HS6 := Lib.hid (hBS.at_ (hk6 g hne1) (hk6 g2 hne2))
                    have hbl6 := hbx.trans (hb6 w.heap.size hwc2)
                    clear hB6 hb6 hk6 hBU hBS hbx
                    go_wp2_with fail
                    go_roundw
                    case rel => exact ⟨i + 1, us, by simp, by omega, HB6.out, HU2, HS6.out, hbl6⟩
                    case measure => simp [intOf]; omega
                  | true =>
                    have HST := Lib.hid (set_flip c c2 N i false us _ hBU hiN (hui.trans hbi))
                    have HU2 : Hid (∀ j, bitAt (flip us i) j = (decide (i + 1 ≤ j) && bitAt ws j)) := Lib.hid fun j => by
                      rw [bitAt_flip (hBU.idx hiN), HU.out j, hui, hbi]
                      by_cases e : j = i
                      · subst e; rw [if_pos rfl, decide_eq_false (by omega : ¬ j + 1 ≤ j)]; rfl
                      · rw [if_neg e, Bool.eq_iff_iff]; simp; intro _; omega
                    clear hbi hui
                    go_wp2_with fail
                    refine HST.out.mono ?_
                    rintro e w6 ⟨rfl, hB6, hb6, _, hk6⟩
                    have HB6 := Lib.hid hB6
                    have HS6 := Lib.hid (hBS.at_ (hk6 g hne1) (hk6 g2 hne2))
                    have hbl6 := hbx.trans (hb6 w.heap.size hwc2)
                    clear hB6 hb6 hk6 hBU hBS hbx
                    go_wp2_with fail
                    go_roundw
                    case rel => exact ⟨i + 1, flip us i, by simp, by omega, HB6.out, HU2, HS6.out, hbl6⟩
                    case measure => simp [intOf]; omega
                · obtain rfl : i = N := by omega
                  have HEM : Hid (us = List.replicate ((i + 63) / 64) 0) := Lib.hid (words_ext (by rw [hBU.len, List.length_replicate]) hBU.lt (fun x hx => by rw [List.eq_of_mem_replicate hx]; omega) (fun j _ => by
                    rw [bitAt_zero, HU.out j]
                    by_cases hj : i ≤ j
                    · rw [hBS.top j hj]; simp
                    · simp [hj]))
                  obtain ⟨C, hC⟩ : ∃ C, cnt (bitAt ws) i = C := ⟨_, rfl⟩
                  have HQ : Hid (decide (ws = us) = decide (C = 0)) := Lib.hid (by
                    rw [Bool.eq_iff_iff]
                    simp only [decide_eq_true_eq, ← hC, cnt_zero_iff]
                    constructor
                    · intro h j _; rw [h, HEM.out, bitAt_zero]
                    · intro h
                      refine words_ext (by rw [hBS.len, hBU.len]) hBS.lt hBU.lt fun j _ => ?_
                      rw [HEM.out, bitAt_zero]
                      by_cases hj : j < i
                      · exact h j hj
                      · exact hBS.top j (by omega))
                  have HCP := Lib.hid (HCE.out.symm.trans hC)
                  have HCB := Lib.hid (below_nat g g2 i i (i : Int) ws _ hBS (by omega))
                  have HCC := Lib.hid hC
                  have hCl : C ≤ i := by rw [← hC]; exact cnt_le _ _
                  clear hiN
                  have hCp := HCP.out
                  have hN1 : ∀ r, IsNext us i 0 r → r = -1 := fun r h => by
                    rcases h with ⟨h, _⟩ | ⟨k', _, _, _, h, _⟩
                    · exact h
                    · rw [HEM.out, bitAt_zero] at h; cases h
                  have HN1 := Lib.hid hN1
                  clear hN1
                  go_wp2_with fail
                  refine HCB.out.mono ?_
                  rintro e w7 ⟨q7, rfl, rfl⟩
                  rw [HCC.out]
                  have HU7 := Lib.hid (hBU.drewN q7)
                  have HUU := Lib.hid hBU
                  have HSS := Lib.hid hBS
                  have hb7 := Lib.hid hbx
                  have HE7 := Lib.hid ((he.below hbx).drewN q7)
                  clear hBU hBS hbx HCB
                  go_wp2_with fail
                  refine (next_any c c2 i 0 0 us _ HU7.out HE7.out rfl).mono ?_
                  rintro e w8 ⟨r8, q8, rfl, hnx8, rfl⟩
                  rw [HN1.out r8 hnx8]
                  have HU8 := Lib.hid (HUU.out.drewN (q7 + q8))
                  have HS8 := Lib.hid (HSS.out.drewN (q7 + q8))
                  have hb8 := below_drewN hb7.out (q7 + q8)
                  clear hnx8 HU7 HE7 hb7 HUU HSS
                  go_wp2_with fail
                  refine (newBits_nat i (by omega) _).mono ?_
                  rintro e w9 ⟨f, f2, rfl, _, _, hBN, hb9⟩
                  have HBN := Lib.hid hBN
                  have HU9 := Lib.hid (HU8.out.below hb9 HU8.out.gl HU8.out.gl2)
                  have HS9 := Lib.hid (HS8.out.below hb9 HS8.out.gl HS8.out.gl2)
                  have hbl9 := hb8.trans (hb9.mono hb8.size)
                  have HD : Hid (decide (us = List.replicate ((i + 63) / 64) 0) = true) := Lib.hid (by rw [HEM.out]; simp)
                  clear hBN hb9 HU8 HS8 hb8
                  have hsm := same_bits_n c c2 i us f f2 _ w9 HU9.out HBN.out
                  rw [HD.out] at hsm
                  go_wp2_with fail
                  refine hsm.mono ?_
                  rintro e w10 ⟨q10, rfl, rfl⟩
                  clear hsm
                  have hsn := same_bits_n g g2 i ws c c2 us (w9.drewN q10) (HS9.out.drewN q10) (HU9.out.drewN q10)
                  rw [HQ.out] at hsn
                  go_wp2_with fail
                  refine hsn.mono ?_
                  rintro e w11 ⟨q11, rfl, rfl⟩
                  clear hsn
                  have hfin : (((C : Int) == 0) == decide (C = 0)) = true := by
                    by_cases h : C = 0 <;> simp [h]
                  have HF := Lib.hid hfin
                  clear hfin
                  generalize decide (C = 0) = d at HF ⊢
                  obtain ⟨d', hd'⟩ : ∃ d', ((C : Int) == 0) = d' := ⟨_, rfl⟩
                  rw [hd'] at HF
                  go_wp2_with fail
                  go_ret
                  exact ⟨ret_bool HF.out, below_drewN hbl9 _⟩
            · have hBqi := hBq
              have HBE : Hid (cnt (bitAt ws) i = cnt (bitAt ws) p) := Lib.hid (cnt_skip hpi hno)
              have HSU := Lib.hid (cnt_succ (bitAt ws) i hbi)
              have hcl := HLq.out.cell (k := i) (by rw [inl_len]; exact hiN)
              rw [inl_at ws hiN, hbi] at hcl
              have HBI := Lib.hid (below_nat g g2 N i (i : Int) ws (wr.drewN q) hBq (by omega))
              clear hno hbi
              go_wp2_with fail
              refine HBI.out.mono ?_
              rintro e w5 ⟨q5, rfl, rfl⟩
              rw [HBE.out]
              have HB5 := Lib.hid (HBW.out.drewN (q + q5))
              have HE5 := Lib.hid (HEN.out.drewN (q + q5))
              go_wp2_with fail
              refine (next_any g g2 N (i + 1) ((i : Int) + 1) ws _ HB5.out HE5.out (by omega)).mono ?_
              rintro e w6 ⟨r6, q6, rfl, hnx6, rfl⟩
              have hr6 : r6 = -1 ∨ (i : Int) + 1 ≤ r6 ∧ r6 < N := by
                rcases hnx6 with ⟨h, _⟩ | ⟨i', h, h2, h3, _⟩
                · exact .inl h
                · exact .inr (by omega)
              have HNX6 := Lib.hid hnx6
              clear hnx6 hBqi hBq HB5 HE5 hcl
              go_wp2_with fail
              go_roundw
              case rel => exact ⟨i + 1, _, r6, rfl, HNX6, by omega, vInt (by rw [HSU.out, HBE.out]; simp), rfl⟩
              case measure => exact nm_lt hiN hr6
theorem walk_PackSets (n : Int) (A : Option Addr) (len cap : Nat) (zs : List Int) (W : World) (_wn : (Lit.int .i64 n).wf = true) (h : IsRow .i64 W A len cap zs) (he : EnvB W) :
    Calls Tryd.prog 5 #[.int .i64 n, .slice A len cap] W fun e w' => e = .returned (.bool true) ∧ Below W.heap.size W w' := by
  obtain ⟨cs, rfl, hc, hm, hr, _, hw⟩ := ints_row h
  exact sets_any n cs cap A W hr hw (by omega) he
end Go.Proofs.YtmlfooofgedmaaaDoor.Fl
