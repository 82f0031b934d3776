/-
  Instructions: Check's part of any code.
-/
import Derived.Test.YtdfghcbojbbgcaaDoorCeM
namespace Go.Proofs.YtdfghcbojbbgcaaDoor.Fl
open Go.RowKit Go.Maps

theorem decR_take {code : List UInt8} {tt : Nat} (ht : tt ≤ code.length) {q : Int} {x : Ins} {p : Nat} (h : decR (code.take tt) q = .inl (x, p)) : decR code q = .inl (x, p) ∧ p ≤ tt := by
  obtain ⟨n, rfl, hnp, hpl, hi, he⟩ := enc_dec h
  rw [List.length_take] at hpl
  have hpt : p ≤ tt := by omega
  obtain ⟨op, a, b⟩ := x
  replace hi : isI op a b = true := hi
  have e2 : bytesAt (code.take tt) n (p - n) = (code.drop n).take (p - n) := by
    unfold bytesAt
    rw [List.drop_take, List.take_take, Nat.min_eq_left (by omega)]
  rw [e2] at he
  have e3 : code = code.take n ++ enc1 (op, a, b) ++ code.drop p := by
    rw [he, List.append_assoc]
    have e4 : code.drop p = (code.drop n).drop (p - n) := by rw [List.drop_drop]; congr 1; omega
    rw [e4, List.take_append_drop, List.take_append_drop]
  have h1 := dec_enc hi (code.take n) (code.drop p)
  rw [← e3] at h1
  have hl : (code.take n).length = n := by rw [List.length_take]; omega
  have hl2 : (enc1 (op, a, b)).length = p - n := by rw [he, List.length_take, List.length_drop]; omega
  rw [hl, hl2] at h1
  rw [h1]
  exact ⟨by congr 2; omega, hpt⟩
/-- at each key an instruction begins -/
def P1 (code : List UInt8) (D : DataW Unit) : Prop := ∀ k, hasK D k → ∃ x p, decR code k = .inl (x, p)
theorem P1.put {code : List UInt8} {D : DataW Unit} (h : P1 code D) (hi : IsMap D) {k v : Int} {x : Ins} {p : Nat} (hd : decR code k = .inl (x, p)) : P1 code (putK D k v) := fun j hj => by
  rcases (has_putK hi k v j).1 hj with rfl | hj
  · exact ⟨x, p, hd⟩
  · exact h j hj
def PartPostX (code : List UInt8) (w : World) (M1 n1 m : Nat) (D1 : DataW Unit) (e : Ending) (w' : World) : Prop :=
  ((∃ n, n ≠ 0 ∧ e = .panicked (faultK n)) ∧ OvC M1 w w') ∨
  ∃ r n1' D1', e = .returned (.bool r) ∧ OvC M1 w w' ∧ OwnM w' M1 n1' D1' ∧ IsMap D1' ∧ n1' ≤ n1 + m ∧ (r = true → P1 code D1 → P1 code D1')
theorem isI_b {op a b : Int} (h : isI op a b = true) : 0 ≤ b := by
  obtain ⟨k, rfl, hk⟩ := isI_op h
  obtain ⟨nmx, sa, la, sb, t, u, hrow, ⟨hsa, hsb⟩, hla, -⟩ := formsL_get2 hk
  unfold isI at h
  rw [if_pos ⟨by omega, by omega⟩, Int.toNat_natCast, hrow] at h
  simp only [Int.toNat_natCast, Bool.and_eq_true] at h
  have hI := h.2
  unfold hasC at hI
  simp only [Bool.and_eq_true, decide_eq_true_eq] at hI
  exact hI.1
theorem OvC.belowBase {R : Nat} {w w1 w2 : World} (h : OvC R w w1) (hb : Below w.heap.size w1 w2) : OvC R w w2 :=
  ⟨hb.os.trans h.os, hb.tape.trans h.tape, hb.output.trans h.output, Nat.le_trans h.size hb.size, fun k hk hn => (hb.block k hk).trans (h.block k hk hn)⟩
theorem ownZ_at {w : World} {base n c : Nat} {A : Option Addr} {gs : List Int} (h : OwnZ w base (.slice A n c) gs) {j : Nat} (hj : j < gs.length) : ∃ g, A = some ⟨g, 0, none⟩ ∧ w.cell? ⟨g, j, none⟩ = some (.int .i64 gs[j]) := by
  rcases h.2 with ⟨_, e⟩ | ⟨g, cap, cur, e1, hb, hg, hc, _, hs, ht⟩
  · omega
  · injection e1 with e1 e2 e3
    refine ⟨g, e1, ?_⟩
    rw [cell_of_row w g j _ _ _ hg]
    have h0 : (cz gs)[j]? = some (.int .i64 gs[j]) := by unfold cz; rw [List.getElem?_map, List.getElem?_eq_getElem hj]; rfl
    have hjl : j < gs.length * 1 := by omega
    rw [← ht, List.getElem?_take, if_pos hjl] at h0
    simpa using h0
set_option maxRecDepth 100000 in
set_option maxHeartbeats 8000000 in
theorem part_any {C c M1 M2 B : Nat} {A : Option Addr} {L S F : Int} {v : Value} {most : Int} (code : List UInt8) (hN : code.length ≤ 1000) (hc : code.length ≤ c) (hne : M1 ≠ C) (hBm : B ≤ M1) : ∀ (m f0 t0 : Nat) (w : World) (n1 : Nat) (D1 : DataW Unit), t0 - f0 < m → f0 ≤ t0 → t0 ≤ code.length → CkG w C code.length c M1 M2 A L S F v most → OwnM w M1 n1 D1 → IsMap D1 → n1 + (t0 - f0) ≤ 1000000 → (∀ w', OvC M1 w w' → Rd w' B A (cb code)) → B ≤ w.heap.size → (∀ w', OvC M1 w w' → FormsAt w') →
    Calls Tryd.prog 18 #[.pointer (some ⟨C, 0, none⟩), .int .i64 (f0 : Int), .int .i64 (t0 : Int)] w (PartPostX code w M1 n1 (t0 - f0) D1) := by
  intro m
  induction m with
  | zero => intro f0 t0 w n1 D1 hm; omega
  | succ m ih =>
  intro f0 t0 w n1 D1 hm hft htN hC hm1 hi1 hn1 hr hB hF
  have HC := Lib.hid (fun w' (h : OvC M1 w w') => (h.block C (lt_of_blkC hC) (fun e => hne e.symm)).trans hC)
  have HR := Lib.hid hr
  have HF := Lib.hid hF
  have HM0 := Lib.hid hm1
  have HI0 := Lib.hid hi1
  have HIH := Lib.hid ih
  have hM1w := hm1.lt
  have hgu := fun w => giveUpC_any (.pointer (some ⟨C, 0, none⟩)) 3 w
  clear hC hm1 hi1 hr hF ih
  have hcl : (code.take t0).length = t0 := by rw [List.length_take]; omega
  have HCL := Lib.hid hcl
  clear hcl
  obtain ⟨N, hNN⟩ : ∃ N, code.length = N := ⟨_, rfl⟩
  have HNN := Lib.hid hNN
  rw [hNN] at htN hc hN HC
  clear hNN
  have it0 : (0 : Int) ≤ (t0 : Int) := by omega
  have it1 : (t0 : Int) ≤ (c : Int) := by omega
  go_enter Tryd.func18, Tryd.ntmps18
  go_wp2_with fail
  go_loopw [7, 8, 9] (fun v7 v8 v9 wr => ∃ (r : Bool) (gs : List Int) (Ag : Option Addr) (cg q n : Nat) (D : DataW Unit), v7 = .bool r ∧ v8 = .slice Ag gs.length cg ∧ v9 = .int .i64 (q : Int) ∧ f0 ≤ q ∧ q ≤ t0 ∧ gs.length ≤ q - f0 ∧ n ≤ n1 + (q - f0) ∧ Hid (∀ g ∈ gs, -100000 ≤ g ∧ g ≤ 100000) ∧ Hid (OvC M1 w wr) ∧ Hid (OwnM wr M1 n D) ∧ Hid (IsMap D) ∧ Hid (OwnZ wr w.heap.size (.slice Ag gs.length cg) gs) ∧ Hid (r = true → P1 code D1 → P1 code D)) (fun _ _ v9 _ => t0 - (intOf v9).toNat)
  case atStart => exact ⟨true, [], none, 0, f0, n1, D1, rfl, rfl, rfl, Nat.le_refl _, hft, Nat.zero_le _, by omega, Lib.hid (fun _ h => by cases h), Lib.hid (OvC.refl _ _), HM0, HI0, Lib.hid (ownZ_nil _ _), Lib.hid (fun _ h => h)⟩
  case round =>
    obtain ⟨r, gs, Ag, cg, q, n, D, rfl, rfl, rfl, hq0, hq1, hgl, hnn, HG, HO, HM, HI, HZ, HP⟩ := hrel
    clear HM0 HI0
    by_cases hlt : q < t0
    · have fC := eight_cellsC (HC.out _ HO.out)
      have hml := HM.out.lt
      go_wp2_with (at_mapUpdate; refine wpList_mapUpdate_own _ rfl _ _ _ 45 rfl 3 3 keyedIC Tryd.underlying45 _ M1 n _ rfl HM.out (by unfold maxLen; omega) _ _ _ rfl rfl (keyIC (by omega) (by omega)) _ [] (plainElem_int Tryd.underlying3 (WalkArith.wf_i64 (by omega))) ?_; intro w1 hown1 hg1; have HO1 := Lib.hid (HO.out.trans (ovC_grown hg1)); have fC1 := eight_cellsC (HC.out _ HO1.out); have HM1 := Lib.hid (show OwnM w1 M1 (n + 1) (putK D (q : Int) (f0 : Int)) from hown1); have HZ1 := Lib.hid (HZ.out.keep (fun j hj => hg1.block j (World.ownsRow.lt HZ.out j hj).2 (fun e => by have h1 := (World.ownsRow.lt HZ.out j hj).1; injection e with e; omega))))
      have HI1 := Lib.hid (HI.out.put (.int .i64 (q : Int)) (.lit (.int .i64 (f0 : Int))))
      have hrd : Rd w1 B A (cb (code.take t0)) := by
        have h9 := (HR.out _ HO1.out).take_ t0
        rwa [cb_take] at h9
      have hdec := decode_any (code.take t0) (q : Int) A c B w1 hrd (Nat.le_trans hB HO1.out.size) (by rw [HCL.out]; omega) (by rw [HCL.out]; omega) (HF.out _ HO1.out)
      rw [HCL.out] at hdec
      obtain ⟨DD, hDD⟩ : ∃ DD, decR (code.take t0) (q : Int) = DD := ⟨_, rfl⟩
      rw [hDD] at hdec
      clear hg1 hown1 fC hrd HM HZ
      rcases DD with ⟨⟨op, a, b⟩, p⟩ | n9
      · obtain ⟨hdt, hpt⟩ := decR_take (by rw [HNN.out]; exact htN) hDD
        obtain ⟨n0, hqn, hnp, -, hi, -⟩ := enc_dec hdt
        obtain rfl : q = n0 := by omega
        replace hi : isI op a b = true := hi
        obtain ⟨⟨a0, a1⟩, b0, b1⟩ := isI_bd hi
        have hb9 := isI_b hi
        obtain ⟨kk, rfl, hkk⟩ := isI_op hi
        have HDT := Lib.hid hdt
        clear hi hDD hqn hdt
        refine hdec.mono ?_
        rintro e w2 ⟨hb2, hcase⟩
        obtain ⟨y, p', hxp, rfl⟩ | ⟨n8, hxp, _⟩ := hcase
        rotate_left 1
        · cases hxp
        obtain ⟨rfl, rfl⟩ : y = ((kk : Int), a, b) ∧ p = p' := by cases hxp; exact ⟨rfl, rfl⟩
        have hb3 : Below w1.heap.size w1 (w2.alloc (.cells #[.int .i64 (kk : Int), .int .i64 a, .int .i64 b] 34)) := hb2.alloc hb2.size _
        have HO3 := Lib.hid (HO1.out.trans (OvC.of_below hb3))
        have hw3 := heap_alloc_new w2 (.cells #[.int .i64 (kk : Int), .int .i64 a, .int .i64 b] 34)
        have f3 := three_cellsC hw3
        have HW3 := Lib.hid hw3
        have fC3 := eight_cellsC (HC.out _ HO3.out)
        have HM3 := Lib.hid (HM1.out.keep (hb3.block M1 HM1.out.lt))
        have HZ3 := Lib.hid (HZ1.out.keep (fun j hj => hb3.block j (World.ownsRow.lt HZ1.out j hj).2))
        have hnm := isNamed_any _ (HC.out _ HO3.out) hkk a b
        have hszI : w.heap.size ≤ w2.heap.size := Nat.le_trans HO1.out.size hb2.size
        clear hdec hxp HM1 HO1 HZ1 HO fC1 hb3 hw3 hb2
        unfold insV
        go_wp2_with fail
        refine hnm.mono ?_
        rintro e w4 ⟨⟨r1, rfl⟩, hb4⟩
        obtain ⟨I, hI⟩ : ∃ I, w2.heap.size = I := ⟨_, rfl⟩
        have hIM : I ≠ M1 := by omega
        have HO4 := Lib.hid (HO3.out.trans (OvC.of_below hb4))
        have HW4 := Lib.hid ((hb4.block _ (lt_of_blkC HW3.out)).trans HW3.out)
        have HM4 := Lib.hid (HM3.out.keep (hb4.block M1 HM3.out.lt))
        have HZ4 := Lib.hid (HZ3.out.keep (fun j hj => hb4.block j (World.ownsRow.lt HZ3.out j hj).2))
        rw [hI] at HW4 ⊢
        have f4 := three_cellsC HW4.out
        have fC4 := eight_cellsC (HC.out _ HO4.out)
        clear hnm hb4 f3 fC3 HO3 HW3 HM3 HZ3 hI
        cases r1
        · go_wp2_with (go_at_call 19; refine (hgu _).mono ?_; rintro e w7 ⟨rfl, rfl⟩)
          exact ⟨rfl, .inl ⟨⟨3, by decide, rfl⟩, HO4.out⟩⟩
        · go_wp2_with fail
          refine (blockSize_any hkk a b _).mono ?_
          rintro e w5 ⟨rfl, hb5⟩
          obtain ⟨z, hz⟩ : ∃ z : Nat, blkR (kk : Int) b = (z : Int) := ⟨(blkR (kk : Int) b).toNat, by unfold blkR; split <;> omega⟩
          have hz9 : z ≤ 65536 := by unfold blkR at hz; split at hz <;> omega
          have HBz := Lib.hid hz
          rw [hz]
          have HO5 := Lib.hid (HO4.out.trans (OvC.of_below hb5))
          have HW5 := Lib.hid ((hb5.block _ (lt_of_blkC HW4.out)).trans HW4.out)
          have HM5 := Lib.hid (HM4.out.keep (hb5.block M1 HM4.out.lt))
          have HZ5 := Lib.hid (HZ4.out.keep (fun j hj => hb5.block j (World.ownsRow.lt HZ4.out j hj).2))
          have f5 := three_cellsC HW5.out
          have fC5 := eight_cellsC (HC.out _ HO5.out)
          have HP5 := Lib.hid (show r = true → P1 code D1 → P1 code (putK D (q : Int) (f0 : Int)) from fun h1 h2 => (HP.out h1 h2).put HI.out HDT.out)
          clear hb5 hz f4 fC4 HO4 HW4 HM4 HZ4 HP HI
          by_cases hov : p + z ≤ t0
          · have hov1 : (p : Int) + (z : Int) ≤ (t0 : Int) := by omega
            by_cases e17 : (kk : Int) = 17
            · have hj : jmpR (kk : Int) = false := by rw [e17]; rfl
              have e17b : ((kk : Int) == 17) = true := beq_iff_eq.2 e17
              have hih := HIH.out p (p + z) w5 (n + 1) _ (by omega) (by omega) (by rw [HNN.out]; omega) (by rw [HNN.out]; exact HC.out _ HO5.out) HM5.out HI1.out (by omega) (fun w' h => HR.out w' (HO5.out.trans h)) (Nat.le_trans hB HO5.out.size) (fun w' h => HF.out w' (HO5.out.trans h))
              rw [Int.natCast_add] at hih
              clear e17
              go_wp2_with fail
              refine hih.mono ?_
              rintro e w6 (⟨⟨n8, hn8, rfl⟩, ho6⟩ | ⟨r2, n6, D6, rfl, ho6, hm6, hi6, hn6, hp6⟩)
              · exact ⟨rfl, .inl ⟨⟨n8, hn8, rfl⟩, HO5.out.trans ho6⟩⟩
              have HO6 := Lib.hid (HO5.out.trans ho6)
              have HW6 := Lib.hid ((ho6.block _ (lt_of_blkC HW5.out) hIM).trans HW5.out)
              have HM6 := Lib.hid hm6
              have HI6 := Lib.hid hi6
              have HP6 := Lib.hid hp6
              have HZ6 := Lib.hid (HZ5.out.keep (fun j hj => ho6.block j (World.ownsRow.lt HZ5.out j hj).2 (fun e => by have h1 := (World.ownsRow.lt HZ5.out j hj).1; omega)))
              have f6 := three_cellsC HW6.out
              have fC6 := eight_cellsC (HC.out _ HO6.out)
              clear hih ho6 hm6 hi6 hp6 f5 fC5 HO5 HW5 HM5 HZ5 HI1
              cases r2
              · go_wp2_with fail
                refine (isJump_any hkk a b _).mono ?_
                rintro e w7 ⟨rfl, hb7⟩
                have HO7 := Lib.hid (HO6.out.trans (OvC.of_below hb7))
                have HM7 := Lib.hid (HM6.out.keep (hb7.block M1 HM6.out.lt))
                have HZ7 := Lib.hid (HZ6.out.keep (fun j hj => hb7.block j (World.ownsRow.lt HZ6.out j hj).2))
                clear hb7 f6 fC6 HO6 HW6 HM6 HZ6
                rw [hj]
                go_wp2_with fail
                go_roundw
                case rel => exact ⟨false, gs, Ag, cg, p + z, n6, D6, rfl, rfl, by rw [Int.natCast_add], by omega, hov, by omega, by omega, HG, HO7, HM7, HI6, HZ7, Lib.hid (fun h => by cases h)⟩
                case measure => simp [intOf]; omega
              · go_wp2_with fail
                refine (isJump_any hkk a b _).mono ?_
                rintro e w7 ⟨rfl, hb7⟩
                have HO7 := Lib.hid (HO6.out.trans (OvC.of_below hb7))
                have HM7 := Lib.hid (HM6.out.keep (hb7.block M1 HM6.out.lt))
                have HZ7 := Lib.hid (HZ6.out.keep (fun j hj => hb7.block j (World.ownsRow.lt HZ6.out j hj).2))
                clear hb7 f6 fC6 HO6 HW6 HM6 HZ6
                rw [hj]
                go_wp2_with fail
                go_roundw
                case rel => exact ⟨r, gs, Ag, cg, p + z, n6, D6, rfl, rfl, by rw [Int.natCast_add], by omega, hov, by omega, by omega, HG, HO7, HM7, HI6, HZ7, Lib.hid (fun h1 h2 => HP6.out (by first | trivial | rfl) (HP5.out h1 h2))⟩
                case measure => simp [intOf]; omega
            · have e17b : ((kk : Int) == 17) = false := by rw [beq_eq_false_iff_ne]; exact e17
              have hz0 : z = 0 := by have h1 := HBz.out; unfold blkR at h1; rw [if_neg e17] at h1; omega
              subst hz0
              have hov2 : (p : Int) ≤ (t0 : Int) := by omega
              clear e17 HBz
              go_wp2_with fail
              refine (isJump_any hkk a b _).mono ?_
              rintro e w7 ⟨rfl, hb7⟩
              have HO7 := Lib.hid (HO5.out.trans (OvC.of_below hb7))
              have HW7 := Lib.hid ((hb7.block _ (lt_of_blkC HW5.out)).trans HW5.out)
              have HM7 := Lib.hid (HM5.out.keep (hb7.block M1 HM5.out.lt))
              have HZ7 := Lib.hid (HZ5.out.keep (fun j hj => hb7.block j (World.ownsRow.lt HZ5.out j hj).2))
              have f7 := three_cellsC HW7.out
              clear hb7 f5 fC5 HO5 HW5 HM5 HZ5
              obtain ⟨jj, hjj⟩ : ∃ jj, jmpR (kk : Int) = jj := ⟨_, rfl⟩
              rw [hjj]
              clear hjj
              cases jj
              · go_wp2_with fail
                go_roundw
                case rel => exact ⟨r, gs, Ag, cg, p, n + 1, _, rfl, rfl, rfl, by omega, by omega, by omega, by omega, HG, HO7, HM7, HI1, HZ7, HP5⟩
                case measure => simp [intOf]; omega
              · have hsz7 := HO7.out.size
                have HZ8 := Lib.hid (HZ7.out.keep (w' := w7.alloc (.cells #[.int .i64 ((p : Int) + a)] 3)) (fun j hj => Below.heap_alloc _ _ _ (World.ownsRow.lt HZ7.out j hj).2))
                have HR8 := Lib.hid (rd_oneZi w7 ((p : Int) + a))
                have HBa := Lib.hid (show Below w.heap.size w7 (w7.alloc (.cells #[.int .i64 ((p : Int) + a)] 3)) from (Below.refl _ _).alloc hsz7 _)
                go_wp2_with (at_builtin; refine wpList_append_z (base := w.heap.size) (v := .slice Ag gs.length cg) (xs := gs) (news := [(p : Int) + a]) rfl _ _ rfl rfl rfl HZ8.out HR8.out (fun h => by cases h) (by omega) (by simp) (by rw [World.size_alloc]; omega) ?_; intro A9 t9 c9 w9 HT9 HZ9 HB9)
                obtain rfl := HT9.out
                have HO9 := Lib.hid (HO7.out.belowBase (HBa.out.trans HB9.out.1))
                have HM9 := Lib.hid (HM7.out.keep ((HBa.out.trans HB9.out.1).block M1 hM1w))
                have HG9 : Hid (∀ g ∈ gs ++ [(p : Int) + a], -100000 ≤ g ∧ g ≤ 100000) := Lib.hid (fun g hg => by
                  rcases List.mem_append.1 hg with hg | hg
                  · exact HG.out g hg
                  · obtain rfl := List.mem_singleton.1 hg
                    omega)
                have hgl9 : (gs ++ [(p : Int) + a]).length ≤ p - f0 := by rw [List.length_append, List.length_singleton]; omega
                clear HO7 HM7 HZ7 HZ8 HR8 HBa HB9 HG hgl
                go_roundw
                case rel => exact ⟨r, _, A9, c9, p, n + 1, _, rfl, rfl, rfl, by omega, by omega, hgl9, by omega, HG9, HO9, HM9, HI1, HZ9, HP5⟩
                case measure => simp [intOf]; omega
          · have hov2 : ¬ ((p : Int) + (z : Int) ≤ (t0 : Int)) := by omega
            clear hov
            go_wp2_with fail
            go_loopw [83] (fun v83 wx => ∃ (j : Nat), j ≤ gs.length ∧ v83 = .int .i64 (j : Int) ∧ w5 = wx) (fun v83 _ => gs.length - (intOf v83).toNat)
            case atStart => exact ⟨0, Nat.zero_le _, rfl, rfl⟩
            case round =>
              obtain ⟨j, hj, rfl, rfl⟩ := hrel
              by_cases hjl : j < gs.length
              · obtain ⟨g, rfl, hcell⟩ := ownZ_at HZ5.out hjl
                have hgb := HG.out gs[j] (List.getElem_mem hjl)
                have hin := isIn_any (HC.out _ HO5.out) HM5.out gs[j] (f0 : Int) (by omega) (by omega)
                obtain ⟨gj, hgj⟩ : ∃ gj, gs[j] = gj := ⟨_, rfl⟩
                rw [hgj] at hcell hin
                clear hgj hgb
                go_wp2_with fail
                refine hin.mono ?_
                rintro e w7 ⟨r3, rfl, -, rfl⟩
                clear hin hcell
                cases r3
                · go_wp2_with (go_at_call 19; refine (hgu _).mono ?_; rintro e w7 ⟨rfl, rfl⟩)
                  exact ⟨rfl, .inl ⟨⟨3, by decide, rfl⟩, HO5.out⟩⟩
                · go_wp2_with fail
                  go_roundw
                  case rel => exact ⟨j + 1, hjl, rfl, trivial⟩
                  case measure => simp [intOf]; omega
              · go_wp2_with fail
                go_ret
                exact .inr ⟨false, n + 1, _, rfl, HO5.out, HM5.out, HI1.out, by omega, fun h => by cases h⟩
      · have HO1' := HO1
        by_cases h3 : n9 = 3
        · subst h3
          refine hdec.mono ?_
          rintro e w2 ⟨hb2, hcase⟩
          obtain ⟨y, p', hxp, _⟩ | ⟨n8, hxp, rfl⟩ := hcase
          · cases hxp
          obtain rfl : (3 : Int) = n8 := by cases hxp; rfl
          have HO3 := Lib.hid (HO1.out.trans (OvC.of_below (show Below w1.heap.size w1 (w2.alloc (.cells #[.int .i64 0, .int .i64 0, .int .i64 0] 34)) from hb2.alloc hb2.size _)))
          clear hdec hxp hb2
          unfold insV
          go_wp2_with (go_at_call 19; refine (hgu _).mono ?_; rintro e w7 ⟨rfl, rfl⟩)
          exact ⟨rfl, .inl ⟨⟨3, by decide, rfl⟩, HO3.out⟩⟩
        · have h4 := decR_err hDD
          have h3b : (n9 == 3) = false := by rw [beq_eq_false_iff_ne]; exact h3
          have h0b : (n9 == 0) = false := by rw [beq_eq_false_iff_ne]; omega
          have h0c : (n9 != 0) = true := by rw [bne_iff_ne]; omega
          refine hdec.mono ?_
          rintro e w2 ⟨hb2, hcase⟩
          obtain ⟨y, p', hxp, _⟩ | ⟨n8, hxp, rfl⟩ := hcase
          · cases hxp
          obtain rfl : n9 = n8 := by cases hxp; rfl
          have hb3 : Below w1.heap.size w1 (w2.alloc (.cells #[.int .i64 0, .int .i64 0, .int .i64 0] 34)) := hb2.alloc hb2.size _
          have HO3 := Lib.hid (HO1.out.trans (OvC.of_below hb3))
          have f3 := three_cellsC (heap_alloc_new w2 (.cells #[.int .i64 0, .int .i64 0, .int .i64 0] 34))
          have HM3 := Lib.hid (HM1.out.keep (hb3.block M1 HM1.out.lt))
          have HZ3 := Lib.hid (HZ1.out.keep (fun j hj => hb3.block j (World.ownsRow.lt HZ1.out j hj).2))
          clear hdec hxp hb2 hb3 h3 h4 hDD HM1 HZ1 HO1 HO1'
          unfold insV
          go_wp2_with fail
          refine (show Calls Tryd.prog 28 #[.agg #[.int .i64 0, .int .i64 0, .int .i64 0]] _ _ from blockSize_any (k := 0) (by decide) 0 0 _).mono ?_
          rintro e w5 ⟨rfl, hb5⟩
          have hz5 : blkR ((0 : Nat) : Int) 0 = 0 := by decide
          rw [hz5]
          have HO5 := Lib.hid (HO3.out.trans (OvC.of_below hb5))
          have HM5 := Lib.hid (HM3.out.keep (hb5.block M1 HM3.out.lt))
          have HZ5 := Lib.hid (HZ3.out.keep (fun j hj => hb5.block j (World.ownsRow.lt HZ3.out j hj).2))
          clear hb5 f3 HO3 HM3 HZ3
          go_wp2_with fail
          go_loopw [83] (fun v83 wx => ∃ (j : Nat), j ≤ gs.length ∧ v83 = .int .i64 (j : Int) ∧ w5 = wx) (fun v83 _ => gs.length - (intOf v83).toNat)
          case atStart => exact ⟨0, Nat.zero_le _, rfl, rfl⟩
          case round =>
            obtain ⟨j, hj, rfl, rfl⟩ := hrel
            by_cases hjl : j < gs.length
            · obtain ⟨g, rfl, hcell⟩ := ownZ_at HZ5.out hjl
              have hgb := HG.out gs[j] (List.getElem_mem hjl)
              have hin := isIn_any (HC.out _ HO5.out) HM5.out gs[j] (f0 : Int) (by omega) (by omega)
              obtain ⟨gj, hgj⟩ : ∃ gj, gs[j] = gj := ⟨_, rfl⟩
              rw [hgj] at hcell hin
              clear hgj hgb
              go_wp2_with fail
              refine hin.mono ?_
              rintro e w7 ⟨r3, rfl, -, rfl⟩
              clear hin hcell
              cases r3
              · go_wp2_with (go_at_call 19; refine (hgu _).mono ?_; rintro e w7 ⟨rfl, rfl⟩)
                exact ⟨rfl, .inl ⟨⟨3, by decide, rfl⟩, HO5.out⟩⟩
              · go_wp2_with fail
                go_roundw
                case rel => exact ⟨j + 1, hjl, rfl, trivial⟩
                case measure => simp [intOf]; omega
            · go_wp2_with fail
              go_ret
              exact .inr ⟨false, n + 1, _, rfl, HO5.out, HM5.out, HI1.out, by omega, fun h => by cases h⟩
    · obtain rfl : q = t0 := by omega
      go_wp2_with fail
      go_loopw [83] (fun v83 wx => ∃ (j : Nat), j ≤ gs.length ∧ v83 = .int .i64 (j : Int) ∧ wr = wx) (fun v83 _ => gs.length - (intOf v83).toNat)
      case atStart => exact ⟨0, Nat.zero_le _, rfl, rfl⟩
      case round =>
        obtain ⟨j, hj, rfl, rfl⟩ := hrel
        by_cases hjl : j < gs.length
        · obtain ⟨g, rfl, hcell⟩ := ownZ_at HZ.out hjl
          have hgb := HG.out gs[j] (List.getElem_mem hjl)
          have hin := isIn_any (HC.out _ HO.out) HM.out gs[j] (f0 : Int) (by omega) (by omega)
          obtain ⟨gj, hgj⟩ : ∃ gj, gs[j] = gj := ⟨_, rfl⟩
          rw [hgj] at hcell hin
          clear hgj hgb
          go_wp2_with fail
          refine hin.mono ?_
          rintro e w7 ⟨r3, rfl, -, rfl⟩
          clear hin hcell
          cases r3
          · go_wp2_with (go_at_call 19; refine (hgu _).mono ?_; rintro e w7 ⟨rfl, rfl⟩)
            exact ⟨rfl, .inl ⟨⟨3, by decide, rfl⟩, HO.out⟩⟩
          · go_wp2_with fail
            go_roundw
            case rel => exact ⟨j + 1, hjl, rfl, trivial⟩
            case measure => simp [intOf]; omega
        · go_wp2_with fail
          go_ret
          exact .inr ⟨r, n, D, rfl, HO.out, HM.out, HI.out, by omega, HP.out⟩
end Go.Proofs.YtdfghcbojbbgcaaDoor.Fl

