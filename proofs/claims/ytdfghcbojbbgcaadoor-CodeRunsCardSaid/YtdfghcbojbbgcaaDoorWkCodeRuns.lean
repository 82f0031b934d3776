/-
  CodeRuns' walk.
-/
import Derived.Test.YtdfghcbojbbgcaaDoorCeR
import Derived.Lib.ItoaLen
namespace Go.Proofs.YtdfghcbojbbgcaaDoor.Fl
open Go.RowKit Go.Maps

/-- a place of the walk: its instruction has this depth -/
def GoodP (D : DataW Unit) (ps : List Plc) : Prop := ∀ x ∈ ps, hasK D x.1 ∧ valK D x.1 x.2
structure BoxP (w : World) (J : Nat) (v : Value) (q d : Int) : Prop where
  at_ : w.heap[J]? = some (.cells #[.int .i64 q, .int .i64 d] 31 (0, 0))
  nv : some J ≠ v.ownBlock
theorem BoxP.below {w w' : World} {J : Nat} {v : Value} {q d : Int} (h : BoxP w J v q d) (hb : Below w.heap.size w w') : BoxP w' J v q d :=
  ⟨(hb.block J (lt_of_blkC h.at_)).trans h.at_, h.nv⟩
theorem BoxP.set0 {w : World} {J : Nat} {v : Value} {q d : Int} (h : BoxP w J v q d) (u : Int) : BoxP (w.setCell ⟨J, 0, none⟩ (.int .i64 u)) J v u d := ⟨heap_setCell_same w J 0 _ _ _ h.at_, h.nv⟩
theorem BoxP.set1 {w : World} {J : Nat} {v : Value} {q d : Int} (h : BoxP w J v q d) (u : Int) : BoxP (w.setCell ⟨J, 1, none⟩ (.int .i64 u)) J v q u := ⟨heap_setCell_same w J 1 _ _ _ h.at_, h.nv⟩
theorem OwnP.set {w : World} {base J k : Nat} {v u : Value} {xs : List Plc} (h : OwnP w base v xs) (hn : some J ≠ v.ownBlock) : OwnP (w.setCell ⟨J, k, none⟩ u) base v xs :=
  h.keep (fun j hj => Below.heap_setCell _ _ _ _ (fun e => hn (by rw [hj]; exact congrArg some e.symm)))
theorem ops_cls {op : Int} (h : 0 ≤ op ∧ op < 20) : (0 ≤ op ∧ op ≤ 7) ∨ op = 8 ∨ op = 9 ∨ op = 10 ∨ op = 11 ∨ op = 12 ∨ op = 13 ∨ op = 14 ∨ op = 15 ∨ op = 16 ∨ op = 17 ∨ op = 18 ∨ op = 19 := by omega
theorem tk_plain {op : Int} (h : 0 ≤ op ∧ op ≤ 7) (b : Int) : tkR op b = 0 ∧ puR op = 1 ∧ jmpR op = false ∧ lastR op = false ∧ blkR op b = 0 := by
  obtain rfl | rfl | rfl | rfl | rfl | rfl | rfl | rfl : op = 0 ∨ op = 1 ∨ op = 2 ∨ op = 3 ∨ op = 4 ∨ op = 5 ∨ op = 6 ∨ op = 7 := by omega
  all_goals exact ⟨rfl, rfl, rfl, rfl, rfl⟩
theorem ownB_short {A : Option Addr} {n m c : Nat} : (Value.slice A n c).ownBlock = (Value.slice A m c).ownBlock := by cases A <;> rfl
set_option maxRecDepth 100000 in
set_option maxHeartbeats 16000000 in
theorem walkp_CodeRuns (A : Option Addr) (c : Nat) (ys : List UInt8) (L S F : Int) (At : Option Addr) (ct : Nat) (ts : List Bool) (w : World) (hr : Rd w w.heap.size A (cb ys)) (hc : ys.length ≤ c) (hn : A = none → ys.length = 0) (ht : Rd w w.heap.size At (cbo ts)) (hct : ts.length ≤ ct) (hF : FormsAt w) (haw : ∀ w', Below w.heap.size w w' → Calls Tryd.prog 4 #[] w' fun e w'' => e = .returned (.bool true) ∧ Below w'.heap.size w' w'') :
    Calls Tryd.prog 3 #[.slice A ys.length c, .agg #[.int .i64 L, .int .i64 S, .int .i64 F], .slice At ts.length ct] w fun e w' => e = .returned (.bool true) ∧ Below w.heap.size w w' := by
  have HR := Lib.hid hr
  have HT := Lib.hid ht
  have HF := Lib.hid (fun w' (h : Below w.heap.size w w') => hF.below h)
  have hb0 : Below w.heap.size w (w.alloc (.cells #[.int .i64 L, .int .i64 S, .int .i64 F] 24)) := (Below.refl _ _).alloc (Nat.le_refl _) _
  have haw1 := haw _ hb0
  have HW0 := Lib.hid (heap_alloc_new w (.cells #[.int .i64 L, .int .i64 S, .int .i64 F] 24))
  have HB0 := Lib.hid hb0
  clear hr ht hF haw hb0 hn
  go_enter Tryd.func3, Tryd.ntmps3
  go_wp2_with fail
  refine haw1.mono ?_
  rintro e w1 ⟨rfl, hb1⟩
  have HB1 := Lib.hid (HB0.out.trans (hb1.mono HB0.out.size))
  have hw1 := (hb1.block _ (lt_of_blkC HW0.out)).trans HW0.out
  have f1 := three_cellsC hw1
  have HW1 := Lib.hid hw1
  clear haw1 hb1 HW0 HB0 hw1
  obtain ⟨xs, hxs⟩ : ∃ xs, ys.take 600 = xs := ⟨_, rfl⟩
  have hl0 : xs.length ≤ 600 := by rw [← hxs, List.length_take]; omega
  have HX := Lib.hid (show xs.length = if 600 < ys.length then 600 else ys.length by
    rw [← hxs, List.length_take]; split <;> omega)
  have HQ := Lib.hid (show Rd w w.heap.size A (cb xs) by rw [← hxs]; exact rdB_take2 HR.out 600)
  have hxc : xs.length ≤ c := by rw [← hxs, List.length_take]; omega
  clear hxs HR
  generalize ys.length = len at *
  go_upto_if 23 with fail
  go_cut [0] (fun v wx => (∃ cc, v = .slice A xs.length cc ∧ xs.length ≤ cc) ∧ w1 = wx)
  case first =>
    by_cases hcc : 600 < len
    · have hx2 := HX.out
      rw [if_pos hcc] at hx2
      have hx3 := Lib.hid hx2
      clear hx2
      go_wp2_with fail
      all_goals go_meet
      all_goals exact ⟨⟨c, by rw [hx3.out], hxc⟩, rfl⟩
    · have hx2 := HX.out
      rw [if_neg hcc] at hx2
      have hx3 := Lib.hid hx2
      clear hx2
      go_wp2_with fail
      all_goals go_meet
      all_goals exact ⟨⟨c, by rw [hx3.out], hxc⟩, rfl⟩
  case rest =>
    obtain ⟨⟨cc, rfl, hcc⟩, rfl⟩ := hcut
    clear HX hc hxc
    have f1 := three_cellsC HW1.out
    have hchk := check_any xs (by omega) A cc w.heap.size L S F w1 (HQ.out.below HB1.out (Nat.le_refl _)) HB1.out.size hcc (fun w' h => HF.out _ (HB1.out.trans (h.mono HB1.out.size)))
    go_wp2_with fail
    refine hchk.mono ?_
    rintro e w2 ⟨hb2, m, er, rfl, hok⟩
    have HB2 := Lib.hid (HB1.out.trans (hb2.mono HB1.out.size))
    have HOK := Lib.hid hok
    clear hchk hb2 hok f1 HW1 HB1
    by_cases her : er = 0
    rotate_left 1
    · have heb : (er != 0) = true := by rw [bne_iff_ne]; exact her
      clear her
      go_wp2_with fail
      go_ret
      exact ⟨rfl, HB2.out⟩
    subst her
    obtain ⟨hm0, hm1, D, hD⟩ := HOK.out rfl
    have HD := Lib.hid hD
    have HP3 := Lib.hid (ownP_one w2 w.heap.size HB2.out.size 0 0)
    have HB3 := Lib.hid (HB2.out.alloc HB2.out.size (.cells #[.int .i64 0, .int .i64 0] 31))
    have HG3 := Lib.hid (show GoodP D [(0, 0)] from fun x hx => by obtain rfl := List.mem_singleton.1 hx; exact hD.zero)
    clear HOK hD HB2
    go_wp2_with fail
    generalize w2.alloc (.cells #[.int .i64 0, .int .i64 0] 31) = w3 at *
    go_loopw [9, 10] (fun v9 v10 wr => ∃ (k : Nat) (ps : List Plc) (Aw : Option Addr) (cw : Nat), k ≤ 20 ∧ ps.length ≤ 1 + 300 * k ∧ v9 = .slice Aw ps.length cw ∧ v10 = .int .i64 (k : Int) ∧ Hid (OwnP wr w.heap.size (.slice Aw ps.length cw) ps) ∧ Hid (GoodP D ps) ∧ Hid (Below w.heap.size w wr)) (fun _ v10 _ => 20 - (intOf v10).toNat)
    case atStart => exact ⟨0, [(0, 0)], _, _, by omega, by simp, rfl, rfl, HP3, HG3, HB3⟩
    case round =>
      obtain ⟨k, ps, Aw, cw, hk, hpl, rfl, rfl, HP, HG, HB⟩ := hrel
      clear HP3 HG3 HB3
      rcases List.eq_nil_or_concat ps with rfl | ⟨ps0, ⟨x0, d0⟩, hps⟩
      · go_wp2_with fail
        go_ret
        exact ⟨rfl, HB.out⟩
      rw [List.concat_eq_append] at hps
      subst hps
      by_cases hk20 : k < 20
      rotate_left 1
      · have hk2 : ¬ ((k : Int) < 20) := by omega
        have hpp : (0 : Int) < (ps0.length : Int) + 1 := by omega
        go_wp2_with fail
        go_ret
        exact ⟨rfl, HB.out⟩
      obtain ⟨g, rfl, hgl, y0, y1⟩ := ownP_last HP.out
      have hcap := (ownP_cap HP.out).1
      rw [List.length_append, List.length_singleton] at hcap hpl
      have i0 : (0 : Int) < (ps0.length : Int) + 1 := by omega
      have i1 : (0 : Int) ≤ (ps0.length : Int) := by omega
      have i2 : (ps0.length : Int) ≤ (cw : Int) := by omega
      have HB4 := Lib.hid (HB.out.alloc HB.out.size (.cells #[.int .i64 x0, .int .i64 d0] 31))
      have hal : Below wr.heap.size wr (wr.alloc (.cells #[.int .i64 x0, .int .i64 d0] 31)) := (Below.refl _ _).alloc (Nat.le_refl _) _
      have HP4 := Lib.hid (HP.out.short.below hal)
      have HX4 : Hid (BoxP (wr.alloc (.cells #[.int .i64 x0, .int .i64 d0] 31)) wr.heap.size (.slice (some ⟨g, 0, none⟩) ps0.length cw) x0 d0) := Lib.hid ⟨heap_alloc_new _ _, fun e => by have h1 := (World.ownsRow.lt HP.out.short _ e.symm).2; omega⟩
      have HG4 := Lib.hid (show GoodP D ps0 ∧ hasK D x0 ∧ valK D x0 d0 from ⟨fun x hx => HG.out x (List.mem_append_left _ hx), HG.out _ (List.mem_append_right _ (List.mem_singleton.2 rfl))⟩)
      have hsz0 := HB.out.size
      clear HP HG HB hal
      go_wp2_with fail
      obtain ⟨J, hJ⟩ : ∃ J, wr.heap.size = J := ⟨_, rfl⟩
      have hJB : w.heap.size ≤ J := by rw [← hJ]; exact hsz0
      generalize wr.alloc (.cells #[.int .i64 x0, .int .i64 d0] 31) = w4 at *
      rw [hJ] at HX4 ⊢
      clear hJ y0 y1 hgl hsz0
      go_loopw [9, 12] (fun v9 v12 wi => ∃ (s : Nat) (qs : List Plc) (Aq : Option Addr) (cq : Nat) (x d : Int), s ≤ 300 ∧ qs.length ≤ ps0.length + s ∧ v9 = .slice Aq qs.length cq ∧ v12 = .int .i64 (s : Int) ∧ Hid (OwnP wi w.heap.size (.slice Aq qs.length cq) qs) ∧ Hid (BoxP wi J (.slice Aq qs.length cq) x d) ∧ Hid (GoodP D qs ∧ hasK D x ∧ valK D x d) ∧ Hid (Below w.heap.size w wi)) (fun _ v12 _ => 300 - (intOf v12).toNat)
      case atStart => exact ⟨0, ps0, _, _, x0, d0, by omega, by omega, rfl, rfl, HP4, HX4, HG4, HB4⟩
      case round =>
        obtain ⟨s, qs, Aq, cq, x, d, hs, hql, rfl, rfl, HP5, HX5, HG5, HB5⟩ := hrel
        clear HP4 HX4 HG4 HB4
        by_cases hs3 : s < 300
        rotate_left 1
        · obtain rfl : s = 300 := by omega
          go_wp2_with fail
          go_roundw
          case rel => exact ⟨k + 1, qs, Aq, cq, by omega, by omega, rfl, rfl, HP5, Lib.hid HG5.out.1, HB5⟩
          case measure => simp [intOf]; omega
        obtain ⟨d', hv', op, a, b, p, hdec0, htk, h17, hjm, hls⟩ := HD.out.closed x HG5.out.2.1
        obtain rfl : d = d' := valK_fun HG5.out.2.2 hv'
        obtain ⟨q, rfl, hqp, hpl2, hi, -⟩ := enc_dec hdec0
        replace hi : isI op a b = true := hi
        obtain ⟨⟨a0, a1⟩, b0, b1⟩ := isI_bd hi
        have hb9 := isI_b hi
        have hop : 0 ≤ op ∧ op < 20 := by obtain ⟨k2, h1, h2⟩ := isI_op hi; omega
        have hbd := HD.out.bd _ _ HG5.out.2.1 HG5.out.2.2
        have hdec := decode_any xs (q : Int) A cc w.heap.size wr (HQ.out.below HB5.out (Nat.le_refl _)) HB5.out.size hcc (by omega) (HF.out _ HB5.out)
        rw [hdec0] at hdec
        have HCL := Lib.hid (And.intro h17 (And.intro hjm hls))
        have HTK := Lib.hid htk
        have HDB := Lib.hid HD.out.bd
        have fJ := two_cellsC HX5.out.at_
        obtain ⟨n9, hn9⟩ : ∃ n9 : Nat, s + k = n9 := ⟨_, rfl⟩
        have hsk : (s : Int) + (k : Int) = (n9 : Int) := by omega
        have hn9b : n9 ≤ 400 := by omega
        clear hn9 h17 hjm hls hv' hdec0 hi htk
        have hs3i : (s : Int) < 300 := by omega
        go_wp2_with fail
        refine hdec.mono ?_
        rintro e w6 ⟨hb6, hcase⟩
        obtain ⟨y, p', hxp, rfl⟩ | ⟨n8, hxp, _⟩ := hcase
        rotate_left 1
        · cases hxp
        obtain ⟨rfl, rfl⟩ : y = (op, a, b) ∧ p = p' := by cases hxp; exact ⟨rfl, rfl⟩
        have hb7 : Below wr.heap.size wr (w6.alloc (.cells #[.int .i64 op, .int .i64 a, .int .i64 b] 34)) := hb6.alloc hb6.size _
        have HB7 := Lib.hid (HB5.out.trans (hb7.mono HB5.out.size))
        have HP7 := Lib.hid (HP5.out.below hb7)
        have HX7 := Lib.hid (HX5.out.below hb7)
        have HI7 := Lib.hid (heap_alloc_new w6 (.cells #[.int .i64 op, .int .i64 a, .int .i64 b] 34))
        have hIJ : w6.heap.size ≠ J := by have h1 := lt_of_blkC HX5.out.at_; have h2 := hb6.size; omega
        have hInv : some w6.heap.size ≠ (Value.slice Aq qs.length cq).ownBlock := fun e => by have h1 := (World.ownsRow.lt HP5.out _ e.symm).2; have h2 := hb6.size; omega
        have fI := three_cellsC HI7.out
        have fJ7 := two_cellsC HX7.out.at_
        clear hdec hxp hb6 hb7 fJ HB5 HP5 HX5
        unfold insV
        go_upto_region 18 with fail
        generalize hIe : w6.heap.size = I at *
        generalize w6.alloc (.cells #[.int .i64 op, .int .i64 a, .int .i64 b] 34) = w7 at *
        clear hIe
        have HNV := Lib.hid hInv
        clear hInv
        have hJI := hIJ.symm
        have lJ := lt_of_blkC HX7.out.at_
        have lI := lt_of_blkC HI7.out
        have htv : ts.length = 0 ∨ ∃ g2 of2 tv, At = some ⟨g2, of2, none⟩ ∧ (0 : Int) < (ts.length : Int) ∧ (1 : Int) ≤ (ts.length : Int) ∧ Hid (∀ w', Below w.heap.size w w' → w'.cell? ⟨g2, of2 + n9 % ts.length, none⟩ = some (.bool tv)) := by
          rcases Nat.eq_zero_or_pos ts.length with h | h
          · exact .inl h
          · obtain ⟨g2, of2, hA, hg, hc⟩ := cbo_at HT.out (Nat.mod_lt n9 h)
            exact .inr ⟨g2, of2, _, hA, by omega, by omega, Lib.hid (fun w' hb => (hb.cell (p := ⟨g2, of2 + n9 % ts.length, none⟩) hg).trans hc)⟩
        rcases ops_cls hop with hpl3 | rfl | rfl | rfl | rfl | rfl | rfl | rfl | rfl | rfl | rfl | rfl | rfl
        · as_aux_lemma =>
          have e8 : (op == 8) = false := by rw [beq_eq_false_iff_ne]; omega
          have e9 : (op == 9) = false := by rw [beq_eq_false_iff_ne]; omega
          have e10 : (op == 10) = false := by rw [beq_eq_false_iff_ne]; omega
          have e11 : (op == 11) = false := by rw [beq_eq_false_iff_ne]; omega
          have e12 : (op == 12) = false := by rw [beq_eq_false_iff_ne]; omega
          have e13 : (op == 13) = false := by rw [beq_eq_false_iff_ne]; omega
          have e14 : (op == 14) = false := by rw [beq_eq_false_iff_ne]; omega
          have e15 : (op == 15) = false := by rw [beq_eq_false_iff_ne]; omega
          have e16 : (op == 16) = false := by rw [beq_eq_false_iff_ne]; omega
          have e17 : (op == 17) = false := by rw [beq_eq_false_iff_ne]; omega
          have e18 : (op == 18) = false := by rw [beq_eq_false_iff_ne]; omega
          have e19 : (op == 19) = false := by rw [beq_eq_false_iff_ne]; omega
          obtain ⟨t1, t2, t3, t4, t5⟩ := tk_plain hpl3 b
          have HTP := Lib.hid (And.intro t1 (And.intro t2 (And.intro t3 (And.intro t4 t5))))
          clear t1 t2 t3 t4 t5 hpl3
          have htk : 0 ≤ d := by have h1 := HTK.out; rw [HTP.out.1] at h1; omega
          have hd2 : d + (1 - 0) ≤ m := by
            have h1 := HCL.out.2.2 HTP.out.2.2.2.1; rw [HTP.out.1, HTP.out.2.1] at h1; have h2 := HDB.out _ _ h1.1 h1.2; omega
          have hd3 : 0 ≤ d + (1 - 0) := by omega
          go_upto_region 41 with fail
          have HX8 := Lib.hid (HX7.out.set1 (d + 1))
          have HP8 := Lib.hid (HP7.out.set (k := 1) (u := .int .i64 (d + 1)) HX7.out.nv)
          have HI8 := Lib.hid ((Below.heap_setCell w7 ⟨J, 1, none⟩ (.int .i64 (d + 1)) I hIJ).trans HI7.out)
          have HB8 := Lib.hid (HB7.out.setCell (p := ⟨J, 1, none⟩) hJB (.int .i64 (d + 1)))
          generalize w7.setCell ⟨J, 1, none⟩ (.int .i64 (d + 1)) = w8 at *
          clear HX7 HP7 HI7 HB7 fI fJ7 lJ lI
          have lJ := lt_of_blkC HX8.out.at_
          have lI := lt_of_blkC HI8.out
          have fI := three_cellsC HI8.out
          have fJ8 := two_cellsC HX8.out.at_
          have hmd : ¬ (m < d + 1) := by omega
          rcases htv with htv | ⟨g2, of2, tv, rfl, j1, j2, HTv⟩
          · have htn : ¬ ((0 : Int) < (ts.length : Int)) := by omega
            clear htv
            go_wp2_with fail
            have HG9 := Lib.hid (show GoodP D qs ∧ hasK D ((p : Int)) ∧ valK D ((p : Int)) (d + 1) from ⟨HG5.out.1, by have h1 := HCL.out.2.2 HTP.out.2.2.2.1; rw [HTP.out.1, HTP.out.2.1, HTP.out.2.2.2.2] at h1; have e1 : (p : Int) + 0 = (p : Int) := (by omega); have e2 : d + (1 - 0) = d + 1 := (by omega); rw [e1, e2] at h1; exact h1⟩)
            have HX10 := Lib.hid (HX8.out.set0 ((p : Int)))
            have HP10 := Lib.hid (HP8.out.set (k := 0) (u := .int .i64 ((p : Int))) HX8.out.nv)
            have HB10 := Lib.hid (HB8.out.setCell (p := ⟨J, 0, none⟩) hJB (.int .i64 ((p : Int))))
            go_roundw
            case rel => exact ⟨s + 1, qs, Aq, cq, _, _, by omega, by omega, rfl, rfl, HP10, HX10, HG9, HB10⟩
            case measure => simp [intOf]; omega
          · have hte : ((ts.length : Int) == 0) = false := by rw [beq_eq_false_iff_ne]; omega
            have j3 : (0 : Int) ≤ (n9 : Int) := by omega
            have j4 : n9 % ts.length < ts.length := Nat.mod_lt _ (by omega)
            have j5 : (n9 : Int) ≤ 400 := by omega
            cases tv
            · have hcv := HTv.out _ HB8.out
              go_wp2_with fail
              have HG9 := Lib.hid (show GoodP D qs ∧ hasK D ((p : Int)) ∧ valK D ((p : Int)) (d + 1) from ⟨HG5.out.1, by have h1 := HCL.out.2.2 HTP.out.2.2.2.1; rw [HTP.out.1, HTP.out.2.1, HTP.out.2.2.2.2] at h1; have e1 : (p : Int) + 0 = (p : Int) := (by omega); have e2 : d + (1 - 0) = d + 1 := (by omega); rw [e1, e2] at h1; exact h1⟩)
              have HX10 := Lib.hid (HX8.out.set0 ((p : Int)))
              have HP10 := Lib.hid (HP8.out.set (k := 0) (u := .int .i64 ((p : Int))) HX8.out.nv)
              have HB10 := Lib.hid (HB8.out.setCell (p := ⟨J, 0, none⟩) hJB (.int .i64 ((p : Int))))
              go_roundw
              case rel => exact ⟨s + 1, qs, Aq, cq, _, _, by omega, by omega, rfl, rfl, HP10, HX10, HG9, HB10⟩
              case measure => simp [intOf]; omega
            · have hcv := HTv.out _ HB8.out
              go_wp2_with fail
              have HG9 := Lib.hid (show GoodP D qs ∧ hasK D ((p : Int)) ∧ valK D ((p : Int)) (d + 1) from ⟨HG5.out.1, by have h1 := HCL.out.2.2 HTP.out.2.2.2.1; rw [HTP.out.1, HTP.out.2.1, HTP.out.2.2.2.2] at h1; have e1 : (p : Int) + 0 = (p : Int) := (by omega); have e2 : d + (1 - 0) = d + 1 := (by omega); rw [e1, e2] at h1; exact h1⟩)
              have HX10 := Lib.hid (HX8.out.set0 ((p : Int)))
              have HP10 := Lib.hid (HP8.out.set (k := 0) (u := .int .i64 ((p : Int))) HX8.out.nv)
              have HB10 := Lib.hid (HB8.out.setCell (p := ⟨J, 0, none⟩) hJB (.int .i64 ((p : Int))))
              go_roundw
              case rel => exact ⟨s + 1, qs, Aq, cq, _, _, by omega, by omega, rfl, rfl, HP10, HX10, HG9, HB10⟩
              case measure => simp [intOf]; omega
        · as_aux_lemma =>
          have HTP := Lib.hid (show tkR 8 b = 1 ∧ puR 8 = 1 ∧ jmpR 8 = false ∧ lastR 8 = false ∧ blkR 8 b = 0 from ⟨rfl, rfl, rfl, rfl, rfl⟩)
          have htk : 1 ≤ d := by have h1 := HTK.out; rw [HTP.out.1] at h1; omega
          have hd2 : d + (1 - 1) ≤ m := by
            have h1 := HCL.out.2.2 HTP.out.2.2.2.1; rw [HTP.out.1, HTP.out.2.1] at h1; have h2 := HDB.out _ _ h1.1 h1.2; omega
          have hd3 : 0 ≤ d + (1 - 1) := by omega
          go_upto_region 41 with fail
          have HX8 := Lib.hid (HX7.out.set1 (d))
          have HP8 := Lib.hid (HP7.out.set (k := 1) (u := .int .i64 (d)) HX7.out.nv)
          have HI8 := Lib.hid ((Below.heap_setCell w7 ⟨J, 1, none⟩ (.int .i64 (d)) I hIJ).trans HI7.out)
          have HB8 := Lib.hid (HB7.out.setCell (p := ⟨J, 1, none⟩) hJB (.int .i64 (d)))
          generalize w7.setCell ⟨J, 1, none⟩ (.int .i64 (d)) = w8 at *
          clear HX7 HP7 HI7 HB7 fI fJ7 lJ lI
          have lJ := lt_of_blkC HX8.out.at_
          have lI := lt_of_blkC HI8.out
          have fI := three_cellsC HI8.out
          have fJ8 := two_cellsC HX8.out.at_
          have hmd : ¬ (m < d) := by omega
          rcases htv with htv | ⟨g2, of2, tv, rfl, j1, j2, HTv⟩
          · have htn : ¬ ((0 : Int) < (ts.length : Int)) := by omega
            clear htv
            go_wp2_with fail
            have HG9 := Lib.hid (show GoodP D qs ∧ hasK D ((p : Int)) ∧ valK D ((p : Int)) (d) from ⟨HG5.out.1, by have h1 := HCL.out.2.2 HTP.out.2.2.2.1; rw [HTP.out.1, HTP.out.2.1, HTP.out.2.2.2.2] at h1; have e1 : (p : Int) + 0 = (p : Int) := (by omega); have e2 : d + (1 - 1) = d := (by omega); rw [e1, e2] at h1; exact h1⟩)
            have HX10 := Lib.hid (HX8.out.set0 ((p : Int)))
            have HP10 := Lib.hid (HP8.out.set (k := 0) (u := .int .i64 ((p : Int))) HX8.out.nv)
            have HB10 := Lib.hid (HB8.out.setCell (p := ⟨J, 0, none⟩) hJB (.int .i64 ((p : Int))))
            go_roundw
            case rel => exact ⟨s + 1, qs, Aq, cq, _, _, by omega, by omega, rfl, rfl, HP10, HX10, HG9, HB10⟩
            case measure => simp [intOf]; omega
          · have hte : ((ts.length : Int) == 0) = false := by rw [beq_eq_false_iff_ne]; omega
            have j3 : (0 : Int) ≤ (n9 : Int) := by omega
            have j4 : n9 % ts.length < ts.length := Nat.mod_lt _ (by omega)
            have j5 : (n9 : Int) ≤ 400 := by omega
            cases tv
            · have hcv := HTv.out _ HB8.out
              go_wp2_with fail
              have HG9 := Lib.hid (show GoodP D qs ∧ hasK D ((p : Int)) ∧ valK D ((p : Int)) (d) from ⟨HG5.out.1, by have h1 := HCL.out.2.2 HTP.out.2.2.2.1; rw [HTP.out.1, HTP.out.2.1, HTP.out.2.2.2.2] at h1; have e1 : (p : Int) + 0 = (p : Int) := (by omega); have e2 : d + (1 - 1) = d := (by omega); rw [e1, e2] at h1; exact h1⟩)
              have HX10 := Lib.hid (HX8.out.set0 ((p : Int)))
              have HP10 := Lib.hid (HP8.out.set (k := 0) (u := .int .i64 ((p : Int))) HX8.out.nv)
              have HB10 := Lib.hid (HB8.out.setCell (p := ⟨J, 0, none⟩) hJB (.int .i64 ((p : Int))))
              go_roundw
              case rel => exact ⟨s + 1, qs, Aq, cq, _, _, by omega, by omega, rfl, rfl, HP10, HX10, HG9, HB10⟩
              case measure => simp [intOf]; omega
            · have hcv := HTv.out _ HB8.out
              go_wp2_with fail
              have HG9 := Lib.hid (show GoodP D qs ∧ hasK D ((p : Int)) ∧ valK D ((p : Int)) (d) from ⟨HG5.out.1, by have h1 := HCL.out.2.2 HTP.out.2.2.2.1; rw [HTP.out.1, HTP.out.2.1, HTP.out.2.2.2.2] at h1; have e1 : (p : Int) + 0 = (p : Int) := (by omega); have e2 : d + (1 - 1) = d := (by omega); rw [e1, e2] at h1; exact h1⟩)
              have HX10 := Lib.hid (HX8.out.set0 ((p : Int)))
              have HP10 := Lib.hid (HP8.out.set (k := 0) (u := .int .i64 ((p : Int))) HX8.out.nv)
              have HB10 := Lib.hid (HB8.out.setCell (p := ⟨J, 0, none⟩) hJB (.int .i64 ((p : Int))))
              go_roundw
              case rel => exact ⟨s + 1, qs, Aq, cq, _, _, by omega, by omega, rfl, rfl, HP10, HX10, HG9, HB10⟩
              case measure => simp [intOf]; omega
        · as_aux_lemma =>
          have HTP := Lib.hid (show tkR 9 b = 1 ∧ puR 9 = 1 ∧ jmpR 9 = false ∧ lastR 9 = false ∧ blkR 9 b = 0 from ⟨rfl, rfl, rfl, rfl, rfl⟩)
          have htk : 1 ≤ d := by have h1 := HTK.out; rw [HTP.out.1] at h1; omega
          have hd2 : d + (1 - 1) ≤ m := by
            have h1 := HCL.out.2.2 HTP.out.2.2.2.1; rw [HTP.out.1, HTP.out.2.1] at h1; have h2 := HDB.out _ _ h1.1 h1.2; omega
          have hd3 : 0 ≤ d + (1 - 1) := by omega
          go_upto_region 41 with fail
          have HX8 := Lib.hid (HX7.out.set1 (d))
          have HP8 := Lib.hid (HP7.out.set (k := 1) (u := .int .i64 (d)) HX7.out.nv)
          have HI8 := Lib.hid ((Below.heap_setCell w7 ⟨J, 1, none⟩ (.int .i64 (d)) I hIJ).trans HI7.out)
          have HB8 := Lib.hid (HB7.out.setCell (p := ⟨J, 1, none⟩) hJB (.int .i64 (d)))
          generalize w7.setCell ⟨J, 1, none⟩ (.int .i64 (d)) = w8 at *
          clear HX7 HP7 HI7 HB7 fI fJ7 lJ lI
          have lJ := lt_of_blkC HX8.out.at_
          have lI := lt_of_blkC HI8.out
          have fI := three_cellsC HI8.out
          have fJ8 := two_cellsC HX8.out.at_
          have hmd : ¬ (m < d) := by omega
          rcases htv with htv | ⟨g2, of2, tv, rfl, j1, j2, HTv⟩
          · have htn : ¬ ((0 : Int) < (ts.length : Int)) := by omega
            clear htv
            go_wp2_with fail
            have HG9 := Lib.hid (show GoodP D qs ∧ hasK D ((p : Int)) ∧ valK D ((p : Int)) (d) from ⟨HG5.out.1, by have h1 := HCL.out.2.2 HTP.out.2.2.2.1; rw [HTP.out.1, HTP.out.2.1, HTP.out.2.2.2.2] at h1; have e1 : (p : Int) + 0 = (p : Int) := (by omega); have e2 : d + (1 - 1) = d := (by omega); rw [e1, e2] at h1; exact h1⟩)
            have HX10 := Lib.hid (HX8.out.set0 ((p : Int)))
            have HP10 := Lib.hid (HP8.out.set (k := 0) (u := .int .i64 ((p : Int))) HX8.out.nv)
            have HB10 := Lib.hid (HB8.out.setCell (p := ⟨J, 0, none⟩) hJB (.int .i64 ((p : Int))))
            go_roundw
            case rel => exact ⟨s + 1, qs, Aq, cq, _, _, by omega, by omega, rfl, rfl, HP10, HX10, HG9, HB10⟩
            case measure => simp [intOf]; omega
          · have hte : ((ts.length : Int) == 0) = false := by rw [beq_eq_false_iff_ne]; omega
            have j3 : (0 : Int) ≤ (n9 : Int) := by omega
            have j4 : n9 % ts.length < ts.length := Nat.mod_lt _ (by omega)
            have j5 : (n9 : Int) ≤ 400 := by omega
            cases tv
            · have hcv := HTv.out _ HB8.out
              go_wp2_with fail
              have HG9 := Lib.hid (show GoodP D qs ∧ hasK D ((p : Int)) ∧ valK D ((p : Int)) (d) from ⟨HG5.out.1, by have h1 := HCL.out.2.2 HTP.out.2.2.2.1; rw [HTP.out.1, HTP.out.2.1, HTP.out.2.2.2.2] at h1; have e1 : (p : Int) + 0 = (p : Int) := (by omega); have e2 : d + (1 - 1) = d := (by omega); rw [e1, e2] at h1; exact h1⟩)
              have HX10 := Lib.hid (HX8.out.set0 ((p : Int)))
              have HP10 := Lib.hid (HP8.out.set (k := 0) (u := .int .i64 ((p : Int))) HX8.out.nv)
              have HB10 := Lib.hid (HB8.out.setCell (p := ⟨J, 0, none⟩) hJB (.int .i64 ((p : Int))))
              go_roundw
              case rel => exact ⟨s + 1, qs, Aq, cq, _, _, by omega, by omega, rfl, rfl, HP10, HX10, HG9, HB10⟩
              case measure => simp [intOf]; omega
            · have hcv := HTv.out _ HB8.out
              go_wp2_with fail
              have HG9 := Lib.hid (show GoodP D qs ∧ hasK D ((p : Int)) ∧ valK D ((p : Int)) (d) from ⟨HG5.out.1, by have h1 := HCL.out.2.2 HTP.out.2.2.2.1; rw [HTP.out.1, HTP.out.2.1, HTP.out.2.2.2.2] at h1; have e1 : (p : Int) + 0 = (p : Int) := (by omega); have e2 : d + (1 - 1) = d := (by omega); rw [e1, e2] at h1; exact h1⟩)
              have HX10 := Lib.hid (HX8.out.set0 ((p : Int)))
              have HP10 := Lib.hid (HP8.out.set (k := 0) (u := .int .i64 ((p : Int))) HX8.out.nv)
              have HB10 := Lib.hid (HB8.out.setCell (p := ⟨J, 0, none⟩) hJB (.int .i64 ((p : Int))))
              go_roundw
              case rel => exact ⟨s + 1, qs, Aq, cq, _, _, by omega, by omega, rfl, rfl, HP10, HX10, HG9, HB10⟩
              case measure => simp [intOf]; omega
        · as_aux_lemma =>
          have HTP := Lib.hid (show tkR 10 b = 1 ∧ puR 10 = 0 ∧ jmpR 10 = false ∧ lastR 10 = false ∧ blkR 10 b = 0 from ⟨rfl, rfl, rfl, rfl, rfl⟩)
          have htk : 1 ≤ d := by have h1 := HTK.out; rw [HTP.out.1] at h1; omega
          have hd2 : d + (0 - 1) ≤ m := by
            have h1 := HCL.out.2.2 HTP.out.2.2.2.1; rw [HTP.out.1, HTP.out.2.1] at h1; have h2 := HDB.out _ _ h1.1 h1.2; omega
          have hd3 : 0 ≤ d + (0 - 1) := by omega
          go_upto_region 41 with fail
          have HX8 := Lib.hid (HX7.out.set1 (d + -1))
          have HP8 := Lib.hid (HP7.out.set (k := 1) (u := .int .i64 (d + -1)) HX7.out.nv)
          have HI8 := Lib.hid ((Below.heap_setCell w7 ⟨J, 1, none⟩ (.int .i64 (d + -1)) I hIJ).trans HI7.out)
          have HB8 := Lib.hid (HB7.out.setCell (p := ⟨J, 1, none⟩) hJB (.int .i64 (d + -1)))
          generalize w7.setCell ⟨J, 1, none⟩ (.int .i64 (d + -1)) = w8 at *
          clear HX7 HP7 HI7 HB7 fI fJ7 lJ lI
          have lJ := lt_of_blkC HX8.out.at_
          have lI := lt_of_blkC HI8.out
          have fI := three_cellsC HI8.out
          have fJ8 := two_cellsC HX8.out.at_
          have hmd : ¬ (m < d + -1) := by omega
          rcases htv with htv | ⟨g2, of2, tv, rfl, j1, j2, HTv⟩
          · have htn : ¬ ((0 : Int) < (ts.length : Int)) := by omega
            clear htv
            go_wp2_with fail
            have HG9 := Lib.hid (show GoodP D qs ∧ hasK D ((p : Int)) ∧ valK D ((p : Int)) (d + -1) from ⟨HG5.out.1, by have h1 := HCL.out.2.2 HTP.out.2.2.2.1; rw [HTP.out.1, HTP.out.2.1, HTP.out.2.2.2.2] at h1; have e1 : (p : Int) + 0 = (p : Int) := (by omega); have e2 : d + (0 - 1) = d + -1 := (by omega); rw [e1, e2] at h1; exact h1⟩)
            have HX10 := Lib.hid (HX8.out.set0 ((p : Int)))
            have HP10 := Lib.hid (HP8.out.set (k := 0) (u := .int .i64 ((p : Int))) HX8.out.nv)
            have HB10 := Lib.hid (HB8.out.setCell (p := ⟨J, 0, none⟩) hJB (.int .i64 ((p : Int))))
            go_roundw
            case rel => exact ⟨s + 1, qs, Aq, cq, _, _, by omega, by omega, rfl, rfl, HP10, HX10, HG9, HB10⟩
            case measure => simp [intOf]; omega
          · have hte : ((ts.length : Int) == 0) = false := by rw [beq_eq_false_iff_ne]; omega
            have j3 : (0 : Int) ≤ (n9 : Int) := by omega
            have j4 : n9 % ts.length < ts.length := Nat.mod_lt _ (by omega)
            have j5 : (n9 : Int) ≤ 400 := by omega
            cases tv
            · have hcv := HTv.out _ HB8.out
              go_wp2_with fail
              have HG9 := Lib.hid (show GoodP D qs ∧ hasK D ((p : Int)) ∧ valK D ((p : Int)) (d + -1) from ⟨HG5.out.1, by have h1 := HCL.out.2.2 HTP.out.2.2.2.1; rw [HTP.out.1, HTP.out.2.1, HTP.out.2.2.2.2] at h1; have e1 : (p : Int) + 0 = (p : Int) := (by omega); have e2 : d + (0 - 1) = d + -1 := (by omega); rw [e1, e2] at h1; exact h1⟩)
              have HX10 := Lib.hid (HX8.out.set0 ((p : Int)))
              have HP10 := Lib.hid (HP8.out.set (k := 0) (u := .int .i64 ((p : Int))) HX8.out.nv)
              have HB10 := Lib.hid (HB8.out.setCell (p := ⟨J, 0, none⟩) hJB (.int .i64 ((p : Int))))
              go_roundw
              case rel => exact ⟨s + 1, qs, Aq, cq, _, _, by omega, by omega, rfl, rfl, HP10, HX10, HG9, HB10⟩
              case measure => simp [intOf]; omega
            · have hcv := HTv.out _ HB8.out
              go_wp2_with fail
              have HG9 := Lib.hid (show GoodP D qs ∧ hasK D ((p : Int)) ∧ valK D ((p : Int)) (d + -1) from ⟨HG5.out.1, by have h1 := HCL.out.2.2 HTP.out.2.2.2.1; rw [HTP.out.1, HTP.out.2.1, HTP.out.2.2.2.2] at h1; have e1 : (p : Int) + 0 = (p : Int) := (by omega); have e2 : d + (0 - 1) = d + -1 := (by omega); rw [e1, e2] at h1; exact h1⟩)
              have HX10 := Lib.hid (HX8.out.set0 ((p : Int)))
              have HP10 := Lib.hid (HP8.out.set (k := 0) (u := .int .i64 ((p : Int))) HX8.out.nv)
              have HB10 := Lib.hid (HB8.out.setCell (p := ⟨J, 0, none⟩) hJB (.int .i64 ((p : Int))))
              go_roundw
              case rel => exact ⟨s + 1, qs, Aq, cq, _, _, by omega, by omega, rfl, rfl, HP10, HX10, HG9, HB10⟩
              case measure => simp [intOf]; omega
        · as_aux_lemma =>
          have HTP := Lib.hid (show tkR 11 b = 1 ∧ puR 11 = 2 ∧ jmpR 11 = false ∧ lastR 11 = false ∧ blkR 11 b = 0 from ⟨rfl, rfl, rfl, rfl, rfl⟩)
          have htk : 1 ≤ d := by have h1 := HTK.out; rw [HTP.out.1] at h1; omega
          have hd2 : d + (2 - 1) ≤ m := by
            have h1 := HCL.out.2.2 HTP.out.2.2.2.1; rw [HTP.out.1, HTP.out.2.1] at h1; have h2 := HDB.out _ _ h1.1 h1.2; omega
          have hd3 : 0 ≤ d + (2 - 1) := by omega
          go_upto_region 41 with fail
          have HX8 := Lib.hid (HX7.out.set1 (d + 1))
          have HP8 := Lib.hid (HP7.out.set (k := 1) (u := .int .i64 (d + 1)) HX7.out.nv)
          have HI8 := Lib.hid ((Below.heap_setCell w7 ⟨J, 1, none⟩ (.int .i64 (d + 1)) I hIJ).trans HI7.out)
          have HB8 := Lib.hid (HB7.out.setCell (p := ⟨J, 1, none⟩) hJB (.int .i64 (d + 1)))
          generalize w7.setCell ⟨J, 1, none⟩ (.int .i64 (d + 1)) = w8 at *
          clear HX7 HP7 HI7 HB7 fI fJ7 lJ lI
          have lJ := lt_of_blkC HX8.out.at_
          have lI := lt_of_blkC HI8.out
          have fI := three_cellsC HI8.out
          have fJ8 := two_cellsC HX8.out.at_
          have hmd : ¬ (m < d + 1) := by omega
          rcases htv with htv | ⟨g2, of2, tv, rfl, j1, j2, HTv⟩
          · have htn : ¬ ((0 : Int) < (ts.length : Int)) := by omega
            clear htv
            go_wp2_with fail
            have HG9 := Lib.hid (show GoodP D qs ∧ hasK D ((p : Int)) ∧ valK D ((p : Int)) (d + 1) from ⟨HG5.out.1, by have h1 := HCL.out.2.2 HTP.out.2.2.2.1; rw [HTP.out.1, HTP.out.2.1, HTP.out.2.2.2.2] at h1; have e1 : (p : Int) + 0 = (p : Int) := (by omega); have e2 : d + (2 - 1) = d + 1 := (by omega); rw [e1, e2] at h1; exact h1⟩)
            have HX10 := Lib.hid (HX8.out.set0 ((p : Int)))
            have HP10 := Lib.hid (HP8.out.set (k := 0) (u := .int .i64 ((p : Int))) HX8.out.nv)
            have HB10 := Lib.hid (HB8.out.setCell (p := ⟨J, 0, none⟩) hJB (.int .i64 ((p : Int))))
            go_roundw
            case rel => exact ⟨s + 1, qs, Aq, cq, _, _, by omega, by omega, rfl, rfl, HP10, HX10, HG9, HB10⟩
            case measure => simp [intOf]; omega
          · have hte : ((ts.length : Int) == 0) = false := by rw [beq_eq_false_iff_ne]; omega
            have j3 : (0 : Int) ≤ (n9 : Int) := by omega
            have j4 : n9 % ts.length < ts.length := Nat.mod_lt _ (by omega)
            have j5 : (n9 : Int) ≤ 400 := by omega
            cases tv
            · have hcv := HTv.out _ HB8.out
              go_wp2_with fail
              have HG9 := Lib.hid (show GoodP D qs ∧ hasK D ((p : Int)) ∧ valK D ((p : Int)) (d + 1) from ⟨HG5.out.1, by have h1 := HCL.out.2.2 HTP.out.2.2.2.1; rw [HTP.out.1, HTP.out.2.1, HTP.out.2.2.2.2] at h1; have e1 : (p : Int) + 0 = (p : Int) := (by omega); have e2 : d + (2 - 1) = d + 1 := (by omega); rw [e1, e2] at h1; exact h1⟩)
              have HX10 := Lib.hid (HX8.out.set0 ((p : Int)))
              have HP10 := Lib.hid (HP8.out.set (k := 0) (u := .int .i64 ((p : Int))) HX8.out.nv)
              have HB10 := Lib.hid (HB8.out.setCell (p := ⟨J, 0, none⟩) hJB (.int .i64 ((p : Int))))
              go_roundw
              case rel => exact ⟨s + 1, qs, Aq, cq, _, _, by omega, by omega, rfl, rfl, HP10, HX10, HG9, HB10⟩
              case measure => simp [intOf]; omega
            · have hcv := HTv.out _ HB8.out
              go_wp2_with fail
              have HG9 := Lib.hid (show GoodP D qs ∧ hasK D ((p : Int)) ∧ valK D ((p : Int)) (d + 1) from ⟨HG5.out.1, by have h1 := HCL.out.2.2 HTP.out.2.2.2.1; rw [HTP.out.1, HTP.out.2.1, HTP.out.2.2.2.2] at h1; have e1 : (p : Int) + 0 = (p : Int) := (by omega); have e2 : d + (2 - 1) = d + 1 := (by omega); rw [e1, e2] at h1; exact h1⟩)
              have HX10 := Lib.hid (HX8.out.set0 ((p : Int)))
              have HP10 := Lib.hid (HP8.out.set (k := 0) (u := .int .i64 ((p : Int))) HX8.out.nv)
              have HB10 := Lib.hid (HB8.out.setCell (p := ⟨J, 0, none⟩) hJB (.int .i64 ((p : Int))))
              go_roundw
              case rel => exact ⟨s + 1, qs, Aq, cq, _, _, by omega, by omega, rfl, rfl, HP10, HX10, HG9, HB10⟩
              case measure => simp [intOf]; omega
        · as_aux_lemma =>
          have HTP := Lib.hid (show tkR 12 b = (1 + b) ∧ puR 12 = 1 ∧ jmpR 12 = false ∧ lastR 12 = false ∧ blkR 12 b = 0 from ⟨rfl, rfl, rfl, rfl, rfl⟩)
          have htk : (b + 1) ≤ d := by have h1 := HTK.out; rw [HTP.out.1] at h1; omega
          have hd2 : d + (1 - (b + 1)) ≤ m := by
            have h1 := HCL.out.2.2 HTP.out.2.2.2.1; rw [HTP.out.1, HTP.out.2.1] at h1; have h2 := HDB.out _ _ h1.1 h1.2; omega
          have hd3 : 0 ≤ d + (1 - (b + 1)) := by omega
          go_upto_region 41 with fail
          have HX8 := Lib.hid (HX7.out.set1 (d + (1 - (b + 1))))
          have HP8 := Lib.hid (HP7.out.set (k := 1) (u := .int .i64 (d + (1 - (b + 1)))) HX7.out.nv)
          have HI8 := Lib.hid ((Below.heap_setCell w7 ⟨J, 1, none⟩ (.int .i64 (d + (1 - (b + 1)))) I hIJ).trans HI7.out)
          have HB8 := Lib.hid (HB7.out.setCell (p := ⟨J, 1, none⟩) hJB (.int .i64 (d + (1 - (b + 1)))))
          generalize w7.setCell ⟨J, 1, none⟩ (.int .i64 (d + (1 - (b + 1)))) = w8 at *
          clear HX7 HP7 HI7 HB7 fI fJ7 lJ lI
          have lJ := lt_of_blkC HX8.out.at_
          have lI := lt_of_blkC HI8.out
          have fI := three_cellsC HI8.out
          have fJ8 := two_cellsC HX8.out.at_
          have hmd : ¬ (m < d + (1 - (b + 1))) := by omega
          rcases htv with htv | ⟨g2, of2, tv, rfl, j1, j2, HTv⟩
          · have htn : ¬ ((0 : Int) < (ts.length : Int)) := by omega
            clear htv
            go_wp2_with fail
            have HG9 := Lib.hid (show GoodP D qs ∧ hasK D ((p : Int)) ∧ valK D ((p : Int)) (d + (1 - (b + 1))) from ⟨HG5.out.1, by have h1 := HCL.out.2.2 HTP.out.2.2.2.1; rw [HTP.out.1, HTP.out.2.1, HTP.out.2.2.2.2] at h1; have e1 : (p : Int) + 0 = (p : Int) := (by omega); have e2 : d + (1 - (1 + b)) = d + (1 - (b + 1)) := (by omega); rw [e1, e2] at h1; exact h1⟩)
            have HX10 := Lib.hid (HX8.out.set0 ((p : Int)))
            have HP10 := Lib.hid (HP8.out.set (k := 0) (u := .int .i64 ((p : Int))) HX8.out.nv)
            have HB10 := Lib.hid (HB8.out.setCell (p := ⟨J, 0, none⟩) hJB (.int .i64 ((p : Int))))
            go_roundw
            case rel => exact ⟨s + 1, qs, Aq, cq, _, _, by omega, by omega, rfl, rfl, HP10, HX10, HG9, HB10⟩
            case measure => simp [intOf]; omega
          · have hte : ((ts.length : Int) == 0) = false := by rw [beq_eq_false_iff_ne]; omega
            have j3 : (0 : Int) ≤ (n9 : Int) := by omega
            have j4 : n9 % ts.length < ts.length := Nat.mod_lt _ (by omega)
            have j5 : (n9 : Int) ≤ 400 := by omega
            cases tv
            · have hcv := HTv.out _ HB8.out
              go_wp2_with fail
              have HG9 := Lib.hid (show GoodP D qs ∧ hasK D ((p : Int)) ∧ valK D ((p : Int)) (d + (1 - (b + 1))) from ⟨HG5.out.1, by have h1 := HCL.out.2.2 HTP.out.2.2.2.1; rw [HTP.out.1, HTP.out.2.1, HTP.out.2.2.2.2] at h1; have e1 : (p : Int) + 0 = (p : Int) := (by omega); have e2 : d + (1 - (1 + b)) = d + (1 - (b + 1)) := (by omega); rw [e1, e2] at h1; exact h1⟩)
              have HX10 := Lib.hid (HX8.out.set0 ((p : Int)))
              have HP10 := Lib.hid (HP8.out.set (k := 0) (u := .int .i64 ((p : Int))) HX8.out.nv)
              have HB10 := Lib.hid (HB8.out.setCell (p := ⟨J, 0, none⟩) hJB (.int .i64 ((p : Int))))
              go_roundw
              case rel => exact ⟨s + 1, qs, Aq, cq, _, _, by omega, by omega, rfl, rfl, HP10, HX10, HG9, HB10⟩
              case measure => simp [intOf]; omega
            · have hcv := HTv.out _ HB8.out
              go_wp2_with fail
              have HG9 := Lib.hid (show GoodP D qs ∧ hasK D ((p : Int)) ∧ valK D ((p : Int)) (d + (1 - (b + 1))) from ⟨HG5.out.1, by have h1 := HCL.out.2.2 HTP.out.2.2.2.1; rw [HTP.out.1, HTP.out.2.1, HTP.out.2.2.2.2] at h1; have e1 : (p : Int) + 0 = (p : Int) := (by omega); have e2 : d + (1 - (1 + b)) = d + (1 - (b + 1)) := (by omega); rw [e1, e2] at h1; exact h1⟩)
              have HX10 := Lib.hid (HX8.out.set0 ((p : Int)))
              have HP10 := Lib.hid (HP8.out.set (k := 0) (u := .int .i64 ((p : Int))) HX8.out.nv)
              have HB10 := Lib.hid (HB8.out.setCell (p := ⟨J, 0, none⟩) hJB (.int .i64 ((p : Int))))
              go_roundw
              case rel => exact ⟨s + 1, qs, Aq, cq, _, _, by omega, by omega, rfl, rfl, HP10, HX10, HG9, HB10⟩
              case measure => simp [intOf]; omega
        · as_aux_lemma =>
          have HTP := Lib.hid (show tkR 13 b = (1 + b) ∧ puR 13 = 1 ∧ jmpR 13 = false ∧ lastR 13 = false ∧ blkR 13 b = 0 from ⟨rfl, rfl, rfl, rfl, rfl⟩)
          have htk : (b + 1) ≤ d := by have h1 := HTK.out; rw [HTP.out.1] at h1; omega
          have hd2 : d + (1 - (b + 1)) ≤ m := by
            have h1 := HCL.out.2.2 HTP.out.2.2.2.1; rw [HTP.out.1, HTP.out.2.1] at h1; have h2 := HDB.out _ _ h1.1 h1.2; omega
          have hd3 : 0 ≤ d + (1 - (b + 1)) := by omega
          go_upto_region 41 with fail
          have HX8 := Lib.hid (HX7.out.set1 (d + (1 - (b + 1))))
          have HP8 := Lib.hid (HP7.out.set (k := 1) (u := .int .i64 (d + (1 - (b + 1)))) HX7.out.nv)
          have HI8 := Lib.hid ((Below.heap_setCell w7 ⟨J, 1, none⟩ (.int .i64 (d + (1 - (b + 1)))) I hIJ).trans HI7.out)
          have HB8 := Lib.hid (HB7.out.setCell (p := ⟨J, 1, none⟩) hJB (.int .i64 (d + (1 - (b + 1)))))
          generalize w7.setCell ⟨J, 1, none⟩ (.int .i64 (d + (1 - (b + 1)))) = w8 at *
          clear HX7 HP7 HI7 HB7 fI fJ7 lJ lI
          have lJ := lt_of_blkC HX8.out.at_
          have lI := lt_of_blkC HI8.out
          have fI := three_cellsC HI8.out
          have fJ8 := two_cellsC HX8.out.at_
          have hmd : ¬ (m < d + (1 - (b + 1))) := by omega
          rcases htv with htv | ⟨g2, of2, tv, rfl, j1, j2, HTv⟩
          · have htn : ¬ ((0 : Int) < (ts.length : Int)) := by omega
            clear htv
            go_wp2_with fail
            have HG9 := Lib.hid (show GoodP D qs ∧ hasK D ((p : Int)) ∧ valK D ((p : Int)) (d + (1 - (b + 1))) from ⟨HG5.out.1, by have h1 := HCL.out.2.2 HTP.out.2.2.2.1; rw [HTP.out.1, HTP.out.2.1, HTP.out.2.2.2.2] at h1; have e1 : (p : Int) + 0 = (p : Int) := (by omega); have e2 : d + (1 - (1 + b)) = d + (1 - (b + 1)) := (by omega); rw [e1, e2] at h1; exact h1⟩)
            have HX10 := Lib.hid (HX8.out.set0 ((p : Int)))
            have HP10 := Lib.hid (HP8.out.set (k := 0) (u := .int .i64 ((p : Int))) HX8.out.nv)
            have HB10 := Lib.hid (HB8.out.setCell (p := ⟨J, 0, none⟩) hJB (.int .i64 ((p : Int))))
            go_roundw
            case rel => exact ⟨s + 1, qs, Aq, cq, _, _, by omega, by omega, rfl, rfl, HP10, HX10, HG9, HB10⟩
            case measure => simp [intOf]; omega
          · have hte : ((ts.length : Int) == 0) = false := by rw [beq_eq_false_iff_ne]; omega
            have j3 : (0 : Int) ≤ (n9 : Int) := by omega
            have j4 : n9 % ts.length < ts.length := Nat.mod_lt _ (by omega)
            have j5 : (n9 : Int) ≤ 400 := by omega
            cases tv
            · have hcv := HTv.out _ HB8.out
              go_wp2_with fail
              have HG9 := Lib.hid (show GoodP D qs ∧ hasK D ((p : Int)) ∧ valK D ((p : Int)) (d + (1 - (b + 1))) from ⟨HG5.out.1, by have h1 := HCL.out.2.2 HTP.out.2.2.2.1; rw [HTP.out.1, HTP.out.2.1, HTP.out.2.2.2.2] at h1; have e1 : (p : Int) + 0 = (p : Int) := (by omega); have e2 : d + (1 - (1 + b)) = d + (1 - (b + 1)) := (by omega); rw [e1, e2] at h1; exact h1⟩)
              have HX10 := Lib.hid (HX8.out.set0 ((p : Int)))
              have HP10 := Lib.hid (HP8.out.set (k := 0) (u := .int .i64 ((p : Int))) HX8.out.nv)
              have HB10 := Lib.hid (HB8.out.setCell (p := ⟨J, 0, none⟩) hJB (.int .i64 ((p : Int))))
              go_roundw
              case rel => exact ⟨s + 1, qs, Aq, cq, _, _, by omega, by omega, rfl, rfl, HP10, HX10, HG9, HB10⟩
              case measure => simp [intOf]; omega
            · have hcv := HTv.out _ HB8.out
              go_wp2_with fail
              have HG9 := Lib.hid (show GoodP D qs ∧ hasK D ((p : Int)) ∧ valK D ((p : Int)) (d + (1 - (b + 1))) from ⟨HG5.out.1, by have h1 := HCL.out.2.2 HTP.out.2.2.2.1; rw [HTP.out.1, HTP.out.2.1, HTP.out.2.2.2.2] at h1; have e1 : (p : Int) + 0 = (p : Int) := (by omega); have e2 : d + (1 - (1 + b)) = d + (1 - (b + 1)) := (by omega); rw [e1, e2] at h1; exact h1⟩)
              have HX10 := Lib.hid (HX8.out.set0 ((p : Int)))
              have HP10 := Lib.hid (HP8.out.set (k := 0) (u := .int .i64 ((p : Int))) HX8.out.nv)
              have HB10 := Lib.hid (HB8.out.setCell (p := ⟨J, 0, none⟩) hJB (.int .i64 ((p : Int))))
              go_roundw
              case rel => exact ⟨s + 1, qs, Aq, cq, _, _, by omega, by omega, rfl, rfl, HP10, HX10, HG9, HB10⟩
              case measure => simp [intOf]; omega
        · as_aux_lemma =>
          have HTP := Lib.hid (show tkR 14 b = 0 ∧ puR 14 = 0 ∧ jmpR 14 = true ∧ lastR 14 = true ∧ blkR 14 b = 0 from ⟨rfl, rfl, rfl, rfl, rfl⟩)
          have htk : 0 ≤ d := by have h1 := HTK.out; rw [HTP.out.1] at h1; omega
          have hd2 : d + (0 - 0) ≤ m := by
            have h1 := HCL.out.2.1 HTP.out.2.2.1; rw [HTP.out.1, HTP.out.2.1] at h1; have h2 := HDB.out _ _ h1.1 h1.2; omega
          have hd3 : 0 ≤ d + (0 - 0) := by omega
          go_upto_region 41 with fail
          have HX8 := Lib.hid (HX7.out.set1 (d))
          have HP8 := Lib.hid (HP7.out.set (k := 1) (u := .int .i64 (d)) HX7.out.nv)
          have HI8 := Lib.hid ((Below.heap_setCell w7 ⟨J, 1, none⟩ (.int .i64 (d)) I hIJ).trans HI7.out)
          have HB8 := Lib.hid (HB7.out.setCell (p := ⟨J, 1, none⟩) hJB (.int .i64 (d)))
          generalize w7.setCell ⟨J, 1, none⟩ (.int .i64 (d)) = w8 at *
          clear HX7 HP7 HI7 HB7 fI fJ7 lJ lI
          have lJ := lt_of_blkC HX8.out.at_
          have lI := lt_of_blkC HI8.out
          have fI := three_cellsC HI8.out
          have fJ8 := two_cellsC HX8.out.at_
          have hmd : ¬ (m < d) := by omega
          rcases htv with htv | ⟨g2, of2, tv, rfl, j1, j2, HTv⟩
          · have htn : ¬ ((0 : Int) < (ts.length : Int)) := by omega
            clear htv
            go_wp2_with fail
            have HG9 := Lib.hid (show GoodP D qs ∧ hasK D ((p : Int) + a) ∧ valK D ((p : Int) + a) (d) from ⟨HG5.out.1, by have h1 := HCL.out.2.1 HTP.out.2.2.1; rw [HTP.out.1, HTP.out.2.1] at h1; have e2 : d + (0 - 0) = d := (by omega); rw [e2] at h1; exact h1⟩)
            have HX10 := Lib.hid (HX8.out.set0 ((p : Int) + a))
            have HP10 := Lib.hid (HP8.out.set (k := 0) (u := .int .i64 ((p : Int) + a)) HX8.out.nv)
            have HB10 := Lib.hid (HB8.out.setCell (p := ⟨J, 0, none⟩) hJB (.int .i64 ((p : Int) + a)))
            go_roundw
            case rel => exact ⟨s + 1, qs, Aq, cq, _, _, by omega, by omega, rfl, rfl, HP10, HX10, HG9, HB10⟩
            case measure => simp [intOf]; omega
          · have hte : ((ts.length : Int) == 0) = false := by rw [beq_eq_false_iff_ne]; omega
            have j3 : (0 : Int) ≤ (n9 : Int) := by omega
            have j4 : n9 % ts.length < ts.length := Nat.mod_lt _ (by omega)
            have j5 : (n9 : Int) ≤ 400 := by omega
            cases tv
            · have hcv := HTv.out _ HB8.out
              go_wp2_with fail
              have HG9 := Lib.hid (show GoodP D qs ∧ hasK D ((p : Int) + a) ∧ valK D ((p : Int) + a) (d) from ⟨HG5.out.1, by have h1 := HCL.out.2.1 HTP.out.2.2.1; rw [HTP.out.1, HTP.out.2.1] at h1; have e2 : d + (0 - 0) = d := (by omega); rw [e2] at h1; exact h1⟩)
              have HX10 := Lib.hid (HX8.out.set0 ((p : Int) + a))
              have HP10 := Lib.hid (HP8.out.set (k := 0) (u := .int .i64 ((p : Int) + a)) HX8.out.nv)
              have HB10 := Lib.hid (HB8.out.setCell (p := ⟨J, 0, none⟩) hJB (.int .i64 ((p : Int) + a)))
              go_roundw
              case rel => exact ⟨s + 1, qs, Aq, cq, _, _, by omega, by omega, rfl, rfl, HP10, HX10, HG9, HB10⟩
              case measure => simp [intOf]; omega
            · have hcv := HTv.out _ HB8.out
              go_wp2_with fail
              have HG9 := Lib.hid (show GoodP D qs ∧ hasK D ((p : Int) + a) ∧ valK D ((p : Int) + a) (d) from ⟨HG5.out.1, by have h1 := HCL.out.2.1 HTP.out.2.2.1; rw [HTP.out.1, HTP.out.2.1] at h1; have e2 : d + (0 - 0) = d := (by omega); rw [e2] at h1; exact h1⟩)
              have HX10 := Lib.hid (HX8.out.set0 ((p : Int) + a))
              have HP10 := Lib.hid (HP8.out.set (k := 0) (u := .int .i64 ((p : Int) + a)) HX8.out.nv)
              have HB10 := Lib.hid (HB8.out.setCell (p := ⟨J, 0, none⟩) hJB (.int .i64 ((p : Int) + a)))
              go_roundw
              case rel => exact ⟨s + 1, qs, Aq, cq, _, _, by omega, by omega, rfl, rfl, HP10, HX10, HG9, HB10⟩
              case measure => simp [intOf]; omega
        · as_aux_lemma =>
          have HTP := Lib.hid (show tkR 15 b = 1 ∧ puR 15 = 0 ∧ jmpR 15 = true ∧ lastR 15 = false ∧ blkR 15 b = 0 from ⟨rfl, rfl, rfl, rfl, rfl⟩)
          have htk : 1 ≤ d := by have h1 := HTK.out; rw [HTP.out.1] at h1; omega
          have hd2 : d + (0 - 1) ≤ m := by
            have h1 := HCL.out.2.2 HTP.out.2.2.2.1; rw [HTP.out.1, HTP.out.2.1] at h1; have h2 := HDB.out _ _ h1.1 h1.2; omega
          have hd3 : 0 ≤ d + (0 - 1) := by omega
          go_upto_region 41 with fail
          have HX8 := Lib.hid (HX7.out.set1 (d + -1))
          have HP8 := Lib.hid (HP7.out.set (k := 1) (u := .int .i64 (d + -1)) HX7.out.nv)
          have HI8 := Lib.hid ((Below.heap_setCell w7 ⟨J, 1, none⟩ (.int .i64 (d + -1)) I hIJ).trans HI7.out)
          have HB8 := Lib.hid (HB7.out.setCell (p := ⟨J, 1, none⟩) hJB (.int .i64 (d + -1)))
          generalize w7.setCell ⟨J, 1, none⟩ (.int .i64 (d + -1)) = w8 at *
          clear HX7 HP7 HI7 HB7 fI fJ7 lJ lI
          have lJ := lt_of_blkC HX8.out.at_
          have lI := lt_of_blkC HI8.out
          have fI := three_cellsC HI8.out
          have fJ8 := two_cellsC HX8.out.at_
          have hmd : ¬ (m < d + -1) := by omega
          rcases htv with htv | ⟨g2, of2, tv, rfl, j1, j2, HTv⟩
          · have htn : ¬ ((0 : Int) < (ts.length : Int)) := by omega
            clear htv
            go_wp2_with fail
            have HG9 := Lib.hid (show GoodP D qs ∧ hasK D ((p : Int)) ∧ valK D ((p : Int)) (d + -1) from ⟨HG5.out.1, by have h1 := HCL.out.2.2 HTP.out.2.2.2.1; rw [HTP.out.1, HTP.out.2.1, HTP.out.2.2.2.2] at h1; have e1 : (p : Int) + 0 = (p : Int) := (by omega); have e2 : d + (0 - 1) = d + -1 := (by omega); rw [e1, e2] at h1; exact h1⟩)
            have HX10 := Lib.hid (HX8.out.set0 ((p : Int)))
            have HP10 := Lib.hid (HP8.out.set (k := 0) (u := .int .i64 ((p : Int))) HX8.out.nv)
            have HB10 := Lib.hid (HB8.out.setCell (p := ⟨J, 0, none⟩) hJB (.int .i64 ((p : Int))))
            go_roundw
            case rel => exact ⟨s + 1, qs, Aq, cq, _, _, by omega, by omega, rfl, rfl, HP10, HX10, HG9, HB10⟩
            case measure => simp [intOf]; omega
          · have hte : ((ts.length : Int) == 0) = false := by rw [beq_eq_false_iff_ne]; omega
            have j3 : (0 : Int) ≤ (n9 : Int) := by omega
            have j4 : n9 % ts.length < ts.length := Nat.mod_lt _ (by omega)
            have j5 : (n9 : Int) ≤ 400 := by omega
            cases tv
            · have hcv := HTv.out _ HB8.out
              go_wp2_with fail
              have HG9 := Lib.hid (show GoodP D qs ∧ hasK D ((p : Int)) ∧ valK D ((p : Int)) (d + -1) from ⟨HG5.out.1, by have h1 := HCL.out.2.2 HTP.out.2.2.2.1; rw [HTP.out.1, HTP.out.2.1, HTP.out.2.2.2.2] at h1; have e1 : (p : Int) + 0 = (p : Int) := (by omega); have e2 : d + (0 - 1) = d + -1 := (by omega); rw [e1, e2] at h1; exact h1⟩)
              have HX10 := Lib.hid (HX8.out.set0 ((p : Int)))
              have HP10 := Lib.hid (HP8.out.set (k := 0) (u := .int .i64 ((p : Int))) HX8.out.nv)
              have HB10 := Lib.hid (HB8.out.setCell (p := ⟨J, 0, none⟩) hJB (.int .i64 ((p : Int))))
              go_roundw
              case rel => exact ⟨s + 1, qs, Aq, cq, _, _, by omega, by omega, rfl, rfl, HP10, HX10, HG9, HB10⟩
              case measure => simp [intOf]; omega
            · have hcv := HTv.out _ HB8.out
              go_wp2_with fail
              have HG9 := Lib.hid (show GoodP D qs ∧ hasK D ((p : Int) + a) ∧ valK D ((p : Int) + a) (d + -1) from ⟨HG5.out.1, by have h1 := HCL.out.2.1 HTP.out.2.2.1; rw [HTP.out.1, HTP.out.2.1] at h1; have e2 : d + (0 - 1) = d + -1 := (by omega); rw [e2] at h1; exact h1⟩)
              have HX10 := Lib.hid (HX8.out.set0 ((p : Int) + a))
              have HP10 := Lib.hid (HP8.out.set (k := 0) (u := .int .i64 ((p : Int) + a)) HX8.out.nv)
              have HB10 := Lib.hid (HB8.out.setCell (p := ⟨J, 0, none⟩) hJB (.int .i64 ((p : Int) + a)))
              go_roundw
              case rel => exact ⟨s + 1, qs, Aq, cq, _, _, by omega, by omega, rfl, rfl, HP10, HX10, HG9, HB10⟩
              case measure => simp [intOf]; omega
        · as_aux_lemma =>
          have HTP := Lib.hid (show tkR 16 b = 1 ∧ puR 16 = 0 ∧ jmpR 16 = true ∧ lastR 16 = false ∧ blkR 16 b = 0 from ⟨rfl, rfl, rfl, rfl, rfl⟩)
          have htk : 1 ≤ d := by have h1 := HTK.out; rw [HTP.out.1] at h1; omega
          have hd2 : d + (0 - 1) ≤ m := by
            have h1 := HCL.out.2.2 HTP.out.2.2.2.1; rw [HTP.out.1, HTP.out.2.1] at h1; have h2 := HDB.out _ _ h1.1 h1.2; omega
          have hd3 : 0 ≤ d + (0 - 1) := by omega
          go_upto_region 41 with fail
          have HX8 := Lib.hid (HX7.out.set1 (d + -1))
          have HP8 := Lib.hid (HP7.out.set (k := 1) (u := .int .i64 (d + -1)) HX7.out.nv)
          have HI8 := Lib.hid ((Below.heap_setCell w7 ⟨J, 1, none⟩ (.int .i64 (d + -1)) I hIJ).trans HI7.out)
          have HB8 := Lib.hid (HB7.out.setCell (p := ⟨J, 1, none⟩) hJB (.int .i64 (d + -1)))
          generalize w7.setCell ⟨J, 1, none⟩ (.int .i64 (d + -1)) = w8 at *
          clear HX7 HP7 HI7 HB7 fI fJ7 lJ lI
          have lJ := lt_of_blkC HX8.out.at_
          have lI := lt_of_blkC HI8.out
          have fI := three_cellsC HI8.out
          have fJ8 := two_cellsC HX8.out.at_
          have hmd : ¬ (m < d + -1) := by omega
          rcases htv with htv | ⟨g2, of2, tv, rfl, j1, j2, HTv⟩
          · have htn : ¬ ((0 : Int) < (ts.length : Int)) := by omega
            clear htv
            go_wp2_with fail
            have HG9 := Lib.hid (show GoodP D qs ∧ hasK D ((p : Int)) ∧ valK D ((p : Int)) (d + -1) from ⟨HG5.out.1, by have h1 := HCL.out.2.2 HTP.out.2.2.2.1; rw [HTP.out.1, HTP.out.2.1, HTP.out.2.2.2.2] at h1; have e1 : (p : Int) + 0 = (p : Int) := (by omega); have e2 : d + (0 - 1) = d + -1 := (by omega); rw [e1, e2] at h1; exact h1⟩)
            have HX10 := Lib.hid (HX8.out.set0 ((p : Int)))
            have HP10 := Lib.hid (HP8.out.set (k := 0) (u := .int .i64 ((p : Int))) HX8.out.nv)
            have HB10 := Lib.hid (HB8.out.setCell (p := ⟨J, 0, none⟩) hJB (.int .i64 ((p : Int))))
            go_roundw
            case rel => exact ⟨s + 1, qs, Aq, cq, _, _, by omega, by omega, rfl, rfl, HP10, HX10, HG9, HB10⟩
            case measure => simp [intOf]; omega
          · have hte : ((ts.length : Int) == 0) = false := by rw [beq_eq_false_iff_ne]; omega
            have j3 : (0 : Int) ≤ (n9 : Int) := by omega
            have j4 : n9 % ts.length < ts.length := Nat.mod_lt _ (by omega)
            have j5 : (n9 : Int) ≤ 400 := by omega
            cases tv
            · have hcv := HTv.out _ HB8.out
              go_wp2_with fail
              have HG9 := Lib.hid (show GoodP D qs ∧ hasK D ((p : Int)) ∧ valK D ((p : Int)) (d + -1) from ⟨HG5.out.1, by have h1 := HCL.out.2.2 HTP.out.2.2.2.1; rw [HTP.out.1, HTP.out.2.1, HTP.out.2.2.2.2] at h1; have e1 : (p : Int) + 0 = (p : Int) := (by omega); have e2 : d + (0 - 1) = d + -1 := (by omega); rw [e1, e2] at h1; exact h1⟩)
              have HX10 := Lib.hid (HX8.out.set0 ((p : Int)))
              have HP10 := Lib.hid (HP8.out.set (k := 0) (u := .int .i64 ((p : Int))) HX8.out.nv)
              have HB10 := Lib.hid (HB8.out.setCell (p := ⟨J, 0, none⟩) hJB (.int .i64 ((p : Int))))
              go_roundw
              case rel => exact ⟨s + 1, qs, Aq, cq, _, _, by omega, by omega, rfl, rfl, HP10, HX10, HG9, HB10⟩
              case measure => simp [intOf]; omega
            · have hcv := HTv.out _ HB8.out
              go_wp2_with fail
              have HG9 := Lib.hid (show GoodP D qs ∧ hasK D ((p : Int) + a) ∧ valK D ((p : Int) + a) (d + -1) from ⟨HG5.out.1, by have h1 := HCL.out.2.1 HTP.out.2.2.1; rw [HTP.out.1, HTP.out.2.1] at h1; have e2 : d + (0 - 1) = d + -1 := (by omega); rw [e2] at h1; exact h1⟩)
              have HX10 := Lib.hid (HX8.out.set0 ((p : Int) + a))
              have HP10 := Lib.hid (HP8.out.set (k := 0) (u := .int .i64 ((p : Int) + a)) HX8.out.nv)
              have HB10 := Lib.hid (HB8.out.setCell (p := ⟨J, 0, none⟩) hJB (.int .i64 ((p : Int) + a)))
              go_roundw
              case rel => exact ⟨s + 1, qs, Aq, cq, _, _, by omega, by omega, rfl, rfl, HP10, HX10, HG9, HB10⟩
              case measure => simp [intOf]; omega
        · as_aux_lemma =>
          have HTP := Lib.hid (show tkR 17 b = 0 ∧ puR 17 = 1 ∧ jmpR 17 = false ∧ lastR 17 = false ∧ blkR 17 b = b from ⟨rfl, rfl, rfl, rfl, rfl⟩)
          have htk : 0 ≤ d := by have h1 := HTK.out; rw [HTP.out.1] at h1; omega
          have hd2 : d + (1 - 0) ≤ m := by
            have h1 := HCL.out.2.2 HTP.out.2.2.2.1; rw [HTP.out.1, HTP.out.2.1] at h1; have h2 := HDB.out _ _ h1.1 h1.2; omega
          have hd3 : 0 ≤ d + (1 - 0) := by omega
          go_upto_region 41 with fail
          have HX8 := Lib.hid (HX7.out.set1 (d + 1))
          have HP8 := Lib.hid (HP7.out.set (k := 1) (u := .int .i64 (d + 1)) HX7.out.nv)
          have HI8 := Lib.hid ((Below.heap_setCell w7 ⟨J, 1, none⟩ (.int .i64 (d + 1)) I hIJ).trans HI7.out)
          have HB8 := Lib.hid (HB7.out.setCell (p := ⟨J, 1, none⟩) hJB (.int .i64 (d + 1)))
          generalize w7.setCell ⟨J, 1, none⟩ (.int .i64 (d + 1)) = w8 at *
          clear HX7 HP7 HI7 HB7 fI fJ7 lJ lI
          have lJ := lt_of_blkC HX8.out.at_
          have lI := lt_of_blkC HI8.out
          have fI := three_cellsC HI8.out
          have fJ8 := two_cellsC HX8.out.at_
          have hmd : ¬ (m < d + 1) := by omega
          rcases htv with htv | ⟨g2, of2, tv, rfl, j1, j2, HTv⟩
          · have htn : ¬ ((0 : Int) < (ts.length : Int)) := by omega
            clear htv
            have HRa := Lib.hid (rd_oneP w8 (p : Int) a)
            have HPa := Lib.hid (HP8.out.below ((Below.refl w8.heap.size w8).alloc (Nat.le_refl _) (.cells #[.int .i64 (p : Int), .int .i64 a] 31)))
            have hsz8 := HB8.out.size
            have h17 := HCL.out.1 rfl
            have HH17 := Lib.hid h17
            clear h17
            go_wp2_with (at_builtin; refine wpList_append_p (base := w.heap.size) (v := .slice Aq qs.length cq) (xs := qs) (news := [((p : Int), a)]) rfl _ _ rfl rfl rfl HPa.out HRa.out (fun h => by cases h) (by omega) (by simp) (by rw [World.size_alloc]; omega) ?_; intro A9 t9 c9 w9 HT9 HP9 HB9; have h9 := HB9.out; rw [World.size_alloc] at h9; have HI9 := Lib.hid ((h9.2.1 I (by omega) HNV.out).trans ((Below.heap_alloc _ _ _ lI).trans HI8.out)); have HX9 : Hid (BoxP w9 J (.slice A9 t9.length c9) (q : Int) (d + 1)) := Lib.hid ⟨(h9.2.1 J (by omega) HX8.out.nv).trans ((Below.heap_alloc _ _ _ lJ).trans HX8.out.at_), fun e => h9.2.2.elim (fun e2 => HX8.out.nv (e.trans e2)) (fun e2 => by rw [e2] at e; injection e with e; omega)⟩; have HB9b := Lib.hid ((HB8.out.alloc hsz8 (.cells #[.int .i64 (p : Int), .int .i64 a] 31)).trans h9.1); clear h9 fI fJ8; have fI9 := three_cellsC HI9.out; have fJ9 := two_cellsC HX9.out.at_; have lJ9 := lt_of_blkC HX9.out.at_; have lI9 := lt_of_blkC HI9.out)
            obtain rfl := HT9.out
            have HG9 := Lib.hid (show GoodP D (qs ++ [((p : Int), a)]) ∧ hasK D ((p : Int) + b) ∧ valK D ((p : Int) + b) (d + 1) from ⟨fun y hy => (List.mem_append.1 hy).elim (HG5.out.1 y) (fun hy => by obtain rfl := List.mem_singleton.1 hy; exact HH17.out), by have h1 := HCL.out.2.2 HTP.out.2.2.2.1; rw [HTP.out.1, HTP.out.2.1, HTP.out.2.2.2.2] at h1; have e1 : (p : Int) + b = (p : Int) + b := (by omega); have e2 : d + (1 - 0) = d + 1 := (by omega); rw [e1, e2] at h1; exact h1⟩)
            have HX10 := Lib.hid (HX9.out.set0 ((p : Int) + b))
            have HP10 := Lib.hid (HP9.out.set (k := 0) (u := .int .i64 ((p : Int) + b)) HX9.out.nv)
            have HB10 := Lib.hid (HB9b.out.setCell (p := ⟨J, 0, none⟩) hJB (.int .i64 ((p : Int) + b)))
            go_roundw
            case rel => exact ⟨s + 1, (qs ++ [((p : Int), a)]), A9, c9, _, _, by omega, by rw [List.length_append, List.length_singleton]; omega, rfl, rfl, HP10, HX10, HG9, HB10⟩
            case measure => simp [intOf]; omega
          · have hte : ((ts.length : Int) == 0) = false := by rw [beq_eq_false_iff_ne]; omega
            have j3 : (0 : Int) ≤ (n9 : Int) := by omega
            have j4 : n9 % ts.length < ts.length := Nat.mod_lt _ (by omega)
            have j5 : (n9 : Int) ≤ 400 := by omega
            cases tv
            · have HRa := Lib.hid (rd_oneP w8 (p : Int) a)
              have HPa := Lib.hid (HP8.out.below ((Below.refl w8.heap.size w8).alloc (Nat.le_refl _) (.cells #[.int .i64 (p : Int), .int .i64 a] 31)))
              have hsz8 := HB8.out.size
              have h17 := HCL.out.1 rfl
              have HH17 := Lib.hid h17
              clear h17
              go_wp2_with (at_builtin; refine wpList_append_p (base := w.heap.size) (v := .slice Aq qs.length cq) (xs := qs) (news := [((p : Int), a)]) rfl _ _ rfl rfl rfl HPa.out HRa.out (fun h => by cases h) (by omega) (by simp) (by rw [World.size_alloc]; omega) ?_; intro A9 t9 c9 w9 HT9 HP9 HB9; have h9 := HB9.out; rw [World.size_alloc] at h9; have HI9 := Lib.hid ((h9.2.1 I (by omega) HNV.out).trans ((Below.heap_alloc _ _ _ lI).trans HI8.out)); have HX9 : Hid (BoxP w9 J (.slice A9 t9.length c9) (q : Int) (d + 1)) := Lib.hid ⟨(h9.2.1 J (by omega) HX8.out.nv).trans ((Below.heap_alloc _ _ _ lJ).trans HX8.out.at_), fun e => h9.2.2.elim (fun e2 => HX8.out.nv (e.trans e2)) (fun e2 => by rw [e2] at e; injection e with e; omega)⟩; have HB9b := Lib.hid ((HB8.out.alloc hsz8 (.cells #[.int .i64 (p : Int), .int .i64 a] 31)).trans h9.1); clear h9 fI fJ8; have fI9 := three_cellsC HI9.out; have fJ9 := two_cellsC HX9.out.at_; have lJ9 := lt_of_blkC HX9.out.at_; have lI9 := lt_of_blkC HI9.out; have hcv := HTv.out _ HB9b.out)
              obtain rfl := HT9.out
              have HG9 := Lib.hid (show GoodP D (qs ++ [((p : Int), a)]) ∧ hasK D ((p : Int) + b) ∧ valK D ((p : Int) + b) (d + 1) from ⟨fun y hy => (List.mem_append.1 hy).elim (HG5.out.1 y) (fun hy => by obtain rfl := List.mem_singleton.1 hy; exact HH17.out), by have h1 := HCL.out.2.2 HTP.out.2.2.2.1; rw [HTP.out.1, HTP.out.2.1, HTP.out.2.2.2.2] at h1; have e1 : (p : Int) + b = (p : Int) + b := (by omega); have e2 : d + (1 - 0) = d + 1 := (by omega); rw [e1, e2] at h1; exact h1⟩)
              have HX10 := Lib.hid (HX9.out.set0 ((p : Int) + b))
              have HP10 := Lib.hid (HP9.out.set (k := 0) (u := .int .i64 ((p : Int) + b)) HX9.out.nv)
              have HB10 := Lib.hid (HB9b.out.setCell (p := ⟨J, 0, none⟩) hJB (.int .i64 ((p : Int) + b)))
              go_roundw
              case rel => exact ⟨s + 1, (qs ++ [((p : Int), a)]), A9, c9, _, _, by omega, by rw [List.length_append, List.length_singleton]; omega, rfl, rfl, HP10, HX10, HG9, HB10⟩
              case measure => simp [intOf]; omega
            · have HRa := Lib.hid (rd_oneP w8 (p : Int) a)
              have HPa := Lib.hid (HP8.out.below ((Below.refl w8.heap.size w8).alloc (Nat.le_refl _) (.cells #[.int .i64 (p : Int), .int .i64 a] 31)))
              have hsz8 := HB8.out.size
              have h17 := HCL.out.1 rfl
              have HH17 := Lib.hid h17
              clear h17
              go_wp2_with (at_builtin; refine wpList_append_p (base := w.heap.size) (v := .slice Aq qs.length cq) (xs := qs) (news := [((p : Int), a)]) rfl _ _ rfl rfl rfl HPa.out HRa.out (fun h => by cases h) (by omega) (by simp) (by rw [World.size_alloc]; omega) ?_; intro A9 t9 c9 w9 HT9 HP9 HB9; have h9 := HB9.out; rw [World.size_alloc] at h9; have HI9 := Lib.hid ((h9.2.1 I (by omega) HNV.out).trans ((Below.heap_alloc _ _ _ lI).trans HI8.out)); have HX9 : Hid (BoxP w9 J (.slice A9 t9.length c9) (q : Int) (d + 1)) := Lib.hid ⟨(h9.2.1 J (by omega) HX8.out.nv).trans ((Below.heap_alloc _ _ _ lJ).trans HX8.out.at_), fun e => h9.2.2.elim (fun e2 => HX8.out.nv (e.trans e2)) (fun e2 => by rw [e2] at e; injection e with e; omega)⟩; have HB9b := Lib.hid ((HB8.out.alloc hsz8 (.cells #[.int .i64 (p : Int), .int .i64 a] 31)).trans h9.1); clear h9 fI fJ8; have fI9 := three_cellsC HI9.out; have fJ9 := two_cellsC HX9.out.at_; have lJ9 := lt_of_blkC HX9.out.at_; have lI9 := lt_of_blkC HI9.out; have hcv := HTv.out _ HB9b.out)
              obtain rfl := HT9.out
              have HG9 := Lib.hid (show GoodP D (qs ++ [((p : Int), a)]) ∧ hasK D ((p : Int) + b) ∧ valK D ((p : Int) + b) (d + 1) from ⟨fun y hy => (List.mem_append.1 hy).elim (HG5.out.1 y) (fun hy => by obtain rfl := List.mem_singleton.1 hy; exact HH17.out), by have h1 := HCL.out.2.2 HTP.out.2.2.2.1; rw [HTP.out.1, HTP.out.2.1, HTP.out.2.2.2.2] at h1; have e1 : (p : Int) + b = (p : Int) + b := (by omega); have e2 : d + (1 - 0) = d + 1 := (by omega); rw [e1, e2] at h1; exact h1⟩)
              have HX10 := Lib.hid (HX9.out.set0 ((p : Int) + b))
              have HP10 := Lib.hid (HP9.out.set (k := 0) (u := .int .i64 ((p : Int) + b)) HX9.out.nv)
              have HB10 := Lib.hid (HB9b.out.setCell (p := ⟨J, 0, none⟩) hJB (.int .i64 ((p : Int) + b)))
              go_roundw
              case rel => exact ⟨s + 1, (qs ++ [((p : Int), a)]), A9, c9, _, _, by omega, by rw [List.length_append, List.length_singleton]; omega, rfl, rfl, HP10, HX10, HG9, HB10⟩
              case measure => simp [intOf]; omega
        · as_aux_lemma =>
          have HTP := Lib.hid (show tkR 18 b = 1 ∧ puR 18 = 0 ∧ jmpR 18 = false ∧ lastR 18 = true ∧ blkR 18 b = 0 from ⟨rfl, rfl, rfl, rfl, rfl⟩)
          have htk : 1 ≤ d := by have h1 := HTK.out; rw [HTP.out.1] at h1; omega
          have hd2 : d + (0 - 1) ≤ m := by
            omega
          have hd3 : 0 ≤ d + (0 - 1) := by omega
          go_upto_region 41 with fail
          have HX8 := Lib.hid (HX7.out.set1 (d + -1))
          have HP8 := Lib.hid (HP7.out.set (k := 1) (u := .int .i64 (d + -1)) HX7.out.nv)
          have HI8 := Lib.hid ((Below.heap_setCell w7 ⟨J, 1, none⟩ (.int .i64 (d + -1)) I hIJ).trans HI7.out)
          have HB8 := Lib.hid (HB7.out.setCell (p := ⟨J, 1, none⟩) hJB (.int .i64 (d + -1)))
          generalize w7.setCell ⟨J, 1, none⟩ (.int .i64 (d + -1)) = w8 at *
          clear HX7 HP7 HI7 HB7 fI fJ7 lJ lI
          have lJ := lt_of_blkC HX8.out.at_
          have lI := lt_of_blkC HI8.out
          have fI := three_cellsC HI8.out
          have fJ8 := two_cellsC HX8.out.at_
          have hmd : ¬ (m < d + -1) := by omega
          go_wp2_with fail
          go_roundw
          case rel => exact ⟨k + 1, qs, Aq, cq, by omega, by omega, rfl, rfl, HP8, Lib.hid HG5.out.1, HB8⟩
          case measure => simp [intOf]; omega
        · as_aux_lemma =>
          have HTP := Lib.hid (show tkR 19 b = 1 ∧ puR 19 = 0 ∧ jmpR 19 = false ∧ lastR 19 = true ∧ blkR 19 b = 0 from ⟨rfl, rfl, rfl, rfl, rfl⟩)
          have htk : 1 ≤ d := by have h1 := HTK.out; rw [HTP.out.1] at h1; omega
          have hd2 : d + (0 - 1) ≤ m := by
            omega
          have hd3 : 0 ≤ d + (0 - 1) := by omega
          go_upto_region 41 with fail
          have HX8 := Lib.hid (HX7.out.set1 (d + -1))
          have HP8 := Lib.hid (HP7.out.set (k := 1) (u := .int .i64 (d + -1)) HX7.out.nv)
          have HI8 := Lib.hid ((Below.heap_setCell w7 ⟨J, 1, none⟩ (.int .i64 (d + -1)) I hIJ).trans HI7.out)
          have HB8 := Lib.hid (HB7.out.setCell (p := ⟨J, 1, none⟩) hJB (.int .i64 (d + -1)))
          generalize w7.setCell ⟨J, 1, none⟩ (.int .i64 (d + -1)) = w8 at *
          clear HX7 HP7 HI7 HB7 fI fJ7 lJ lI
          have lJ := lt_of_blkC HX8.out.at_
          have lI := lt_of_blkC HI8.out
          have fI := three_cellsC HI8.out
          have fJ8 := two_cellsC HX8.out.at_
          have hmd : ¬ (m < d + -1) := by omega
          go_wp2_with fail
          go_roundw
          case rel => exact ⟨k + 1, qs, Aq, cq, by omega, by omega, rfl, rfl, HP8, Lib.hid HG5.out.1, HB8⟩
          case measure => simp [intOf]; omega
end Go.Proofs.YtdfghcbojbbgcaaDoor.Fl

