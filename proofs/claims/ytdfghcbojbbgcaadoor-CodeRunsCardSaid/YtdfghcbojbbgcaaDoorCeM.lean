/-
  Instructions: Check's step in any code.
-/
import Derived.Test.YtdfghcbojbbgcaaDoorCeL
namespace Go.Proofs.YtdfghcbojbbgcaaDoor.Fl
open Go.RowKit Go.Maps

def formT (op : Int) : Int × Int := match formsL[op.toNat]? with
  | some r => (r.2.2.2.2.2.1, r.2.2.2.2.2.2)
  | none => (0, 0)
def tkR (op b : Int) : Int := (formT op).1 + if op = 12 ∨ op = 13 then b else 0
def puR (op : Int) : Int := (formT op).2
theorem form_tu {k : Nat} {r : FormR} (h : formsL[k]? = some r) : 0 ≤ r.2.2.2.2.2.1 ∧ r.2.2.2.2.2.1 ≤ 1 ∧ 0 ≤ r.2.2.2.2.2.2 ∧ r.2.2.2.2.2.2 ≤ 2 := by
  have ha : ∀ r ∈ formsL, 0 ≤ r.2.2.2.2.2.1 ∧ r.2.2.2.2.2.1 ≤ 1 ∧ 0 ≤ r.2.2.2.2.2.2 ∧ r.2.2.2.2.2.2 ≤ 2 := by decide +kernel
  exact ha r (List.mem_of_getElem? h)
/-- what an instruction reaches has a depth -/
def ClosedAt (code : List UInt8) (D : DataW Unit) (k : Int) : Prop := ∃ d, valK D k d ∧ ∃ op a b p, decR code k = .inl ((op, a, b), p) ∧ tkR op b ≤ d ∧ (op = 17 → hasK D (p : Int) ∧ valK D (p : Int) a) ∧ (jmpR op = true → hasK D ((p : Int) + a) ∧ valK D ((p : Int) + a) (d + (puR op - tkR op b))) ∧ (lastR op = false → hasK D ((p : Int) + blkR op b) ∧ valK D ((p : Int) + blkR op b) (d + (puR op - tkR op b)))
theorem ClosedAt.mono {code : List UInt8} {D1 D2 D2' : DataW Unit} {n2 n2' : Nat} {os os' : List Int} {most most' : Int} {k : Int} (h : ClosedAt code D2 k) (hk : hasK D2 k) (hx : Ext D1 D2 n2 os most D2' n2' os' most') : ClosedAt code D2' k := by
  obtain ⟨d, hv, op, a, b, p, hd, ht, h1, h2, h3⟩ := h
  have hm : ∀ j v, hasK D2 j ∧ valK D2 j v → hasK D2' j ∧ valK D2' j v := fun j v h => ⟨hx.keepH j h.1, hx.keepV j v h.1 h.2⟩
  exact ⟨d, hx.keepV k d hk hv, op, a, b, p, hd, ht, fun e => hm _ _ (h1 e), fun e => hm _ _ (h2 e), fun e => hm _ _ (h3 e)⟩
/-- an instruction's box beside the checker -/
structure BoxI (w : World) (I C M2 : Nat) (v : Value) (op a b : Int) : Prop where
  at_ : w.heap[I]? = some (.cells #[.int .i64 op, .int .i64 a, .int .i64 b] 34 (0, 0))
  nC : I ≠ C
  nM : I ≠ M2
  nv : some I ≠ v.ownBlock
theorem BoxI.kp {w w' : World} {I C M2 : Nat} {v v' : Value} {op a b : Int} (h : BoxI w I C M2 v op a b) (hk : KpX w w' C M2 v v') : BoxI w' I C M2 v' op a b :=
  ⟨(hk.2.1 I (lt_of_blkC h.at_) h.nC h.nM h.nv).trans h.at_, h.nC, h.nM, fun e => (hk.2.2 I e.symm).elim (fun e2 => h.nv e2.symm) (fun e2 => by have := lt_of_blkC h.at_; omega)⟩
theorem BoxI.below {w w' : World} {I C M2 : Nat} {v : Value} {op a b : Int} (h : BoxI w I C M2 v op a b) (hb : Below w.heap.size w w') : BoxI w' I C M2 v op a b :=
  ⟨(hb.block I (lt_of_blkC h.at_)).trans h.at_, h.nC, h.nM, h.nv⟩
theorem drewN_below (w : World) (n : Nat) : Below w.heap.size w (w.drewN n) := ⟨rfl, rfl, rfl, Nat.le_refl _, fun _ _ => rfl⟩
def StepPostX (code : List UInt8) (w0 : World) (base C N c M1 M2 : Nat) (A : Option Addr) (L S F : Int) (n1 n2 : Nat) (D1 D2 : DataW Unit) (os : List Int) (most at_ : Int) (e : Ending) (w' : World) : Prop :=
  ((∃ n, n ≠ 0 ∧ e = .panicked (faultK n)) ∧ Below base w0 w') ∨
  (e = .returned (.tuple #[]) ∧ ∃ n2' D2' A1 c1 os' most', CkX w0 w' base C N c M1 M2 A L S F n1 n2' D1 D2' (.slice A1 os'.length c1) os' most' ∧ Ext D1 D2 n2 os most D2' n2' os' most' ∧ ClosedAt code D2' at_)
theorem valK_of {w : World} {b n : Nat} {D : DataW Unit} (h : OwnM w b n D) {k : Int} (hk0 : -9223372036854775808 ≤ k) (hk : k ≤ 9223372036854775807) : ∃ v, valK D k v := by
  obtain ⟨c, _, hat, _⟩ := World.ownsMap.lookup_int h keyedIC Tryd.underlying45 Tryd.underlying3 (zeroIC w) (keyIC hk0 hk)
  exact ⟨c, hat⟩
theorem valK_fun {D : DataW Unit} {k a b : Int} (h : valK D k a) (h' : valK D k b) : a = b := by
  have e := h.symm.trans h'
  injection e with e
  injection e with _ e
theorem isJump_op {op : Int} (h : 0 ≤ op ∧ op < 20) (a b : Int) (w : World) :
    Calls Tryd.prog 29 #[.agg #[.int .i64 op, .int .i64 a, .int .i64 b]] w fun e w' => e = .returned (.bool (jmpR op)) ∧ Below w.heap.size w w' := by
  obtain ⟨k, rfl⟩ : ∃ k : Nat, op = (k : Int) := ⟨op.toNat, by omega⟩
  exact isJump_any (by omega) a b w
theorem op_class {k : Nat} (hk : k < 20) : ∃ e12 e13 e17 e19 j l : Bool, ((k : Int) == 12) = e12 ∧ ((k : Int) == 13) = e13 ∧ ((k : Int) == 17) = e17 ∧ ((k : Int) == 19) = e19 ∧ jmpR (k : Int) = j ∧ lastR (k : Int) = l ∧
    ((e12 = true ∧ e13 = false ∧ e17 = false ∧ e19 = false ∧ j = false ∧ l = false) ∨ (e12 = false ∧ e13 = true ∧ e17 = false ∧ e19 = false ∧ j = false ∧ l = false) ∨ (e12 = false ∧ e13 = false ∧ e17 = true ∧ e19 = false ∧ j = false ∧ l = false) ∨ (e12 = false ∧ e13 = false ∧ e17 = false ∧ e19 = true ∧ j = false ∧ l = true) ∨
     (e12 = false ∧ e13 = false ∧ e17 = false ∧ e19 = false ∧ j = true ∧ l = true) ∨ (e12 = false ∧ e13 = false ∧ e17 = false ∧ e19 = false ∧ j = true ∧ l = false) ∨ (e12 = false ∧ e13 = false ∧ e17 = false ∧ e19 = false ∧ j = false ∧ l = true) ∨ (e12 = false ∧ e13 = false ∧ e17 = false ∧ e19 = false ∧ j = false ∧ l = false)) := by
  obtain rfl | rfl | rfl | rfl | rfl | rfl | rfl | rfl | rfl | rfl | rfl | rfl | rfl | rfl | rfl | rfl | rfl | rfl | rfl | rfl : k = 0 ∨ k = 1 ∨ k = 2 ∨ k = 3 ∨ k = 4 ∨ k = 5 ∨ k = 6 ∨ k = 7 ∨ k = 8 ∨ k = 9 ∨ k = 10 ∨ k = 11 ∨ k = 12 ∨ k = 13 ∨ k = 14 ∨ k = 15 ∨ k = 16 ∨ k = 17 ∨ k = 18 ∨ k = 19 := by omega
  all_goals exact ⟨_, _, _, _, _, _, rfl, rfl, rfl, rfl, rfl, rfl, by decide⟩
set_option maxRecDepth 100000 in
set_option maxHeartbeats 8000000 in
theorem step_any {w0 w : World} {base C N c M1 M2 n1 n2 B : Nat} {A A0 : Option Addr} {L S F : Int} {c0 : Nat} {D1 D2 : DataW Unit} {os : List Int} {most : Int} (code : List UInt8) (hN : code.length = N) (hN2 : N ≤ 1000) (h : CkX w0 w base C N c M1 M2 A L S F n1 n2 D1 D2 (.slice A0 os.length c0) os most) (hr : Rd w B A (cb code)) (hB : B ≤ base) (hc : N ≤ c) (hF : ∀ w', Below base w w' → FormsAt w')
    (q : Nat) (hq : hasK D2 (q : Int)) (op a b : Int) (p : Nat) (hdec0 : decR code (q : Int) = .inl ((op, a, b), p)) (hbd : ∀ k v, hasK D2 k → valK D2 k v → 0 ≤ v ∧ v ≤ most) (hmo : most ≤ 255 + 2 * (n2 : Int)) (hn : n2 ≤ 2000) (hos : os.length ≤ n2) :
    Calls Tryd.prog 21 #[.pointer (some ⟨C, 0, none⟩), .int .i64 (q : Int)] w (StepPostX code w0 base C N c M1 M2 A L S F n1 n2 D1 D2 os most (q : Int)) := by
  subst hN
  have HS := Lib.hid h
  have HF := Lib.hid hF
  have fC := eight_cellsC h.blk
  have hsz := Nat.le_trans h.lo.2.2.2 h.bel.size
  have hdec := decode_any code (q : Int) A c B w hr (Nat.le_trans hB hsz) (by omega) (by omega) (hF _ (Below.refl _ _))
  rw [hdec0] at hdec
  obtain ⟨n, hqn, hnp, hpl, hi, -⟩ := enc_dec hdec0
  obtain rfl : q = n := by omega
  replace hi : isI op a b = true := hi
  obtain ⟨⟨a0, a1⟩, b0, b1⟩ := isI_bd hi
  obtain ⟨kk, rfl, hkk⟩ := isI_op hi
  obtain ⟨nmx, sa, la, sb, t, u, hrow, ⟨hsa, hsb⟩, hla, -⟩ := formsL_get2 hkk
  have htu := form_tu hrow
  replace htu : 0 ≤ t ∧ t ≤ 1 ∧ 0 ≤ u ∧ u ≤ 2 := htu
  have htk : tkR (kk : Int) b = t + if (kk : Int) = 12 ∨ (kk : Int) = 13 then b else 0 := by
    unfold tkR formT; simp only [Int.toNat_natCast, hrow]
  have hpu : puR (kk : Int) = u := by unfold puR formT; simp only [Int.toNat_natCast, hrow]
  obtain ⟨pv, hpv⟩ := valK_of h.m1 (k := (q : Int)) (by omega) (by omega)
  obtain ⟨d, hdv⟩ := valK_of h.m2 (k := (q : Int)) (by omega) (by omega)
  have hd := hbd _ _ hq hdv
  have HP := Lib.hid (And.intro hpv (And.intro hdv (And.intro hdec0 (And.intro htk (And.intro hpu (And.intro hq hbd))))))
  have hb9 : 0 ≤ b := by
    have hI : hasC sb 0 b = true := by
      unfold isI at hi
      rw [if_pos ⟨by omega, by omega⟩, Int.toNat_natCast, hrow] at hi
      simp only [Int.toNat_natCast, Bool.and_eq_true] at hi
      exact hi.2
    unfold hasC at hI
    simp only [Bool.and_eq_true, decide_eq_true_eq] at hI
    exact hI.1
  have ha9 : kk = 17 → 0 ≤ a ∧ a ≤ 255 := fun e => by
    subst e
    unfold isI at hi
    rw [if_pos ⟨by omega, by omega⟩] at hi
    have hI : hasC 1 0 a = true := by
      have h2 : (hasC 1 0 a && hasC 2 0 b) = true := hi
      rw [Bool.and_eq_true] at h2
      exact h2.1
    unfold hasC at hI
    simp only [Bool.and_eq_true, decide_eq_true_eq] at hI
    have e1 : ((256 ^ 1 : Nat) : Int) = 256 := by decide
    rw [e1] at hI
    omega
  have HA9 := Lib.hid ha9
  clear h hr hF hdec0 hpv hdv hq hbd hi hla ha9 hqn htk hpu
  go_enter Tryd.func21, Tryd.ntmps21
  go_wp2_with fail
  refine hdec.mono ?_
  rintro e w2 ⟨hb2, hcase⟩
  obtain ⟨y, p', hxp, rfl⟩ | ⟨n, hxp, _⟩ := hcase
  rotate_left 1
  · cases hxp
  obtain ⟨rfl, rfl⟩ : y = ((kk : Int), a, b) ∧ p = p' := by cases hxp; exact ⟨rfl, rfl⟩
  have hb3 : Below w.heap.size w (w2.alloc (.cells #[.int .i64 (kk : Int), .int .i64 a, .int .i64 b] 34)) := hb2.alloc hb2.size _
  have HS3 := Lib.hid (HS.out.below hb3)
  have hw3 := heap_alloc_new w2 (.cells #[.int .i64 (kk : Int), .int .i64 a, .int .i64 b] 34)
  have HX3 : Hid (BoxI (w2.alloc (.cells #[.int .i64 (kk : Int), .int .i64 a, .int .i64 b] 34)) w2.heap.size C M2 (.slice A0 os.length c0) (kk : Int) a b) := Lib.hid ⟨hw3, fun e => by have h1 := lt_of_blkC HS.out.blk; have h2 := hb2.size; omega, fun e => by have h1 := HS.out.m2.lt; have h2 := hb2.size; omega, fun e => by have h1 := (World.ownsRow.lt HS.out.row _ e.symm).2; have h2 := hb2.size; omega⟩
  have f3 := three_cellsC hw3
  have l3 := lt_of_blkC hw3
  have fC3 := eight_cellsC HS3.out.blk
  have HF3 := Lib.hid (HF.out _ (hb3.mono hsz))
  obtain ⟨g0, g1, g2, g3, g4, g5, g6⟩ := HF3.out.row hrow
  have hgl := HF3.out.lt
  clear hdec hxp HS HF fC hb2 hb3 hrow hw3
  unfold insV
  go_upto_region 1 with fail
  have q1 := fun n => look_fix (w := (w2.alloc (.cells #[.int .i64 (kk : Int), .int .i64 a, .int .i64 b] 34)).drewN n) (k := (q : Int)) (v := pv) (HS3.out.m1) (by omega) (by omega) HP.out.1
  have q2 := fun n => look_fix (w := (w2.alloc (.cells #[.int .i64 (kk : Int), .int .i64 a, .int .i64 b] 34)).drewN n) (k := (q : Int)) (v := d) (HS3.out.m2) (by omega) (by omega) HP.out.2.1
  go_quiet (fail)
  clear q1 q2
  have HS4 := Lib.hid (HS3.out.below (drewN_below _ nq))
  have HX4 := Lib.hid (HX3.out.below (drewN_below _ nq))
  have hgu := fun w => giveUpC_any (.pointer (some ⟨C, 0, none⟩)) 3 w
  obtain ⟨I, hI⟩ : ∃ I, w2.heap.size = I := ⟨_, rfl⟩
  generalize w2.alloc (.cells #[.int .i64 (kk : Int), .int .i64 a, .int .i64 b] 34) = w3 at *
  rw [hI] at f3 l3 HX3 HX4 ⊢
  clear hI HS3 HX3 HF3
  obtain ⟨x12, x13, x17, x19, xJ, xL, e12, e13, e17, e19, eJ, eL, hcl⟩ := op_class hkk
  rcases hcl with ⟨rfl, rfl, rfl, rfl, rfl, rfl⟩ | ⟨rfl, rfl, rfl, rfl, rfl, rfl⟩ | ⟨rfl, rfl, rfl, rfl, rfl, rfl⟩ | ⟨rfl, rfl, rfl, rfl, rfl, rfl⟩ | ⟨rfl, rfl, rfl, rfl, rfl, rfl⟩ | ⟨rfl, rfl, rfl, rfl, rfl, rfl⟩ | ⟨rfl, rfl, rfl, rfl, rfl, rfl⟩ | ⟨rfl, rfl, rfl, rfl, rfl, rfl⟩
  · by_cases hlt : d < t + b
    · go_wp2_with (go_at_call 19; refine (hgu _).mono ?_; rintro e w7 ⟨rfl, rfl⟩)
      exact ⟨rfl, .inl ⟨⟨3, by decide, rfl⟩, HS4.out.bel⟩⟩
    have HTK : Hid (tkR (kk : Int) b = t + b ∧ puR (kk : Int) = u) := Lib.hid ⟨by rw [HP.out.2.2.2.1, if_pos (.inl (beq_iff_eq.1 e12))], HP.out.2.2.2.2.1⟩
    have hge : t + b ≤ d := by omega
    have HGE := Lib.hid hge
    go_wp2_with fail
    refine (isJump_any hkk a b _).mono ?_
    rintro e w5 ⟨rfl, hb⟩
    have HS5 := Lib.hid (HS4.out.below hb)
    have HX5 := Lib.hid (HX4.out.below hb)
    have f5 := three_cellsC HX5.out.at_
    have fC5 := eight_cellsC HS5.out.blk
    clear hb HS4 HX4 f3 fC3 l3 g0 g1 g2 g3 g4 g5 g6 hgl
    go_wp2_with fail
    refine (isLast_any hkk a b _).mono ?_
    rintro e w6 ⟨rfl, hb⟩
    have HS6 := Lib.hid (HS5.out.below hb)
    have HX6 := Lib.hid (HX5.out.below hb)
    have f6 := three_cellsC HX6.out.at_
    have fC6 := eight_cellsC HS6.out.blk
    clear hb HS5 HX5 f5 fC5
    go_wp2_with fail
    refine (blockSize_any hkk a b _).mono ?_
    rintro e w7 ⟨rfl, hb⟩
    have HS7 := Lib.hid (HS6.out.below hb)
    have HX7 := Lib.hid (HX6.out.below hb)
    have f7 := three_cellsC HX7.out.at_
    have fC7 := eight_cellsC HS7.out.blk
    clear hb HS6 HX6 f6 fC6
    have hbk : blkR (kk : Int) b = 0 := by unfold blkR; rw [if_neg (fun e => by rw [beq_iff_eq.2 e] at e17; cases e17)]
    have HBK := Lib.hid hbk
    have hre := reach_any HS7.out ((p : Int)) pv (d + (u - (t + b))) (by omega) (by omega) (by omega) (by omega) (by omega) (by omega) (by omega) (by omega) (by omega) (.inl (by omega))
    go_wp2_with fail
    refine hre.mono ?_
    rintro e w8 (⟨rfl, hb⟩ | ⟨rfl, m8, E8, B8, k8, s8, x8, hS, hK, hc1, hX, hH, hV⟩)
    · exact ⟨rfl, .inl ⟨⟨3, by decide, rfl⟩, hb⟩⟩
    have HS8 := Lib.hid hS
    have HX8 := Lib.hid (HX7.out.kp hK)
    have HE8 := Lib.hid (hX)
    have HXX8 := Lib.hid hX
    have HVl := Lib.hid (And.intro hH hV)
    have f8 := three_cellsC HX8.out.at_
    have fC8 := eight_cellsC HS8.out.blk
    have hmx8 := hX.mx (by omega)
    have hmo8 := hX.mo
    have hct8 := hX.cnt
    clear hre hS hK hX hH hV HS7 HX7 f7 fC7
    go_wp2_with fail
    go_end0
    exact .inr ⟨rfl, _, _, _, _, _, _, HS8.out, HE8.out, d, HE8.out.keepV _ _ HP.out.2.2.2.2.2.1 HP.out.2.1, _, _, _, _, HP.out.2.2.1, (by rw [HTK.out.1]; exact HGE.out), (fun e => by rw [beq_iff_eq.2 e] at e17; cases e17), (fun e => by rw [eJ] at e; cases e), (fun _ => by rw [HTK.out.1, HTK.out.2, HBK.out]; rw [Int.add_zero]; exact HVl.out)⟩
  · by_cases hlt : d < t + b
    · go_wp2_with (go_at_call 19; refine (hgu _).mono ?_; rintro e w7 ⟨rfl, rfl⟩)
      exact ⟨rfl, .inl ⟨⟨3, by decide, rfl⟩, HS4.out.bel⟩⟩
    have HTK : Hid (tkR (kk : Int) b = t + b ∧ puR (kk : Int) = u) := Lib.hid ⟨by rw [HP.out.2.2.2.1, if_pos (.inr (beq_iff_eq.1 e13))], HP.out.2.2.2.2.1⟩
    have hge : t + b ≤ d := by omega
    have HGE := Lib.hid hge
    go_wp2_with fail
    refine (isJump_any hkk a b _).mono ?_
    rintro e w5 ⟨rfl, hb⟩
    have HS5 := Lib.hid (HS4.out.below hb)
    have HX5 := Lib.hid (HX4.out.below hb)
    have f5 := three_cellsC HX5.out.at_
    have fC5 := eight_cellsC HS5.out.blk
    clear hb HS4 HX4 f3 fC3 l3 g0 g1 g2 g3 g4 g5 g6 hgl
    go_wp2_with fail
    refine (isLast_any hkk a b _).mono ?_
    rintro e w6 ⟨rfl, hb⟩
    have HS6 := Lib.hid (HS5.out.below hb)
    have HX6 := Lib.hid (HX5.out.below hb)
    have f6 := three_cellsC HX6.out.at_
    have fC6 := eight_cellsC HS6.out.blk
    clear hb HS5 HX5 f5 fC5
    go_wp2_with fail
    refine (blockSize_any hkk a b _).mono ?_
    rintro e w7 ⟨rfl, hb⟩
    have HS7 := Lib.hid (HS6.out.below hb)
    have HX7 := Lib.hid (HX6.out.below hb)
    have f7 := three_cellsC HX7.out.at_
    have fC7 := eight_cellsC HS7.out.blk
    clear hb HS6 HX6 f6 fC6
    have hbk : blkR (kk : Int) b = 0 := by unfold blkR; rw [if_neg (fun e => by rw [beq_iff_eq.2 e] at e17; cases e17)]
    have HBK := Lib.hid hbk
    have hre := reach_any HS7.out ((p : Int)) pv (d + (u - (t + b))) (by omega) (by omega) (by omega) (by omega) (by omega) (by omega) (by omega) (by omega) (by omega) (.inl (by omega))
    go_wp2_with fail
    refine hre.mono ?_
    rintro e w8 (⟨rfl, hb⟩ | ⟨rfl, m8, E8, B8, k8, s8, x8, hS, hK, hc1, hX, hH, hV⟩)
    · exact ⟨rfl, .inl ⟨⟨3, by decide, rfl⟩, hb⟩⟩
    have HS8 := Lib.hid hS
    have HX8 := Lib.hid (HX7.out.kp hK)
    have HE8 := Lib.hid (hX)
    have HXX8 := Lib.hid hX
    have HVl := Lib.hid (And.intro hH hV)
    have f8 := three_cellsC HX8.out.at_
    have fC8 := eight_cellsC HS8.out.blk
    have hmx8 := hX.mx (by omega)
    have hmo8 := hX.mo
    have hct8 := hX.cnt
    clear hre hS hK hX hH hV HS7 HX7 f7 fC7
    go_wp2_with fail
    go_end0
    exact .inr ⟨rfl, _, _, _, _, _, _, HS8.out, HE8.out, d, HE8.out.keepV _ _ HP.out.2.2.2.2.2.1 HP.out.2.1, _, _, _, _, HP.out.2.2.1, (by rw [HTK.out.1]; exact HGE.out), (fun e => by rw [beq_iff_eq.2 e] at e17; cases e17), (fun e => by rw [eJ] at e; cases e), (fun _ => by rw [HTK.out.1, HTK.out.2, HBK.out]; rw [Int.add_zero]; exact HVl.out)⟩
  · by_cases hlt : d < t
    · go_wp2_with (go_at_call 19; refine (hgu _).mono ?_; rintro e w7 ⟨rfl, rfl⟩)
      exact ⟨rfl, .inl ⟨⟨3, by decide, rfl⟩, HS4.out.bel⟩⟩
    have HTK : Hid (tkR (kk : Int) b = t ∧ puR (kk : Int) = u) := Lib.hid ⟨by rw [HP.out.2.2.2.1, if_neg (fun h => h.elim (fun e => by rw [beq_iff_eq.2 e] at e12; cases e12) (fun e => by rw [beq_iff_eq.2 e] at e13; cases e13)), Int.add_zero], HP.out.2.2.2.2.1⟩
    have hge : t ≤ d := by omega
    have HGE := Lib.hid hge
    have hA9 := HA9.out (by have := beq_iff_eq.1 e17; omega)
    have hre := reach_any HS4.out ((p : Int)) (p : Int) (a) (by omega) (by omega) (by omega) (by omega) (by omega) (by omega) (by omega) (by omega) (by omega) (.inr (by omega))
    go_wp2_with fail
    refine hre.mono ?_
    rintro e w5 (⟨rfl, hb⟩ | ⟨rfl, m5, E5, B5, k5, s5, x5, hS, hK, hc1, hX, hH, hV⟩)
    · exact ⟨rfl, .inl ⟨⟨3, by decide, rfl⟩, hb⟩⟩
    have HS5 := Lib.hid hS
    have HX5 := Lib.hid (HX4.out.kp hK)
    have HE5 := Lib.hid (hX)
    have HXX5 := Lib.hid hX
    have HVa := Lib.hid (And.intro hH hV)
    have f5 := three_cellsC HX5.out.at_
    have fC5 := eight_cellsC HS5.out.blk
    have hmx5 := hX.mx (by omega)
    have hmo5 := hX.mo
    have hct5 := hX.cnt
    clear hre hS hK hX hH hV HS4 HX4 f3 fC3 l3 g0 g1 g2 g3 g4 g5 g6 hgl
    go_wp2_with fail
    refine (isJump_any hkk a b _).mono ?_
    rintro e w6 ⟨rfl, hb⟩
    have HS6 := Lib.hid (HS5.out.below hb)
    have HX6 := Lib.hid (HX5.out.below hb)
    have f6 := three_cellsC HX6.out.at_
    have fC6 := eight_cellsC HS6.out.blk
    clear hb HS5 HX5 f5 fC5
    go_wp2_with fail
    refine (isLast_any hkk a b _).mono ?_
    rintro e w7 ⟨rfl, hb⟩
    have HS7 := Lib.hid (HS6.out.below hb)
    have HX7 := Lib.hid (HX6.out.below hb)
    have f7 := three_cellsC HX7.out.at_
    have fC7 := eight_cellsC HS7.out.blk
    clear hb HS6 HX6 f6 fC6
    go_wp2_with fail
    refine (blockSize_any hkk a b _).mono ?_
    rintro e w8 ⟨rfl, hb⟩
    have HS8 := Lib.hid (HS7.out.below hb)
    have HX8 := Lib.hid (HX7.out.below hb)
    have f8 := three_cellsC HX8.out.at_
    have fC8 := eight_cellsC HS8.out.blk
    clear hb HS7 HX7 f7 fC7
    have hbk : blkR (kk : Int) b = b := by unfold blkR; rw [if_pos (beq_iff_eq.1 e17)]
    have HBK := Lib.hid hbk
    have hre := reach_any HS8.out ((p : Int) + b) pv (d + (u - t)) (by omega) (by omega) (by omega) (by omega) (by omega) (by omega) (by omega) (by omega) (by omega) (.inl (by omega))
    go_wp2_with fail
    refine hre.mono ?_
    rintro e w9 (⟨rfl, hb⟩ | ⟨rfl, m9, E9, B9, k9, s9, x9, hS, hK, hc1, hX, hH, hV⟩)
    · exact ⟨rfl, .inl ⟨⟨3, by decide, rfl⟩, hb⟩⟩
    have HS9 := Lib.hid hS
    have HX9 := Lib.hid (HX8.out.kp hK)
    have HE9 := Lib.hid (HE5.out.trans hX)
    have HXX9 := Lib.hid hX
    have HVl := Lib.hid (And.intro hH hV)
    have f9 := three_cellsC HX9.out.at_
    have fC9 := eight_cellsC HS9.out.blk
    have hmx9 := hX.mx (by omega)
    have hmo9 := hX.mo
    have hct9 := hX.cnt
    clear hre hS hK hX hH hV HS8 HX8 f8 fC8
    go_wp2_with fail
    go_end0
    exact .inr ⟨rfl, _, _, _, _, _, _, HS9.out, HE9.out, d, HE9.out.keepV _ _ HP.out.2.2.2.2.2.1 HP.out.2.1, _, _, _, _, HP.out.2.2.1, (by rw [HTK.out.1]; exact HGE.out), (fun _ => ⟨HXX9.out.keepH _ HVa.out.1, HXX9.out.keepV _ _ HVa.out.1 HVa.out.2⟩), (fun e => by rw [eJ] at e; cases e), (fun _ => by rw [HTK.out.1, HTK.out.2, HBK.out]; exact HVl.out)⟩
  · by_cases hlt : d < t
    · go_wp2_with (go_at_call 19; refine (hgu _).mono ?_; rintro e w7 ⟨rfl, rfl⟩)
      exact ⟨rfl, .inl ⟨⟨3, by decide, rfl⟩, HS4.out.bel⟩⟩
    by_cases hp0 : pv = 0
    · subst hp0
      go_wp2_with (go_at_call 19; refine (hgu _).mono ?_; rintro e w7 ⟨rfl, rfl⟩)
      exact ⟨rfl, .inl ⟨⟨3, by decide, rfl⟩, HS4.out.bel⟩⟩
    have hpb : (pv == 0) = false := by rw [beq_eq_false_iff_ne]; exact hp0
    clear hp0
    have HTK : Hid (tkR (kk : Int) b = t ∧ puR (kk : Int) = u) := Lib.hid ⟨by rw [HP.out.2.2.2.1, if_neg (fun h => h.elim (fun e => by rw [beq_iff_eq.2 e] at e12; cases e12) (fun e => by rw [beq_iff_eq.2 e] at e13; cases e13)), Int.add_zero], HP.out.2.2.2.2.1⟩
    have hge : t ≤ d := by omega
    have HGE := Lib.hid hge
    go_wp2_with fail
    refine (isJump_any hkk a b _).mono ?_
    rintro e w5 ⟨rfl, hb⟩
    have HS5 := Lib.hid (HS4.out.below hb)
    have HX5 := Lib.hid (HX4.out.below hb)
    have f5 := three_cellsC HX5.out.at_
    have fC5 := eight_cellsC HS5.out.blk
    clear hb HS4 HX4 f3 fC3 l3 g0 g1 g2 g3 g4 g5 g6 hgl
    go_wp2_with fail
    refine (isLast_any hkk a b _).mono ?_
    rintro e w6 ⟨rfl, hb⟩
    have HS6 := Lib.hid (HS5.out.below hb)
    have HX6 := Lib.hid (HX5.out.below hb)
    have f6 := three_cellsC HX6.out.at_
    have fC6 := eight_cellsC HS6.out.blk
    clear hb HS5 HX5 f5 fC5
    go_wp2_with fail
    go_end0
    exact .inr ⟨rfl, n2, D2, A0, c0, os, most, HS6.out, Ext.refl _ _ _ _ _, d, HP.out.2.1, _, _, _, _, HP.out.2.2.1, (by rw [HTK.out.1]; exact HGE.out), (fun e => by rw [beq_iff_eq.2 e] at e17; cases e17), (fun e => by rw [eJ] at e; cases e), (fun e => by rw [eL] at e; cases e)⟩
  · by_cases hlt : d < t
    · go_wp2_with (go_at_call 19; refine (hgu _).mono ?_; rintro e w7 ⟨rfl, rfl⟩)
      exact ⟨rfl, .inl ⟨⟨3, by decide, rfl⟩, HS4.out.bel⟩⟩
    have HTK : Hid (tkR (kk : Int) b = t ∧ puR (kk : Int) = u) := Lib.hid ⟨by rw [HP.out.2.2.2.1, if_neg (fun h => h.elim (fun e => by rw [beq_iff_eq.2 e] at e12; cases e12) (fun e => by rw [beq_iff_eq.2 e] at e13; cases e13)), Int.add_zero], HP.out.2.2.2.2.1⟩
    have hge : t ≤ d := by omega
    have HGE := Lib.hid hge
    go_wp2_with fail
    refine (isJump_any hkk a b _).mono ?_
    rintro e w5 ⟨rfl, hb⟩
    have HS5 := Lib.hid (HS4.out.below hb)
    have HX5 := Lib.hid (HX4.out.below hb)
    have f5 := three_cellsC HX5.out.at_
    have fC5 := eight_cellsC HS5.out.blk
    clear hb HS4 HX4 f3 fC3 l3 g0 g1 g2 g3 g4 g5 g6 hgl
    have hre := reach_any HS5.out ((p : Int) + a) pv (d + (u - t)) (by omega) (by omega) (by omega) (by omega) (by omega) (by omega) (by omega) (by omega) (by omega) (.inl (by omega))
    go_wp2_with fail
    refine hre.mono ?_
    rintro e w6 (⟨rfl, hb⟩ | ⟨rfl, m6, E6, B6, k6, s6, x6, hS, hK, hc1, hX, hH, hV⟩)
    · exact ⟨rfl, .inl ⟨⟨3, by decide, rfl⟩, hb⟩⟩
    have HS6 := Lib.hid hS
    have HX6 := Lib.hid (HX5.out.kp hK)
    have HE6 := Lib.hid (hX)
    have HXX6 := Lib.hid hX
    have HVj := Lib.hid (And.intro hH hV)
    have f6 := three_cellsC HX6.out.at_
    have fC6 := eight_cellsC HS6.out.blk
    have hmx6 := hX.mx (by omega)
    have hmo6 := hX.mo
    have hct6 := hX.cnt
    clear hre hS hK hX hH hV HS5 HX5 f5 fC5
    go_wp2_with fail
    refine (isLast_any hkk a b _).mono ?_
    rintro e w7 ⟨rfl, hb⟩
    have HS7 := Lib.hid (HS6.out.below hb)
    have HX7 := Lib.hid (HX6.out.below hb)
    have f7 := three_cellsC HX7.out.at_
    have fC7 := eight_cellsC HS7.out.blk
    clear hb HS6 HX6 f6 fC6
    go_wp2_with fail
    go_end0
    exact .inr ⟨rfl, _, _, _, _, _, _, HS7.out, HE6.out, d, HE6.out.keepV _ _ HP.out.2.2.2.2.2.1 HP.out.2.1, _, _, _, _, HP.out.2.2.1, (by rw [HTK.out.1]; exact HGE.out), (fun e => by rw [beq_iff_eq.2 e] at e17; cases e17), (fun _ => by rw [HTK.out.1, HTK.out.2]; exact HVj.out), (fun e => by rw [eL] at e; cases e)⟩
  · by_cases hlt : d < t
    · go_wp2_with (go_at_call 19; refine (hgu _).mono ?_; rintro e w7 ⟨rfl, rfl⟩)
      exact ⟨rfl, .inl ⟨⟨3, by decide, rfl⟩, HS4.out.bel⟩⟩
    have HTK : Hid (tkR (kk : Int) b = t ∧ puR (kk : Int) = u) := Lib.hid ⟨by rw [HP.out.2.2.2.1, if_neg (fun h => h.elim (fun e => by rw [beq_iff_eq.2 e] at e12; cases e12) (fun e => by rw [beq_iff_eq.2 e] at e13; cases e13)), Int.add_zero], HP.out.2.2.2.2.1⟩
    have hge : t ≤ d := by omega
    have HGE := Lib.hid hge
    go_wp2_with fail
    refine (isJump_any hkk a b _).mono ?_
    rintro e w5 ⟨rfl, hb⟩
    have HS5 := Lib.hid (HS4.out.below hb)
    have HX5 := Lib.hid (HX4.out.below hb)
    have f5 := three_cellsC HX5.out.at_
    have fC5 := eight_cellsC HS5.out.blk
    clear hb HS4 HX4 f3 fC3 l3 g0 g1 g2 g3 g4 g5 g6 hgl
    have hre := reach_any HS5.out ((p : Int) + a) pv (d + (u - t)) (by omega) (by omega) (by omega) (by omega) (by omega) (by omega) (by omega) (by omega) (by omega) (.inl (by omega))
    go_wp2_with fail
    refine hre.mono ?_
    rintro e w6 (⟨rfl, hb⟩ | ⟨rfl, m6, E6, B6, k6, s6, x6, hS, hK, hc1, hX, hH, hV⟩)
    · exact ⟨rfl, .inl ⟨⟨3, by decide, rfl⟩, hb⟩⟩
    have HS6 := Lib.hid hS
    have HX6 := Lib.hid (HX5.out.kp hK)
    have HE6 := Lib.hid (hX)
    have HXX6 := Lib.hid hX
    have HVj := Lib.hid (And.intro hH hV)
    have f6 := three_cellsC HX6.out.at_
    have fC6 := eight_cellsC HS6.out.blk
    have hmx6 := hX.mx (by omega)
    have hmo6 := hX.mo
    have hct6 := hX.cnt
    clear hre hS hK hX hH hV HS5 HX5 f5 fC5
    go_wp2_with fail
    refine (isLast_any hkk a b _).mono ?_
    rintro e w7 ⟨rfl, hb⟩
    have HS7 := Lib.hid (HS6.out.below hb)
    have HX7 := Lib.hid (HX6.out.below hb)
    have f7 := three_cellsC HX7.out.at_
    have fC7 := eight_cellsC HS7.out.blk
    clear hb HS6 HX6 f6 fC6
    go_wp2_with fail
    refine (blockSize_any hkk a b _).mono ?_
    rintro e w8 ⟨rfl, hb⟩
    have HS8 := Lib.hid (HS7.out.below hb)
    have HX8 := Lib.hid (HX7.out.below hb)
    have f8 := three_cellsC HX8.out.at_
    have fC8 := eight_cellsC HS8.out.blk
    clear hb HS7 HX7 f7 fC7
    have hbk : blkR (kk : Int) b = 0 := by unfold blkR; rw [if_neg (fun e => by rw [beq_iff_eq.2 e] at e17; cases e17)]
    have HBK := Lib.hid hbk
    have hre := reach_any HS8.out ((p : Int)) pv (d + (u - t)) (by omega) (by omega) (by omega) (by omega) (by omega) (by omega) (by omega) (by omega) (by omega) (.inl (by omega))
    go_wp2_with fail
    refine hre.mono ?_
    rintro e w9 (⟨rfl, hb⟩ | ⟨rfl, m9, E9, B9, k9, s9, x9, hS, hK, hc1, hX, hH, hV⟩)
    · exact ⟨rfl, .inl ⟨⟨3, by decide, rfl⟩, hb⟩⟩
    have HS9 := Lib.hid hS
    have HX9 := Lib.hid (HX8.out.kp hK)
    have HE9 := Lib.hid (HE6.out.trans hX)
    have HXX9 := Lib.hid hX
    have HVl := Lib.hid (And.intro hH hV)
    have f9 := three_cellsC HX9.out.at_
    have fC9 := eight_cellsC HS9.out.blk
    have hmx9 := hX.mx (by omega)
    have hmo9 := hX.mo
    have hct9 := hX.cnt
    clear hre hS hK hX hH hV HS8 HX8 f8 fC8
    go_wp2_with fail
    go_end0
    exact .inr ⟨rfl, _, _, _, _, _, _, HS9.out, HE9.out, d, HE9.out.keepV _ _ HP.out.2.2.2.2.2.1 HP.out.2.1, _, _, _, _, HP.out.2.2.1, (by rw [HTK.out.1]; exact HGE.out), (fun e => by rw [beq_iff_eq.2 e] at e17; cases e17), (fun _ => by rw [HTK.out.1, HTK.out.2]; exact ⟨HXX9.out.keepH _ HVj.out.1, HXX9.out.keepV _ _ HVj.out.1 HVj.out.2⟩), (fun _ => by rw [HTK.out.1, HTK.out.2, HBK.out]; rw [Int.add_zero]; exact HVl.out)⟩
  · by_cases hlt : d < t
    · go_wp2_with (go_at_call 19; refine (hgu _).mono ?_; rintro e w7 ⟨rfl, rfl⟩)
      exact ⟨rfl, .inl ⟨⟨3, by decide, rfl⟩, HS4.out.bel⟩⟩
    have HTK : Hid (tkR (kk : Int) b = t ∧ puR (kk : Int) = u) := Lib.hid ⟨by rw [HP.out.2.2.2.1, if_neg (fun h => h.elim (fun e => by rw [beq_iff_eq.2 e] at e12; cases e12) (fun e => by rw [beq_iff_eq.2 e] at e13; cases e13)), Int.add_zero], HP.out.2.2.2.2.1⟩
    have hge : t ≤ d := by omega
    have HGE := Lib.hid hge
    go_wp2_with fail
    refine (isJump_any hkk a b _).mono ?_
    rintro e w5 ⟨rfl, hb⟩
    have HS5 := Lib.hid (HS4.out.below hb)
    have HX5 := Lib.hid (HX4.out.below hb)
    have f5 := three_cellsC HX5.out.at_
    have fC5 := eight_cellsC HS5.out.blk
    clear hb HS4 HX4 f3 fC3 l3 g0 g1 g2 g3 g4 g5 g6 hgl
    go_wp2_with fail
    refine (isLast_any hkk a b _).mono ?_
    rintro e w6 ⟨rfl, hb⟩
    have HS6 := Lib.hid (HS5.out.below hb)
    have HX6 := Lib.hid (HX5.out.below hb)
    have f6 := three_cellsC HX6.out.at_
    have fC6 := eight_cellsC HS6.out.blk
    clear hb HS5 HX5 f5 fC5
    go_wp2_with fail
    go_end0
    exact .inr ⟨rfl, n2, D2, A0, c0, os, most, HS6.out, Ext.refl _ _ _ _ _, d, HP.out.2.1, _, _, _, _, HP.out.2.2.1, (by rw [HTK.out.1]; exact HGE.out), (fun e => by rw [beq_iff_eq.2 e] at e17; cases e17), (fun e => by rw [eJ] at e; cases e), (fun e => by rw [eL] at e; cases e)⟩
  · by_cases hlt : d < t
    · go_wp2_with (go_at_call 19; refine (hgu _).mono ?_; rintro e w7 ⟨rfl, rfl⟩)
      exact ⟨rfl, .inl ⟨⟨3, by decide, rfl⟩, HS4.out.bel⟩⟩
    have HTK : Hid (tkR (kk : Int) b = t ∧ puR (kk : Int) = u) := Lib.hid ⟨by rw [HP.out.2.2.2.1, if_neg (fun h => h.elim (fun e => by rw [beq_iff_eq.2 e] at e12; cases e12) (fun e => by rw [beq_iff_eq.2 e] at e13; cases e13)), Int.add_zero], HP.out.2.2.2.2.1⟩
    have hge : t ≤ d := by omega
    have HGE := Lib.hid hge
    go_wp2_with fail
    refine (isJump_any hkk a b _).mono ?_
    rintro e w5 ⟨rfl, hb⟩
    have HS5 := Lib.hid (HS4.out.below hb)
    have HX5 := Lib.hid (HX4.out.below hb)
    have f5 := three_cellsC HX5.out.at_
    have fC5 := eight_cellsC HS5.out.blk
    clear hb HS4 HX4 f3 fC3 l3 g0 g1 g2 g3 g4 g5 g6 hgl
    go_wp2_with fail
    refine (isLast_any hkk a b _).mono ?_
    rintro e w6 ⟨rfl, hb⟩
    have HS6 := Lib.hid (HS5.out.below hb)
    have HX6 := Lib.hid (HX5.out.below hb)
    have f6 := three_cellsC HX6.out.at_
    have fC6 := eight_cellsC HS6.out.blk
    clear hb HS5 HX5 f5 fC5
    go_wp2_with fail
    refine (blockSize_any hkk a b _).mono ?_
    rintro e w7 ⟨rfl, hb⟩
    have HS7 := Lib.hid (HS6.out.below hb)
    have HX7 := Lib.hid (HX6.out.below hb)
    have f7 := three_cellsC HX7.out.at_
    have fC7 := eight_cellsC HS7.out.blk
    clear hb HS6 HX6 f6 fC6
    have hbk : blkR (kk : Int) b = 0 := by unfold blkR; rw [if_neg (fun e => by rw [beq_iff_eq.2 e] at e17; cases e17)]
    have HBK := Lib.hid hbk
    have hre := reach_any HS7.out ((p : Int)) pv (d + (u - t)) (by omega) (by omega) (by omega) (by omega) (by omega) (by omega) (by omega) (by omega) (by omega) (.inl (by omega))
    go_wp2_with fail
    refine hre.mono ?_
    rintro e w8 (⟨rfl, hb⟩ | ⟨rfl, m8, E8, B8, k8, s8, x8, hS, hK, hc1, hX, hH, hV⟩)
    · exact ⟨rfl, .inl ⟨⟨3, by decide, rfl⟩, hb⟩⟩
    have HS8 := Lib.hid hS
    have HX8 := Lib.hid (HX7.out.kp hK)
    have HE8 := Lib.hid (hX)
    have HXX8 := Lib.hid hX
    have HVl := Lib.hid (And.intro hH hV)
    have f8 := three_cellsC HX8.out.at_
    have fC8 := eight_cellsC HS8.out.blk
    have hmx8 := hX.mx (by omega)
    have hmo8 := hX.mo
    have hct8 := hX.cnt
    clear hre hS hK hX hH hV HS7 HX7 f7 fC7
    go_wp2_with fail
    go_end0
    exact .inr ⟨rfl, _, _, _, _, _, _, HS8.out, HE8.out, d, HE8.out.keepV _ _ HP.out.2.2.2.2.2.1 HP.out.2.1, _, _, _, _, HP.out.2.2.1, (by rw [HTK.out.1]; exact HGE.out), (fun e => by rw [beq_iff_eq.2 e] at e17; cases e17), (fun e => by rw [eJ] at e; cases e), (fun _ => by rw [HTK.out.1, HTK.out.2, HBK.out]; rw [Int.add_zero]; exact HVl.out)⟩
end Go.Proofs.YtdfghcbojbbgcaaDoor.Fl

