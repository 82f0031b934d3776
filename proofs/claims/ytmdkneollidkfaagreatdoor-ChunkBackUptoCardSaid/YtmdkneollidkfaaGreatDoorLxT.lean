/-
  The lexer: a token.
-/
import Derived.Test.YtmdkneollidkfaaGreatDoorLxH
namespace Go.Proofs.YtmdkneollidkfaaGreatDoor.Fl
open Go.RowKit

/-- a token (kind, word, number, place), and the place behind; or an error, and its place -/
abbrev TokR := (Nat × List UInt8 × Int × Nat × Nat) ⊕ (Int × Nat)
def ofKw (q : Nat) : (Nat × List UInt8 × Nat) ⊕ Int → TokR
  | .inl (k, t, p) => .inl (k, t, 0, q, p)
  | .inr n => .inr (n, q)
/-- the token that begins at a place where no blank and no note does -/
def tokAt (s : ByteArray) (q : Nat) : TokR :=
  if q = s.size then .inl (0, [], 0, q, q)
  else if letterN (lookB s q) = true then (if 64 < (midL s q (namedR s q).2).length then .inr (2, q) else .inl ((namedR s q).1, midL s q (namedR s q).2, 0, q, (namedR s q).2))
  else if digitN (lookB s q) = true then (if pe (midL s q (runE digitN s q)) = 0 then .inl (3, [], pv (midL s q (runE digitN s q)), q, runE digitN s q) else .inr (pe (midL s q (runE digitN s q)), q))
  else if lookB s q = 36 then (if q + 1 = s.size then .inr (4, q) else .inl (3, [], lookB s (q + 1), q, q + 2))
  else if lookB s q = 39 then
    match quoA (q + 1) ((sb s).drop (q + 1)) with
    | none => .inr (4, q)
    | some p => if 4096 < (unq (midL s (q + 1) (p - 1))).length then .inr (2, q) else .inl (4, unq (midL s (q + 1) (p - 1)), 0, q, p)
  else if lookB s q = 35 then ofKw q (hashR s q)
  else ofKw q (markR s q)
def tokR (s : ByteArray) (p : Nat) : TokR := match skipA none p ((sb s).drop p) with
  | .inl q => tokAt s q
  | .inr q => .inr (4, q)
def tokV (k : Nat) (t : ByteArray) (n : Int) (q : Nat) : Value := .agg #[.int .i64 (k : Int), .string t, .int .i64 n, .int .i64 (q : Int)]
def TokPost (R : Nat) (s : ByteArray) (r : TokR) (w : World) (e : Ending) (w' : World) : Prop :=
  (∃ k t n q p tb, r = .inl (k, t, n, q, p) ∧ q ≤ s.size ∧ p ≤ s.size ∧ e = .returned (tokV k tb n q) ∧ sb tb = t ∧ RdrAt w' R s p q ∧ Ov R w w') ∨ (∃ n q, r = .inr (n, q) ∧ q ≤ s.size ∧ e = .panicked (faultC n q) ∧ Ov R w w')
/-- what stands while a token is made -/
structure TkW (w0 w : World) (R T C : Nat) (s : ByteArray) (p b : Nat) (v0 v1 v2 v3 : Value) : Prop where
  rdr : RdrAt w R s p b
  tok : w.heap[T]? = some (.cells #[v0, v1, v2, v3] 143 (0, 0))
  res : w.heap[C]? = some (.cells #[.int .i64 0, .string ⟨#[]⟩, .int .i64 0, .int .i64 0] 143 (0, 0))
  ov : Ov R w0 w
  ne : T ≠ R ∧ C ≠ R ∧ T ≠ C ∧ w0.heap.size ≤ T ∧ w0.heap.size ≤ C
abbrev TkS (w0 w : World) (R T C : Nat) (s : ByteArray) (p b q : Nat) : Prop := TkW w0 w R T C s p b (.int .i64 0) (.string ⟨#[]⟩) (.int .i64 0) (.int .i64 (q : Int))
theorem TkW.step {w0 w w' : World} {R T C p b p' b' : Nat} {s : ByteArray} {v0 v1 v2 v3 : Value} (h : TkW w0 w R T C s p b v0 v1 v2 v3) (hr : RdrAt w' R s p' b') (ho : Ov R w w') : TkW w0 w' R T C s p' b' v0 v1 v2 v3 :=
  ⟨hr, (ho.block T (lt_of_blk h.tok) h.ne.1).trans h.tok, (ho.block C (lt_of_blk h.res) h.ne.2.1).trans h.res, h.ov.trans ho, h.ne⟩
theorem TkW.below {w0 w w' : World} {R T C p b : Nat} {s : ByteArray} {v0 v1 v2 v3 : Value} (h : TkW w0 w R T C s p b v0 v1 v2 v3) (hb : Below w.heap.size w w') : TkW w0 w' R T C s p b v0 v1 v2 v3 :=
  h.step (h.rdr.below hb) (Ov.of_below hb)
theorem Ov.above {R B : Nat} {w w' : World} (h : Ov R w w') (hB : w.heap.size ≤ B) (k : Nat) (v : Value) : Ov R w (w'.setCell ⟨B, k, none⟩ v) :=
  ⟨h.os, h.tape, h.output, by simp [World.setCell]; exact h.size, fun j hj hn => (Below.heap_setCell _ _ _ _ (show j ≠ B by omega)).trans (h.block j hj hn)⟩
theorem RdrAt.other {w : World} {R B p b : Nat} {s : ByteArray} (h : RdrAt w R s p b) (hB : B ≠ R) (k : Nat) (v : Value) : RdrAt (w.setCell ⟨B, k, none⟩ v) R s p b :=
  (Below.heap_setCell _ _ _ _ (fun e => hB e.symm)).trans h
theorem TkW.set {w0 w : World} {R T C p b : Nat} {s : ByteArray} {v0 v1 v2 v3 x0 x1 x2 x3 : Value} (h : TkW w0 w R T C s p b v0 v1 v2 v3) (j : Nat) (x : Value) (hx : (#[v0, v1, v2, v3] : Array Value).setIfInBounds j x = #[x0, x1, x2, x3]) : TkW w0 (w.setCell ⟨T, j, none⟩ x) R T C s p b x0 x1 x2 x3 :=
  ⟨h.rdr.other h.ne.1 j x, by rw [← hx]; exact heap_setCell_same w T j _ _ x h.tok, (Below.heap_setCell w ⟨T, j, none⟩ x C (fun e => h.ne.2.2.1 e.symm)).trans h.res, h.ov.above h.ne.2.2.2.1 j x, h.ne⟩
theorem cells4L {w : World} {g : Nat} {v0 v1 v2 v3 : Value} {T : TypeId} (h : w.heap[g]? = some (.cells #[v0, v1, v2, v3] T (0, 0))) :
    w.cell? ⟨g, 0, none⟩ = some v0 ∧ w.cell? ⟨g, 1, none⟩ = some v1 ∧ w.cell? ⟨g, 2, none⟩ = some v2 ∧ w.cell? ⟨g, 3, none⟩ = some v3 ∧ ∀ k, w.frozen? ⟨g, k, none⟩ = false :=
  ⟨cell_of_row _ _ _ _ _ _ h, cell_of_row _ _ _ _ _ _ h, cell_of_row _ _ _ _ _ _ h, cell_of_row _ _ _ _ _ _ h, fun k => frozen_of_row _ _ _ _ _ h⟩
theorem set4 {w : World} {C : Nat} {a0 a1 a2 a3 : Value} {T : TypeId} (h : w.heap[C]? = some (.cells #[a0, a1, a2, a3] T (0, 0))) (v0 v1 v2 v3 : Value) :
    ((((w.setCell ⟨C, 0, none⟩ v0).setCell ⟨C, 1, none⟩ v1).setCell ⟨C, 2, none⟩ v2).setCell ⟨C, 3, none⟩ v3).heap[C]? = some (.cells #[v0, v1, v2, v3] T (0, 0)) :=
  heap_setCell_same _ C 3 _ _ v3 (heap_setCell_same _ C 2 _ _ v2 (heap_setCell_same _ C 1 _ _ v1 (heap_setCell_same w C 0 _ _ v0 h)))
theorem tok_result {W : World} {C : Nat} {v0 v1 v2 v3 : Value} {a : Array Value} (h : W.heap[C]? = some (.cells #[v0, v1, v2, v3] 143 (0, 0))) (ha : a[2]?.getD undef = .pointer (some ⟨C, 0, none⟩)) :
    (results Tryz.f146 a).run Tryz.prog W = .ok (.agg #[v0, v1, v2, v3]) W := by
  obtain ⟨c0, c1, c2, c3, _⟩ := cells4L h
  simp [results, Tryz.results146, go_sem, ha, c0, c1, c2, c3]
/-- the token is handed back -/
theorem TkW.fin {w0 w : World} {R T C p b : Nat} {s : ByteArray} {v0 v1 v2 v3 : Value} (h : TkW w0 w R T C s p b v0 v1 v2 v3) :
    RdrAt ((((w.setCell ⟨C, 0, none⟩ v0).setCell ⟨C, 1, none⟩ v1).setCell ⟨C, 2, none⟩ v2).setCell ⟨C, 3, none⟩ v3) R s p b ∧ Ov R w0 ((((w.setCell ⟨C, 0, none⟩ v0).setCell ⟨C, 1, none⟩ v1).setCell ⟨C, 2, none⟩ v2).setCell ⟨C, 3, none⟩ v3) ∧
      ((((w.setCell ⟨C, 0, none⟩ v0).setCell ⟨C, 1, none⟩ v1).setCell ⟨C, 2, none⟩ v2).setCell ⟨C, 3, none⟩ v3).heap[C]? = some (.cells #[v0, v1, v2, v3] 143 (0, 0)) :=
  ⟨(((h.rdr.other h.ne.2.1 _ _).other h.ne.2.1 _ _).other h.ne.2.1 _ _).other h.ne.2.1 _ _, (((h.ov.above h.ne.2.2.2.2 _ _).above h.ne.2.2.2.2 _ _).above h.ne.2.2.2.2 _ _).above h.ne.2.2.2.2 _ _, set4 h.res _ _ _ _⟩
set_option maxRecDepth 100000 in
set_option maxHeartbeats 8000000 in
theorem token_any (R : Nat) (s : ByteArray) (p b : Nat) (w : World) (h : RdrAt w R s p b) (hs : s.size ≤ 16777216) (hp : p ≤ s.size) (hR0 : 0 < R) (hm : MaxAt w) (hE : ∀ w', Ov R w w' → EnvL w') :
    Calls Tryz.prog 146 #[.pointer (some ⟨R, 0, none⟩)] w (TokPost R s (tokR s p) w) := by
  have hW0 : RdrAt (w.alloc (.cells #[.int .i64 0, .string ⟨#[]⟩, .int .i64 0, .int .i64 0] 143)) R s p b := h.below ((Below.refl _ _).alloc (Nat.le_refl _) _)
  have hsk := skip_any R s p b _ hW0 hs hp
  have hR := lt_of_blk h
  obtain ⟨r, hr⟩ : ∃ r, tokR s p = r := ⟨_, rfl⟩
  rw [hr]
  have HRr := Lib.hid hr
  unfold tokR at HRr
  have HE := Lib.hid hE
  have HMx := Lib.hid (fun (w' : World) (ho : Ov R w w') => show MaxAt w' from by
    obtain ⟨m, hm⟩ := hm
    have hlt := World.block_lt_of_cell? _ _ hm
    exact ⟨m, (World.cell?_of_block (a := ⟨0, 0, none⟩) (ho.block 0 hlt (by omega))).trans hm⟩)
  have HO0 := Lib.hid (Ov.of_below (R := R) ((Below.refl w.heap.size w).alloc (Nat.le_refl _) (.cells #[.int .i64 0, .string ⟨#[]⟩, .int .i64 0, .int .i64 0] 143)))
  generalize skipA none p ((sb s).drop p) = sk at *
  clear h hr hm hE hW0
  go_enter Tryz.func146, Tryz.ntmps146
  go_wp2_with fail
  refine hsk.mono ?_
  rintro e w1 (⟨q, rfl, hq, rfl, h1, ho1⟩ | ⟨q, rfl, hq, rfl, ho1⟩)
  case inr =>
    have HO1 := Lib.hid (HO0.out.trans ho1)
    clear hsk ho1
    go_wp2_with fail
    exact ⟨rfl, .inr ⟨4, q, HRr.out.symm, hq, rfl, HO1.out⟩⟩
  have HR1 := Lib.hid (show r = tokAt s q from HRr.out.symm)
  have H1 := Lib.hid h1
  have HO1 := Lib.hid (HO0.out.trans ho1)
  have hTR : w1.heap.size ≠ R := by have := HO1.out.size; omega
  obtain ⟨c0, c1, c2, cf⟩ := h1.cells
  have hR1 := lt_of_blk h1
  have hC := (ho1.block w.heap.size (by simp) (by omega)).trans (heap_alloc_new w (.cells #[.int .i64 0, .string ⟨#[]⟩, .int .i64 0, .int .i64 0] 143))
  have hCl := lt_of_blk hC
  have hb2 : Below w1.heap.size w1 (w1.alloc (.cells #[.int .i64 0, .string ⟨#[]⟩, .int .i64 0, .int .i64 (q : Int)] 143)) := (Below.refl _ _).alloc (Nat.le_refl _) _
  have HK := Lib.hid (show TkS w (w1.alloc (.cells #[.int .i64 0, .string ⟨#[]⟩, .int .i64 0, .int .i64 (q : Int)] 143)) R w1.heap.size w.heap.size s q q q from
    ⟨h1.below hb2, heap_alloc_new w1 _, (hb2.block _ hCl).trans hC, HO1.out.trans (Ov.of_below hb2), hTR, by omega, by omega, by omega, Nat.le_refl _⟩)
  clear hsk h1 ho1 HRr HO0 hC
  go_upto_region 3 with fail
  generalize hw2 : w1.alloc (.cells #[.int .i64 0, .string ⟨#[]⟩, .int .i64 0, .int .i64 (q : Int)] 143) = w2 at *
  generalize hT : w1.heap.size = T at *
  generalize hCC : w.heap.size = C at *
  have hlk := lxLook_any R s q q 0 w2 HK.out.rdr hs hq (by omega)
  rw [Nat.add_zero] at hlk
  have hc8 := lookB_lt s q
  clear c0 c1 c2 cf hR1 hb2 hCl HO1 H1 hw2 hT
  unfold tokAt at HR1
  by_cases hend : q = s.size
  · have HF := Lib.hid (HR1.out.trans (if_pos hend))
    go_wp2_with fail
    refine hlk.mono ?_
    rintro e w3 ⟨rfl, hb3⟩
    have HK3 := Lib.hid (HK.out.step (HK.out.rdr.below hb3) (Ov.of_below hb3))
    clear hlk hb3 HK
    obtain ⟨c0, c1, c2, cf⟩ := HK3.out.rdr.cells
    have hR3 := lt_of_blk HK3.out.rdr
    go_upto_region 5 with fail
    go_cut [21] (fun v wx => v = .bool true ∧ Hid (Below w3.heap.size w3 wx))
    case first =>
      go_quiet (fail)
      go_wp2_with fail
      all_goals go_meet
      all_goals first
        | exact ⟨rfl, Lib.hid (_root_.Go.below_drewN (Below.refl _ _) _)⟩
        | exact ⟨by simp; omega, Lib.hid (_root_.Go.below_drewN (Below.refl _ _) _)⟩
    case rest =>
      obtain ⟨rfl, HB4⟩ := hcut
      have HK4 := Lib.hid (HK3.out.step (HK3.out.rdr.below HB4.out) (Ov.of_below HB4.out))
      clear c0 c1 c2 cf hR3 HK3 HB4
      have f1 := cells4L HK4.out.tok
      have f2 := cells4L HK4.out.res
      have hT4 := lt_of_blk HK4.out.tok
      have hC4 := lt_of_blk HK4.out.res
      have hne := HK4.out.ne
      go_wp2_with fail
      obtain ⟨g1, g2, g3⟩ := (HK4.out.set 0 (.int .i64 0) rfl).fin
      rw [hend] at g1 g2 g3 HF
      refine bodyPost_ret (v := tokV 0 ⟨#[]⟩ 0 s.size) (tok_result g3 rfl) rfl ?_
      exact .inl ⟨0, [], 0, s.size, s.size, ⟨#[]⟩, HF.out, Nat.le_refl _, Nat.le_refl _, rfl, rfl, g1, g2⟩
  · have HR2 := Lib.hid (HR1.out.trans (if_neg hend))
    have hqlt : q < s.size := by omega
    clear HR1
    go_wp2_with fail
    refine hlk.mono ?_
    rintro e w3 ⟨rfl, hb3⟩
    have HK3 := Lib.hid (HK.out.step (HK.out.rdr.below hb3) (Ov.of_below hb3))
    clear hlk hb3 HK
    obtain ⟨c0, c1, c2, cf⟩ := HK3.out.rdr.cells
    have hR3 := lt_of_blk HK3.out.rdr
    go_upto_region 5 with fail
    go_cut [21] (fun v wx => v = .bool false ∧ Hid (Below w3.heap.size w3 wx))
    case first =>
      go_quiet (fail)
      go_wp2_with fail
      all_goals go_meet
      all_goals first
        | exact ⟨rfl, Lib.hid (_root_.Go.below_drewN (Below.refl _ _) _)⟩
        | exact ⟨by simp; omega, Lib.hid (_root_.Go.below_drewN (Below.refl _ _) _)⟩
    case rest =>
      obtain ⟨rfl, HB4⟩ := hcut
      have HK4 := Lib.hid (HK3.out.step (HK3.out.rdr.below HB4.out) (Ov.of_below HB4.out))
      clear c0 c1 c2 cf hR3 HK3 HB4
      have hlt1 := letterN_any (lookB s q) wc hc8
      cases hle : letterN (lookB s q)
      · have HR3 := Lib.hid (HR2.out.trans (if_neg (by rw [hle]; simp)))
        rw [hle] at hlt1
        have hdg := digitN_any (lookB s q) wc hc8
        cases hdd : digitN (lookB s q)
        · have HR4 := Lib.hid (HR3.out.trans (if_neg (by rw [hdd]; simp)))
          rw [hdd] at hdg
          clear HR2 HR3
          by_cases h36 : lookB s q = 36
          · have HR5 := Lib.hid (HR4.out.trans (if_pos h36))
            rw [h36] at hlt1 hdg ⊢
            have hch := lxChar_any R s q q wc HK4.out.rdr hs hqlt
            clear HR4 hle hdd hc8 HMx HE
            go_wp2_with fail
            refine hlt1.mono ?_
            rintro e w' ⟨rfl, rfl⟩
            clear hlt1
            go_wp2_with fail
            refine hdg.mono ?_
            rintro e w' ⟨rfl, rfl⟩
            clear hdg
            go_wp2_with fail
            refine hch.mono ?_
            rintro e w4 (⟨hq1, rfl, ho4⟩ | ⟨hq1, rfl, h4, ho4⟩)
            · have HF := Lib.hid (HR5.out.trans (if_pos hq1))
              have HO5 := Lib.hid (HK4.out.ov.trans ho4)
              clear hch ho4
              go_wp2_with fail
              exact ⟨rfl, .inr ⟨4, q, HF.out, hq, rfl, HO5.out⟩⟩
            · have HF := Lib.hid (HR5.out.trans (if_neg (by omega)))
              have hlb : lookB s (q + 1) = s[q + 1].toNat := by unfold lookB; rw [dif_pos hq1]
              rw [hlb] at HF
              have HK5 := Lib.hid (HK4.out.step h4 ho4)
              clear hch h4 ho4 HK4 hlb
              generalize s[q + 1].toNat = v at *
              have f1 := cells4L HK5.out.tok
              have f2 := cells4L HK5.out.res
              have hT5 := lt_of_blk HK5.out.tok
              have hC5 := lt_of_blk HK5.out.res
              have hne := HK5.out.ne
              go_wp2_with fail
              obtain ⟨g1, g2, g3⟩ := ((HK5.out.set 0 (.int .i64 3) rfl).set 2 (.int .i64 (v : Int)) rfl).fin
              refine bodyPost_ret (v := tokV 3 ⟨#[]⟩ v q) (tok_result g3 rfl) rfl ?_
              exact .inl ⟨3, [], v, q, q + 2, ⟨#[]⟩, HF.out, hq, hq1, rfl, rfl, g1, g2⟩
          · have HR5 := Lib.hid (HR4.out.trans (if_neg h36))
            have h36' : ((lookB s q : Int) == 36) = false := by simp; omega
            clear HR4
            by_cases h39 : lookB s q = 39
            · have HR6 := Lib.hid (HR5.out.trans (if_pos h39))
              have hqu := quoted_any R s q q wc HK4.out.rdr hs hqlt hR0 (HMx.out wc HK4.out.ov)
              rw [h39] at hlt1 hdg ⊢
              clear HR5 hle hdd hc8 HMx HE h36 h36'
              generalize quoA (q + 1) ((sb s).drop (q + 1)) = qo at *
              go_wp2_with fail
              refine hlt1.mono ?_
              rintro e w' ⟨rfl, rfl⟩
              clear hlt1
              go_wp2_with fail
              refine hdg.mono ?_
              rintro e w' ⟨rfl, rfl⟩
              clear hdg
              go_wp2_with fail
              refine hqu.mono ?_
              rintro e w4 (⟨rfl, rfl, ho4⟩ | ⟨q2, t, rfl, hq1, hqs, rfl, ht, h4, ho4⟩)
              · have HO5 := Lib.hid (HK4.out.ov.trans ho4)
                clear hqu ho4
                go_wp2_with fail
                exact ⟨rfl, .inr ⟨4, q, HR6.out, hq, rfl, HO5.out⟩⟩
              · have HK5 := Lib.hid (HK4.out.step h4 ho4)
                have HT := Lib.hid ht
                have htl : t.size ≤ 16777216 := by
                  rw [sb_size, ht]
                  have h1 := unq_len (midL s (q + 1) (q2 - 1))
                  rw [midL_len s (by omega)] at h1
                  omega
                have hli := limited_any R s t q2 q 4096 w4 h4 htl
                clear hqu h4 ho4 ht HK4
                go_wp2_with fail
                refine hli.mono ?_
                rintro e w' ⟨rfl, (⟨hl4, rfl⟩ | ⟨hl4, rfl⟩)⟩
                · have HF := Lib.hid (HR6.out.trans (if_neg (show ¬ 4096 < (unq (midL s (q + 1) (q2 - 1))).length by rw [← HT.out, ← sb_size]; omega)))
                  clear hli
                  have f1 := cells4L HK5.out.tok
                  have f2 := cells4L HK5.out.res
                  have hT5 := lt_of_blk HK5.out.tok
                  have hC5 := lt_of_blk HK5.out.res
                  have hne := HK5.out.ne
                  go_wp2_with fail
                  obtain ⟨g1, g2, g3⟩ := ((HK5.out.set 0 (.int .i64 4) rfl).set 1 (.string t) rfl).fin
                  refine bodyPost_ret (v := tokV 4 t 0 q) (tok_result g3 rfl) rfl ?_
                  exact .inl ⟨4, _, 0, q, q2, t, HF.out, hq, hqs, rfl, HT.out, g1, g2⟩
                · have HF := Lib.hid (HR6.out.trans (if_pos (show 4096 < (unq (midL s (q + 1) (q2 - 1))).length by rw [← HT.out, ← sb_size]; omega)))
                  have HO5 := Lib.hid HK5.out.ov
                  clear hli
                  go_wp2_with fail
                  exact ⟨rfl, .inr ⟨2, q, HF.out, hq, rfl, HO5.out⟩⟩
            · have HR6 := Lib.hid (HR5.out.trans (if_neg h39))
              have h39' : ((lookB s q : Int) == 39) = false := by simp; omega
              clear HR5
              by_cases h35 : lookB s q = 35
              · have HR7 := Lib.hid (HR6.out.trans (if_pos h35))
                rw [h35] at hlt1 hdg ⊢
                clear HR6 hle hdd hc8 h36 h36' h39 h39'
                have hkw := hashed_any R s q q wc HK4.out.rdr hs hqlt hR0 (HMx.out wc HK4.out.ov)
                clear HMx HE
                go_wp2_with fail
                refine hlt1.mono ?_
                rintro e w' ⟨rfl, rfl⟩
                clear hlt1
                go_wp2_with fail
                refine hdg.mono ?_
                rintro e w' ⟨rfl, rfl⟩
                clear hdg
                go_wp2_with fail
                refine hkw.mono ?_
                rintro e w4 (⟨k, t, q2, tb, hsp, hlt2, hle2, rfl, ht, h4, ho4⟩ | ⟨n, hsp, rfl, ho4⟩)
                · have HK5 := Lib.hid (HK4.out.step h4 ho4)
                  have HT := Lib.hid ht
                  have HF := Lib.hid (HR7.out.trans (by rw [hsp]; rfl : _ = (.inl (k, t, 0, q, q2) : TokR)))
                  clear hkw h4 ho4 ht hsp HK4
                  have f1 := cells4L HK5.out.tok
                  have f2 := cells4L HK5.out.res
                  have hT5 := lt_of_blk HK5.out.tok
                  have hC5 := lt_of_blk HK5.out.res
                  have hne := HK5.out.ne
                  go_wp2_with fail
                  obtain ⟨g1, g2, g3⟩ := ((HK5.out.set 0 (.int .i64 (k : Int)) rfl).set 1 (.string tb) rfl).fin
                  refine bodyPost_ret (v := tokV k tb 0 q) (tok_result g3 rfl) rfl ?_
                  exact .inl ⟨k, t, 0, q, q2, tb, HF.out, hq, hle2, rfl, HT.out, g1, g2⟩
                · have HF := Lib.hid (HR7.out.trans (by rw [hsp]; rfl : _ = (.inr (n, q) : TokR)))
                  have HO5 := Lib.hid (HK4.out.ov.trans ho4)
                  clear hkw ho4 hsp
                  go_wp2_with fail
                  exact ⟨rfl, .inr ⟨n, q, HF.out, hq, rfl, HO5.out⟩⟩
              · have HR7 := Lib.hid (HR6.out.trans (if_neg h35))
                have h35' : ((lookB s q : Int) == 35) = false := by simp; omega
                clear HR6 hle hdd hc8
                generalize lookB s q = c at *
                have hkw := mark_any R s q q wc HK4.out.rdr hs hqlt
                clear HMx HE
                go_wp2_with fail
                refine hlt1.mono ?_
                rintro e w' ⟨rfl, rfl⟩
                clear hlt1
                go_wp2_with fail
                refine hdg.mono ?_
                rintro e w' ⟨rfl, rfl⟩
                clear hdg
                go_wp2_with fail
                refine hkw.mono ?_
                rintro e w4 (⟨k, t, q2, tb, hsp, hlt2, hle2, rfl, ht, h4, ho4⟩ | ⟨n, hsp, rfl, ho4⟩)
                · have HK5 := Lib.hid (HK4.out.step h4 ho4)
                  have HT := Lib.hid ht
                  have HF := Lib.hid (HR7.out.trans (by rw [hsp]; rfl : _ = (.inl (k, t, 0, q, q2) : TokR)))
                  clear hkw h4 ho4 ht hsp HK4
                  have f1 := cells4L HK5.out.tok
                  have f2 := cells4L HK5.out.res
                  have hT5 := lt_of_blk HK5.out.tok
                  have hC5 := lt_of_blk HK5.out.res
                  have hne := HK5.out.ne
                  go_wp2_with fail
                  obtain ⟨g1, g2, g3⟩ := ((HK5.out.set 0 (.int .i64 (k : Int)) rfl).set 1 (.string tb) rfl).fin
                  refine bodyPost_ret (v := tokV k tb 0 q) (tok_result g3 rfl) rfl ?_
                  exact .inl ⟨k, t, 0, q, q2, tb, HF.out, hq, hle2, rfl, HT.out, g1, g2⟩
                · have HF := Lib.hid (HR7.out.trans (by rw [hsp]; rfl : _ = (.inr (n, q) : TokR)))
                  have HO5 := Lib.hid (HK4.out.ov.trans ho4)
                  clear hkw ho4 hsp
                  go_wp2_with fail
                  exact ⟨rfl, .inr ⟨n, q, HF.out, hq, rfl, HO5.out⟩⟩
        · have HR4 := Lib.hid (HR3.out.trans (if_pos hdd))
          rw [hdd] at hdg
          have hnu := lxNumber_any R s q q wc HK4.out.rdr hs hq (HE.out wc HK4.out.ov) (fun w' ho => HE.out w' (HK4.out.ov.trans ho))
          have hqe := (runE_le (f := digitN) hq).2
          clear HR2 HR3 hle hdd hc8 HMx HE
          generalize lookB s q = c at *
          generalize pe (midL s q (runE digitN s q)) = P at *
          generalize pv (midL s q (runE digitN s q)) = V at *
          generalize runE digitN s q = q2 at *
          go_wp2_with fail
          refine hlt1.mono ?_
          rintro e w' ⟨rfl, rfl⟩
          clear hlt1
          go_wp2_with fail
          refine hdg.mono ?_
          rintro e w' ⟨rfl, rfl⟩
          clear hdg
          go_wp2_with fail
          refine hnu.mono ?_
          rintro e w4 (⟨hP, rfl, h4, ho4⟩ | ⟨hP, rfl, ho4⟩)
          · have HF := Lib.hid (HR4.out.trans (if_pos hP))
            have HK5 := Lib.hid (HK4.out.step h4 ho4)
            clear hnu h4 ho4 HK4
            have f1 := cells4L HK5.out.tok
            have f2 := cells4L HK5.out.res
            have hT5 := lt_of_blk HK5.out.tok
            have hC5 := lt_of_blk HK5.out.res
            have hne := HK5.out.ne
            go_wp2_with fail
            obtain ⟨g1, g2, g3⟩ := ((HK5.out.set 0 (.int .i64 3) rfl).set 2 (.int .i64 V) rfl).fin
            refine bodyPost_ret (v := tokV 3 ⟨#[]⟩ V q) (tok_result g3 rfl) rfl ?_
            exact .inl ⟨3, [], V, q, q2, ⟨#[]⟩, HF.out, hq, hqe, rfl, rfl, g1, g2⟩
          · have HF := Lib.hid (HR4.out.trans (if_neg hP))
            have HO5 := Lib.hid (HK4.out.ov.trans ho4)
            clear hnu ho4
            go_wp2_with fail
            exact ⟨rfl, .inr ⟨P, q, HF.out, hq, rfl, HO5.out⟩⟩
      · have HR3 := Lib.hid (HR2.out.trans (if_pos hle))
        rw [hle] at hlt1
        have hna := named_any R s q q wc HK4.out.rdr hs hq
        have hnl := namedR_le (s := s) hq
        clear HR2 hle hc8 HMx HE
        generalize lookB s q = c at *
        generalize (namedR s q).1 = k at *
        generalize (namedR s q).2 = q2 at *
        go_wp2_with fail
        refine hlt1.mono ?_
        rintro e w' ⟨rfl, rfl⟩
        clear hlt1
        go_wp2_with fail
        refine hna.mono ?_
        rintro e w4 ⟨rfl, h4, ho4⟩
        have HK5 := Lib.hid (HK4.out.step h4 ho4)
        clear hna h4 ho4 HK4
        have f1 := cells4L HK5.out.tok
        have hT5 := lt_of_blk HK5.out.tok
        have hml := midL_len s (a := q) hnl.2
        have htl : (s.extract q q2).size = q2 - q := by simp; omega
        have HT := Lib.hid (mid_eq s q q2)
        have hli := fun (w' : World) (h' : RdrAt w' R s q2 q) => limited_any R s (s.extract q q2) q2 q 64 w' h' (by omega)
        go_upto_region 9 with fail
        have HKk := Lib.hid (HK5.out.set 0 (.int .i64 (k : Int)) rfl)
        generalize w4.setCell ⟨T, 0, none⟩ (.int .i64 (k : Int)) = w5 at *
        clear f1 hT5 HK5
        obtain ⟨c0, c1, c2, cf⟩ := HKk.out.rdr.cells
        have hR5 := lt_of_blk HKk.out.rdr
        have f1 := cells4L HKk.out.tok
        have hT5 := lt_of_blk HKk.out.tok
        by_cases h64 : 64 < (midL s q q2).length
        · have HF := Lib.hid (HR3.out.trans (if_pos h64))
          have hlo : ∀ (w' : World), RdrAt w' R s q2 q → Calls Tryz.prog 176 #[.pointer (some ⟨R, 0, none⟩), .string (s.extract q q2), .int .i64 64] w' fun e w2 => e = .panicked (faultC 2 q) ∧ w' = w2 := fun w' h' => (hli w' h').mono fun e w2 h9 => by
            rcases h9 with ⟨e1, h9 | h9⟩
            · omega
            · exact ⟨h9.2, e1⟩
          clear hli hml htl
          have hS5 : (fun w' : World => w'.cell? ⟨R, 0, none⟩ = some (.string s) ∧ w'.cell? ⟨R, 1, none⟩ = some (.int .i64 (q2 : Int)) ∧ w'.cell? ⟨R, 2, none⟩ = some (.int .i64 (q : Int))) w5.drew := ⟨c0, c1, c2⟩
          refine wp_region_held_drew (S := (fun w' : World => w'.cell? ⟨R, 0, none⟩ = some (.string s) ∧ w'.cell? ⟨R, 1, none⟩ = some (.int .i64 (q2 : Int)) ∧ w'.cell? ⟨R, 2, none⟩ = some (.int .i64 (q : Int)))) (by kernel_rfl) hS5 (fun hHeld => ?_)
          refine wpAnyH_take (i := 0) (v := ?_) (by first | (simp only [List.getElem?_toArray, List.getElem?_cons_succ, List.getElem?_cons_zero]; rfl) | rfl) (by kernel_rfl) (by kernel_rfl) (by kernel_rfl) (fun _ a9 _ h => (by cases a9; simpa [Exit.then, Exit.inBlock, bodyPost, Act.put] using h)) (Or.inl ⟨by rfl, ?_⟩) (by assumption) ?_
          rotate_left 1
          · (intro w' hSw; (try dsimp only at hSw); go_simp; (try with_reducible rfl))
          try simp only [Act.put, List.setIfInBounds_toArray, List.set_cons_zero, List.set_cons_succ]
          refine wpAnyH_take (i := 1) (v := ?_) (by first | (simp only [List.getElem?_toArray, List.getElem?_cons_succ, List.getElem?_cons_zero]; rfl) | rfl) (by kernel_rfl) (by kernel_rfl) (by kernel_rfl) (fun _ a9 _ h => (by cases a9; simpa [Exit.then, Exit.inBlock, bodyPost, Act.put] using h)) (Or.inl ⟨by rfl, ?_⟩) (by assumption) ?_
          rotate_left 1
          · (intro w' hSw; (try dsimp only at hSw); go_simp; (try with_reducible rfl))
          try simp only [Act.put, List.setIfInBounds_toArray, List.set_cons_zero, List.set_cons_succ]
          refine wpAnyH_take (i := 2) (v := ?_) (by first | (simp only [List.getElem?_toArray, List.getElem?_cons_succ, List.getElem?_cons_zero]; rfl) | rfl) (by kernel_rfl) (by kernel_rfl) (by kernel_rfl) (fun _ a9 _ h => (by cases a9; simpa [Exit.then, Exit.inBlock, bodyPost, Act.put] using h)) (Or.inl ⟨by rfl, ?_⟩) (by assumption) ?_
          rotate_left 1
          · (intro w' hSw; (try dsimp only at hSw); go_simp; (try with_reducible rfl))
          try simp only [Act.put, List.setIfInBounds_toArray, List.set_cons_zero, List.set_cons_succ]
          refine wpAnyH_take (i := 3) (v := ?_) (by first | (simp only [List.getElem?_toArray, List.getElem?_cons_succ, List.getElem?_cons_zero]; rfl) | rfl) (by kernel_rfl) (by kernel_rfl) (by kernel_rfl) (fun _ a9 _ h => (by cases a9; simpa [Exit.then, Exit.inBlock, bodyPost, Act.put] using h)) (Or.inl ⟨by rfl, ?_⟩) (by assumption) ?_
          rotate_left 1
          · (intro w' hSw; (try dsimp only at hSw); go_simp; (try with_reducible rfl))
          try simp only [Act.put, List.setIfInBounds_toArray, List.set_cons_zero, List.set_cons_succ]
          refine wpAnyH_take (i := 4) (v := ?_) (by first | (simp only [List.getElem?_toArray, List.getElem?_cons_succ, List.getElem?_cons_zero]; rfl) | rfl) (by kernel_rfl) (by kernel_rfl) (by kernel_rfl) (fun _ a9 _ h => (by cases a9; simpa [Exit.then, Exit.inBlock, bodyPost, Act.put] using h)) (Or.inl ⟨by rfl, ?_⟩) (by assumption) ?_
          rotate_left 1
          · (intro w' hSw; (try dsimp only at hSw); go_simp; (try with_reducible rfl))
          try simp only [Act.put, List.setIfInBounds_toArray, List.set_cons_zero, List.set_cons_succ]
          refine wpAnyH_take (i := 5) (v := ?_) (by first | (simp only [List.getElem?_toArray, List.getElem?_cons_succ, List.getElem?_cons_zero]; rfl) | rfl) (by kernel_rfl) (by kernel_rfl) (by kernel_rfl) (fun _ a9 _ h => (by cases a9; simpa [Exit.then, Exit.inBlock, bodyPost, Act.put] using h)) (Or.inl ⟨by rfl, ?_⟩) (by assumption) ?_
          rotate_left 1
          · (intro w' hSw; (try dsimp only at hSw); go_simp; (try with_reducible rfl))
          try simp only [Act.put, List.setIfInBounds_toArray, List.set_cons_zero, List.set_cons_succ]
          refine wpAnyH_take (i := 6) (v := ?_) (by first | (simp only [List.getElem?_toArray, List.getElem?_cons_succ, List.getElem?_cons_zero]; rfl) | rfl) (by kernel_rfl) (by kernel_rfl) (by kernel_rfl) (fun _ a9 _ h => (by cases a9; simpa [Exit.then, Exit.inBlock, bodyPost, Act.put] using h)) (Or.inl ⟨by rfl, ?_⟩) (by assumption) ?_
          rotate_left 1
          · (intro w' hSw; (try dsimp only at hSw); go_simp; (try with_reducible rfl))
          try simp only [Act.put, List.setIfInBounds_toArray, List.set_cons_zero, List.set_cons_succ]
          refine wpAnyH_take (i := 7) (v := ?_) (by first | (simp only [List.getElem?_toArray, List.getElem?_cons_succ, List.getElem?_cons_zero]; rfl) | rfl) (by kernel_rfl) (by kernel_rfl) (by kernel_rfl) (fun _ a9 _ h => (by cases a9; simpa [Exit.then, Exit.inBlock, bodyPost, Act.put] using h)) (Or.inl ⟨by rfl, ?_⟩) (by assumption) ?_
          rotate_left 1
          · (intro w' hSw; (try dsimp only at hSw); go_simp; (try with_reducible rfl))
          try simp only [Act.put, List.setIfInBounds_toArray, List.set_cons_zero, List.set_cons_succ]
          refine wpAnyH_take (i := 8) (v := ?_) (by first | (simp only [List.getElem?_toArray, List.getElem?_cons_succ, List.getElem?_cons_zero]; rfl) | rfl) (by kernel_rfl) (by kernel_rfl) (by kernel_rfl) (fun _ a9 _ h => (by cases a9; simpa [Exit.then, Exit.inBlock, bodyPost, Act.put] using h)) (Or.inl ⟨by rfl, ?_⟩) (by assumption) ?_
          rotate_left 1
          · (intro w' hSw; (try dsimp only at hSw); go_simp; (try with_reducible rfl))
          try simp only [Act.put, List.setIfInBounds_toArray, List.set_cons_zero, List.set_cons_succ]
          refine wpAnyH_take (i := 9) (v := ?_) (by first | (simp only [List.getElem?_toArray, List.getElem?_cons_succ, List.getElem?_cons_zero]; rfl) | rfl) (by kernel_rfl) (by kernel_rfl) (by kernel_rfl) (fun _ a9 _ h => (by cases a9; simpa [Exit.then, Exit.inBlock, bodyPost, Act.put] using h)) (Or.inl ⟨by rfl, ?_⟩) (by assumption) ?_
          rotate_left 1
          · (intro w' hSw; (try dsimp only at hSw); go_simp; (try with_reducible rfl))
          try simp only [Act.put, List.setIfInBounds_toArray, List.set_cons_zero, List.set_cons_succ]
          refine wpAnyH_take (i := 10) (v := ?_) (by first | (simp only [List.getElem?_toArray, List.getElem?_cons_succ, List.getElem?_cons_zero]; rfl) | rfl) (by kernel_rfl) (by kernel_rfl) (by kernel_rfl) (fun _ a9 _ h => (by cases a9; simpa [Exit.then, Exit.inBlock, bodyPost, Act.put] using h)) (Or.inl ⟨by rfl, ?_⟩) (by assumption) ?_
          rotate_left 1
          · (intro w' hSw; (try dsimp only at hSw); go_simp; (try with_reducible rfl))
          try simp only [Act.put, List.setIfInBounds_toArray, List.set_cons_zero, List.set_cons_succ]
          refine wpAnyH_take (i := 11) (v := ?_) (by first | (simp only [List.getElem?_toArray, List.getElem?_cons_succ, List.getElem?_cons_zero]; rfl) | rfl) (by kernel_rfl) (by kernel_rfl) (by kernel_rfl) (fun _ a9 _ h => (by cases a9; simpa [Exit.then, Exit.inBlock, bodyPost, Act.put] using h)) (Or.inl ⟨by rfl, ?_⟩) (by assumption) ?_
          rotate_left 1
          · (intro w' hSw; (try dsimp only at hSw); go_simp; (try with_reducible rfl))
          try simp only [Act.put, List.setIfInBounds_toArray, List.set_cons_zero, List.set_cons_succ]
          refine wpAnyH_take (i := 12) (v := ?_) (by first | (simp only [List.getElem?_toArray, List.getElem?_cons_succ, List.getElem?_cons_zero]; rfl) | rfl) (by kernel_rfl) (by kernel_rfl) (by kernel_rfl) (fun _ a9 _ h => (by cases a9; simpa [Exit.then, Exit.inBlock, bodyPost, Act.put] using h)) (Or.inl ⟨by rfl, ?_⟩) (by assumption) ?_
          rotate_left 1
          · (intro w' hSw; (try dsimp only at hSw); go_simp; (try with_reducible rfl))
          try simp only [Act.put, List.setIfInBounds_toArray, List.set_cons_zero, List.set_cons_succ]
          refine wpAnyH_take (i := 13) (v := ?_) (by first | (simp only [List.getElem?_toArray, List.getElem?_cons_succ, List.getElem?_cons_zero]; rfl) | rfl) (by kernel_rfl) (by kernel_rfl) (by kernel_rfl) (fun _ a9 _ h => (by cases a9; simpa [Exit.then, Exit.inBlock, bodyPost, Act.put] using h)) (Or.inl ⟨by rfl, ?_⟩) (by assumption) ?_
          rotate_left 1
          · (intro w' hSw; (try dsimp only at hSw); go_simp; (try with_reducible rfl))
          try simp only [Act.put, List.setIfInBounds_toArray, List.set_cons_zero, List.set_cons_succ]
          refine wpAnyH_ready (rs := [14]) (by kernel_rfl) (by simp) ?_
          refine AllReadyH.cons (by first | (simp only [List.getElem?_toArray, List.getElem?_cons_succ, List.getElem?_cons_zero]; rfl) | rfl) (fun K hK => ?_) AllReadyH.nil
          go_simp
          refine (hlo _ (HKk.out.rdr.below ((Below.refl _ _).drew))).mono ?_
          rintro e w7 ⟨rfl, rfl⟩
          exact ⟨rfl, .inr ⟨2, q, HF.out, hq, rfl, HKk.out.ov.trans (Ov.of_below ((Below.refl _ _).drew))⟩⟩
        · have HF := Lib.hid (HR3.out.trans (if_neg h64))
          have hlo : ∀ (w' : World), RdrAt w' R s q2 q → Calls Tryz.prog 176 #[.pointer (some ⟨R, 0, none⟩), .string (s.extract q q2), .int .i64 64] w' fun e w2 => e = .returned (.string (s.extract q q2)) ∧ w' = w2 := fun w' h' => (hli w' h').mono fun e w2 h9 => by
            rcases h9 with ⟨e1, h9 | h9⟩
            · exact ⟨h9.2, e1⟩
            · omega
          clear hli hml htl
          go_region_with ((go_at_call 176; refine (hlo _ (HKk.out.rdr.below ((Below.refl _ _).drew))).mono ?_; rintro e w7 ⟨rfl, rfl⟩))
          all_goals
            rename_i hK
            refine hK _ _ ?_
            have HK6 := Lib.hid ((HKk.out.set 1 (.string (s.extract q q2)) rfl).below ((Below.refl _ _).drew))
            clear hK hlo c0 c1 c2 cf hR5 f1 hT5 HKk
            generalize (w5.setCell ⟨T, 1, none⟩ (.string (s.extract q q2))).drew = w6 at *
            have f1 := cells4L HK6.out.tok
            have f2 := cells4L HK6.out.res
            have hT6 := lt_of_blk HK6.out.tok
            have hC6 := lt_of_blk HK6.out.res
            have hne := HK6.out.ne
            go_wp2_with fail
            obtain ⟨g1, g2, g3⟩ := HK6.out.fin
            refine bodyPost_ret (v := tokV k (s.extract q q2) 0 q) (tok_result g3 rfl) rfl ?_
            exact .inl ⟨k, _, 0, q, q2, s.extract q q2, HF.out, hq, hnl.2, rfl, HT.out, g1, g2⟩
end Go.Proofs.YtmdkneollidkfaaGreatDoor.Fl
