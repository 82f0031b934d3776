/-
  Instructions: Check's reach, of the laws' fixed code.
-/
import Derived.Test.YtdfghcbojbbgcaaDoorCdP
namespace Go.Proofs.YtdfghcbojbbgcaaDoor.Fl
open Go.RowKit Go.Maps

theorem sizeC (w : World) (p : Addr) (v : Value) : (w.setCell p v).heap.size = w.heap.size := by simp [World.setCell]
theorem rd_oneZs (w : World) (p : Addr) (u : Value) (x : Int) : Rd ((w.setCell p u).alloc (.cells #[.int .i64 x] 3)) ((w.setCell p u).alloc (.cells #[.int .i64 x] 3)).heap.size (some ⟨w.heap.size, 0, none⟩) (cz [x]) := by
  have h := rd_oneZi (w.setCell p u) x
  rw [sizeC w p u] at h
  exact h
section
variable {w0 w w1 w4 : World} {base C c M1 M2 n : Nat} {A : Option Addr} {D D' : DataW Unit} {v v4 : Value} {os ts : List Int} {m0 dp : Int} {o : Obj}
theorem CkS.size (h : CkS w0 w base C c M1 M2 A n D v os m0) : base ≤ w.heap.size := Nat.le_trans h.lo.2.2.2 h.bel.size
theorem reach_blk (h : CkS w0 w base C c M1 M2 A n D v os m0) (hg : w.grownBy w1 (some M2)) : w1.heap[C]? = some (.cells #[.slice A 3 c, .int .i64 0, .int .i64 0, .int .i64 0, .map (some M1), .map (some M2), v, .int .i64 m0] 48 (0, 0)) :=
  (hg.block C (lt_of_blkC h.blk) (fun e => h.ne.2.1 (by injection e))).trans h.blk
theorem reach_mid (h : CkS w0 w base C c M1 M2 A n D v os m0) (hg : w.grownBy w1 (some M2)) : base ≤ (w1.setCell ⟨C, 7, none⟩ (.int .i64 dp)).heap.size ∧ OwnZ ((w1.setCell ⟨C, 7, none⟩ (.int .i64 dp)).alloc o) base v os := by
  have h1 := hg.size
  have h2 := h.size
  refine ⟨by rw [sizeC]; omega, h.row.keep (fun j hj => ?_)⟩
  have hf := h.far j hj
  have hl := (World.ownsRow.lt h.row j hj).2
  rw [Below.heap_alloc _ _ _ (by rw [sizeC]; omega), Below.heap_setCell _ _ _ _ hf.1]
  exact hg.block j hl (fun e => hf.2.2 (by injection e))
theorem reach_c4 (h : CkS w0 w base C c M1 M2 A n D v os m0) (hg : w.grownBy w1 (some M2)) (hb : Below base ((w1.setCell ⟨C, 7, none⟩ (.int .i64 dp)).alloc o) w4 ∧ (∀ k, k < ((w1.setCell ⟨C, 7, none⟩ (.int .i64 dp)).alloc o).heap.size → some k ≠ v.ownBlock → w4.heap[k]? = ((w1.setCell ⟨C, 7, none⟩ (.int .i64 dp)).alloc o).heap[k]?) ∧ (v4.ownBlock = v.ownBlock ∨ v4.ownBlock = some ((w1.setCell ⟨C, 7, none⟩ (.int .i64 dp)).alloc o).heap.size)) : w4.heap[C]? = some (.cells #[.slice A 3 c, .int .i64 0, .int .i64 0, .int .i64 0, .map (some M1), .map (some M2), v, .int .i64 dp] 48 (0, 0)) := by
  have h1 := hg.size
  obtain ⟨_, hb2, _⟩ := hb
  have hCl := lt_of_blkC h.blk
  rw [World.size_alloc, sizeC] at hb2
  have nC : some C ≠ v.ownBlock := fun e => (h.far C e.symm).1 rfl
  exact (hb2 C (by omega) nC).trans ((Below.heap_alloc _ _ _ (by rw [sizeC]; omega)).trans (heap_setCell_same w1 C 7 _ _ (.int .i64 dp) (reach_blk h hg)))
theorem reach_end (h : CkS w0 w base C c M1 M2 A n D v os m0) (hg : w.grownBy w1 (some M2)) (hm : OwnM w1 M2 (n + 1) D') (ho : OwnZ w4 base v4 ts)
    (hb : Below base ((w1.setCell ⟨C, 7, none⟩ (.int .i64 dp)).alloc o) w4 ∧ (∀ k, k < ((w1.setCell ⟨C, 7, none⟩ (.int .i64 dp)).alloc o).heap.size → some k ≠ v.ownBlock → w4.heap[k]? = ((w1.setCell ⟨C, 7, none⟩ (.int .i64 dp)).alloc o).heap[k]?) ∧ (v4.ownBlock = v.ownBlock ∨ v4.ownBlock = some ((w1.setCell ⟨C, 7, none⟩ (.int .i64 dp)).alloc o).heap.size)) :
    CkS w0 (w4.setCell ⟨C, 6, none⟩ v4) base C c M1 M2 A (n + 1) D' v4 ts dp := by
  have h1 := hg.size
  have h2 := h.size
  obtain ⟨hb1, hb2, hb3⟩ := hb
  have hCl := lt_of_blkC h.blk
  have hM1 := h.m1.lt
  have hM2 := h.m2.lt
  have hne := h.ne
  have hlo := h.lo
  rw [World.size_alloc, sizeC] at hb2 hb3
  have nC : some C ≠ v.ownBlock := fun e => (h.far C e.symm).1 rfl
  have n1 : some M1 ≠ v.ownBlock := fun e => (h.far M1 e.symm).2.1 rfl
  have n2 : some M2 ≠ v.ownBlock := fun e => (h.far M2 e.symm).2.2 rfl
  have k4 : ∀ k, k < w.heap.size → some k ≠ v.ownBlock → k ≠ C → w4.heap[k]? = w1.heap[k]? := fun k hk hn hc => by
    rw [hb2 k (by omega) hn, Below.heap_alloc _ _ _ (by rw [sizeC]; omega), Below.heap_setCell _ _ _ _ hc]
  have hC4 := (hb2 C (by omega) nC).trans ((Below.heap_alloc _ _ _ (by rw [sizeC]; omega)).trans (heap_setCell_same w1 C 7 _ _ (.int .i64 dp) (reach_blk h hg)))
  have hw1 : Below base w w1 := (Below.refl _ _).grown hg h2 (fun j hj => by injection hj with hj; omega)
  refine ⟨(h.bel.trans (((hw1.setCell (p := ⟨C, 7, none⟩) hlo.1 _).alloc (by rw [sizeC]; omega) o).trans hb1)).setCell (p := ⟨C, 6, none⟩) hlo.1 _, heap_setCell_same w4 C 6 _ _ v4 hC4, ?_, ?_, ?_, ?_, hlo, hne⟩
  · refine h.m1.keep ?_
    rw [Below.heap_setCell _ _ _ _ hne.1.symm, k4 M1 hM1 n1 hne.1.symm]
    exact hg.block M1 hM1 (fun e => hne.2.2 (by injection e))
  · refine hm.keep ?_
    rw [Below.heap_setCell _ _ _ _ hne.2.1.symm, k4 M2 hM2 n2 hne.2.1.symm]
  · refine ho.keep (fun j hj => Below.heap_setCell _ _ _ _ ?_)
    rcases hb3 with e | e
    · exact (h.far j (e.symm.trans hj)).1
    · rw [hj] at e
      injection e with e
      show j ≠ C
      omega
  · intro j hj
    rcases hb3 with e | e
    · exact h.far j (e.symm.trans hj)
    · rw [hj] at e; injection e with e; omega
end
set_option maxRecDepth 100000 in
set_option maxHeartbeats 4000000 in
theorem reach_fix {w0 w : World} {base C c M1 M2 n : Nat} {A A0 : Option Addr} {c0 : Nat} {D : DataW Unit} {os : List Int} {at_ dp : Int} (h : CkS w0 w base C c M1 M2 A n D (.slice A0 os.length c0) os 0) (hat : (at_ = 0 ∧ dp = 0) ∨ (at_ = 2 ∧ dp = 1)) (hhas : Maps.has D (.int .i64 at_) = false) (hn : n ≤ 10) (hos : os.length ≤ 10) :
    Calls Tryd.prog 20 #[.pointer (some ⟨C, 0, none⟩), .int .i64 at_, .int .i64 0, .int .i64 dp] w fun e w' => e = .returned (.tuple #[]) ∧ ∃ A1 c1, CkS w0 w' base C c M1 M2 A (n + 1) (D.put (.int .i64 at_) (.lit (.int .i64 dp))) (.slice A1 (os ++ [at_]).length c1) (os ++ [at_]) dp := by
  have hisin := isIn_fix h (show at_ = 0 ∨ at_ = 2 by omega)
  have fC := eight_cellsC h.blk
  have HS := Lib.hid h
  have hka : keyOf Tryd.prog 3 (.int .i64 at_) = some (.int .i64 at_) := keyIC (by omega) (by omega)
  have hmx : max (0 : Int) dp = dp := by omega
  have hd0 : 0 ≤ dp := by omega
  have hwd : (Lit.int .i64 dp).wf = true := WalkArith.wf_i64 (by omega)
  have HN := Lib.hid h.ne
  clear h hat
  go_enter Tryd.func20, Tryd.ntmps20
  go_wp2_with (first
    | (at_lookup; refine wpList_lookup_own_ok_int _ rfl _ _ 45 rfl 3 3 .i64 keyedIC Tryd.underlying45 Tryd.underlying3 (zeroIC _) M2 n D rfl HS.out.m2 _ _ rfl hka ?_; intro cc hcat hwc; rw [hhas]; clear hcat hwc)
    | (go_at_call 30; refine hisin.mono ?_; rintro e w7 ⟨rfl, rfl⟩)
    | (at_mapUpdate; refine wpList_mapUpdate_own _ rfl _ _ _ 45 rfl 3 3 keyedIC Tryd.underlying45 _ M2 n _ rfl HS.out.m2 (by unfold maxLen; omega) _ _ _ rfl rfl hka _ [] (plainElem_int Tryd.underlying3 hwd) ?_; intro w1 hown1 hg1; have hC1 := (hg1.block C (lt_of_blkC HS.out.blk) (fun e => HN.out.2.1 (by injection e))).trans HS.out.blk; have fC1 := eight_cellsC hC1; have hmid := reach_mid (dp := dp) (o := .cells #[.int .i64 at_] 3) HS.out hg1; have HO1 := Lib.hid hmid.2; have hsz := hmid.1; have HR1 := Lib.hid (rd_oneZs w1 ⟨C, 7, none⟩ (.int .i64 dp) at_); have HG1 := Lib.hid hg1; have HM2 := Lib.hid hown1; clear hown1 hg1 hC1 hmid)
    | (at_builtin; refine wpList_append_z (base := base) (v := .slice A0 os.length c0) (xs := os) (news := [at_]) rfl _ _ rfl rfl rfl HO1.out HR1.out (fun h => by cases h) (by omega) (by simp) (by rw [World.size_alloc]; omega) ?_; intro A4 t4 c4 w4 HT4 HO4 HB4; have fC4 := eight_cellsC (reach_c4 HS.out HG1.out HB4.out)))
  obtain rfl := HT4.out
  have HE := reach_end HS.out HG1.out HM2.out HO4.out HB4.out
  go_end0
  exact ⟨rfl, A4, c4, HE⟩
end Go.Proofs.YtdfghcbojbbgcaaDoor.Fl

