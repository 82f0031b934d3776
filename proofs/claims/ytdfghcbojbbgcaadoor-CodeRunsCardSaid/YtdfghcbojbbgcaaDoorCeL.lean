/-
  Instructions: Check's reach of any code.
-/
import Derived.Test.YtdfghcbojbbgcaaDoorCeK
namespace Go.Proofs.YtdfghcbojbbgcaaDoor.Fl
open Go.RowKit Go.Maps

abbrev hasK (D : DataW Unit) (k : Int) : Prop := has D (.int .i64 k) = true
abbrev valK (D : DataW Unit) (k v : Int) : Prop := D.atKey (.int .i64 k) (.lit (.int .i64 0)) = .lit (.int .i64 v)
abbrev putK (D : DataW Unit) (k v : Int) : DataW Unit := D.put (.int .i64 k) (.lit (.int .i64 v))
theorem litK {a b : Int} (h : a ≠ b) : (Lit.int .i64 a) ≠ (Lit.int .i64 b) := fun e => h (by injection e)
theorem has_putK {D : DataW Unit} (hD : IsMap D) (k v j : Int) : hasK (putK D k v) j ↔ (j = k ∨ hasK D j) := by
  by_cases h : j = k
  · subst h
    exact ⟨fun _ => .inl rfl, fun _ => has_put_same hD (show WideAt.IsKeyLit (Lit.int .i64 j) from trivial) _⟩
  · unfold hasK putK
    rw [has_put_other (litK h)]
    exact ⟨.inr, fun h' => h'.resolve_left h⟩
theorem val_putK_same {D : DataW Unit} (hD : IsMap D) (k v : Int) : valK (putK D k v) k v := atKey_put_same hD (show WideAt.IsKeyLit (Lit.int .i64 k) from trivial) _ _
theorem val_putK_other {D : DataW Unit} (k v j x : Int) (h : j ≠ k) : valK (putK D k v) j x ↔ valK D j x := by
  unfold valK putK
  rw [atKey_put_other (litK h)]
/-- the checker, its maps and its list in memory -/
structure CkX (w0 w : World) (base C N c M1 M2 : Nat) (A : Option Addr) (L S F : Int) (n1 n2 : Nat) (D1 D2 : DataW Unit) (v : Value) (os : List Int) (most : Int) : Prop where
  bel : Below base w0 w
  blk : CkG w C N c M1 M2 A L S F v most
  m1 : OwnM w M1 n1 D1
  m2 : OwnM w M2 n2 D2
  row : OwnZ w base v os
  far : ∀ j, v.ownBlock = some j → j ≠ C ∧ j ≠ M1 ∧ j ≠ M2
  lo : base ≤ C ∧ base ≤ M1 ∧ base ≤ M2 ∧ base ≤ w0.heap.size
  ne : C ≠ M1 ∧ C ≠ M2 ∧ M1 ≠ M2
  i1 : IsMap D1
  i2 : IsMap D2
theorem CkX.below {w0 w w' : World} {base C N c M1 M2 n1 n2 : Nat} {A : Option Addr} {L S F : Int} {D1 D2 : DataW Unit} {v : Value} {os : List Int} {most : Int} (h : CkX w0 w base C N c M1 M2 A L S F n1 n2 D1 D2 v os most) (hb : Below w.heap.size w w') : CkX w0 w' base C N c M1 M2 A L S F n1 n2 D1 D2 v os most :=
  ⟨h.bel.trans (hb.mono (Nat.le_trans h.lo.2.2.2 h.bel.size)), (hb.block _ (lt_of_blkC h.blk)).trans h.blk, h.m1.keep (hb.block _ h.m1.lt), h.m2.keep (hb.block _ h.m2.lt), h.row.keep (fun j hj => hb.block _ (World.ownsRow.lt h.row j hj).2), h.far, h.lo, h.ne, h.i1, h.i2⟩
/-- what stands beside the checker has not changed -/
def KpX (w w' : World) (C M2 : Nat) (v v' : Value) : Prop := w.heap.size ≤ w'.heap.size ∧ (∀ j, j < w.heap.size → j ≠ C → j ≠ M2 → some j ≠ v.ownBlock → w'.heap[j]? = w.heap[j]?) ∧ (∀ j, v'.ownBlock = some j → v.ownBlock = some j ∨ w.heap.size ≤ j)
theorem KpX.refl (w : World) (C M2 : Nat) (v : Value) : KpX w w C M2 v v := ⟨Nat.le_refl _, fun _ _ _ _ _ => rfl, fun _ h => .inl h⟩
/-- the keys of a map, as many as there are -/
def Kn (D : DataW Unit) (n : Nat) : Prop := ∃ ks : List Int, ks.Nodup ∧ ks.length = n ∧ ∀ k, hasK D k ↔ k ∈ ks
/-- a map of depths, and the list of the places to come, that have more -/
structure Ext (D1 D2 : DataW Unit) (n2 : Nat) (os : List Int) (most : Int) (D2' : DataW Unit) (n2' : Nat) (os' : List Int) (most' : Int) : Prop where
  keepH : ∀ k, hasK D2 k → hasK D2' k
  keepV : ∀ k v, hasK D2 k → valK D2 k v → valK D2' k v
  new : ∀ k, hasK D2' k → hasK D2 k ∨ (k ∈ os' ∧ hasK D1 k)
  old : ∀ k, k ∈ os → k ∈ os'
  got : ∀ k, k ∈ os' → k ∈ os ∨ hasK D2' k
  cnt : n2' + os.length = n2 + os'.length
  le : n2 ≤ n2'
  kn : Kn D2 n2 → Kn D2' n2'
  mo : most ≤ most'
  bd : (∀ k v, hasK D2 k → valK D2 k v → 0 ≤ v ∧ v ≤ most) → ∀ k v, hasK D2' k → valK D2' k v → 0 ≤ v ∧ v ≤ most'
  mx : most ≤ 255 + 2 * (n2 : Int) → most' ≤ 255 + 2 * (n2' : Int)
theorem Ext.refl (D1 D2 : DataW Unit) (n2 : Nat) (os : List Int) (most : Int) : Ext D1 D2 n2 os most D2 n2 os most :=
  ⟨fun _ h => h, fun _ _ _ h => h, fun _ h => .inl h, fun _ h => h, fun _ h => .inl h, rfl, Nat.le_refl _, id, Int.le_refl _, id, id⟩
theorem Ext.trans {D1 D2 D3 D4 : DataW Unit} {n2 n3 n4 : Nat} {o2 o3 o4 : List Int} {m2 m3 m4 : Int} (h : Ext D1 D2 n2 o2 m2 D3 n3 o3 m3) (h' : Ext D1 D3 n3 o3 m3 D4 n4 o4 m4) : Ext D1 D2 n2 o2 m2 D4 n4 o4 m4 :=
  ⟨fun k a => h'.keepH k (h.keepH k a), fun k v a b => h'.keepV k v (h.keepH k a) (h.keepV k v a b), fun k a => (h'.new k a).elim (fun b => (h.new k b).imp id fun ⟨c, d⟩ => ⟨h'.old k c, d⟩) .inr, fun k a => h'.old k (h.old k a), fun k a => (h'.got k a).elim (fun b => (h.got k b).imp id fun c => h'.keepH k c) .inr, by have := h.cnt; have := h'.cnt; omega, Nat.le_trans h.le h'.le, fun a => h'.kn (h.kn a), Int.le_trans h.mo h'.mo, fun a => h'.bd (h.bd a), fun a => h'.mx (h.mx a)⟩
theorem Ext.put {D1 D2 : DataW Unit} {n2 : Nat} {os : List Int} {most : Int} (hi : IsMap D2) {k d : Int} (hn : ¬ hasK D2 k) (h1 : hasK D1 k) (hd : 0 ≤ d) (hd2 : d ≤ most + 2 ∨ d ≤ 255) : Ext D1 D2 n2 os most (putK D2 k d) (n2 + 1) (os ++ [k]) (max most d) := by
  have hne : ∀ j, hasK D2 j → j ≠ k := fun j h e => hn (e ▸ h)
  refine ⟨fun j a => (has_putK hi k d j).2 (.inr a), fun j v a b => (val_putK_other k d j v (hne j a)).2 b, fun j a => ?_, fun j a => List.mem_append_left _ a, fun j a => ?_, by rw [List.length_append, List.length_singleton]; omega, Nat.le_succ _, ?_, by omega, fun hb j v a b => ?_, fun h => by omega⟩
  · rcases (has_putK hi k d j).1 a with rfl | a
    · exact .inr ⟨List.mem_append_right _ (List.mem_singleton.2 rfl), h1⟩
    · exact .inl a
  · rcases List.mem_append.1 a with a | a
    · exact .inl a
    · obtain rfl := List.mem_singleton.1 a
      exact .inr ((has_putK hi j d j).2 (.inl rfl))
  · rintro ⟨ks, hnd, hl, hk⟩
    refine ⟨k :: ks, List.nodup_cons.2 ⟨fun h => hn ((hk k).2 h), hnd⟩, by rw [List.length_cons, hl], fun j => ?_⟩
    rw [has_putK hi k d j, hk j, List.mem_cons]
  · by_cases hjk : j = k
    · subst hjk
      have e := (val_putK_same hi j d).symm.trans b
      injection e with e
      injection e with _ e
      omega
    · have h2 := hb j v (((has_putK hi k d j).1 a).resolve_left hjk) ((val_putK_other k d j v hjk).1 b)
      omega
set_option maxHeartbeats 1000000 in
theorem isIn_any {w : World} {C N c M1 M2 n : Nat} {A : Option Addr} {L S F : Int} {D : DataW Unit} {v : Value} {most : Int} (hC : CkG w C N c M1 M2 A L S F v most) (hm : OwnM w M1 n D) (at_ part : Int) (h0 : -1000000 ≤ at_) (h1 : at_ ≤ 1000000) :
    Calls Tryd.prog 30 #[.pointer (some ⟨C, 0, none⟩), .int .i64 at_, .int .i64 part] w fun e w' => ∃ r : Bool, e = .returned (.bool r) ∧ (r = true → hasK D at_) ∧ w = w' := by
  have fC := eight_cellsC hC
  have HM := Lib.hid hm
  have hka : keyOf Tryd.prog 3 (.int .i64 at_) = some (.int .i64 at_) := keyIC (by omega) (by omega)
  obtain ⟨hs, hhs⟩ : ∃ hs, has D (.int .i64 at_) = hs := ⟨_, rfl⟩
  have HH := Lib.hid hhs
  clear hC hm
  go_enter Tryd.func30, Tryd.ntmps30
  cases hs
  · go_wp2_with (at_lookup; refine wpList_lookup_own_ok_int _ rfl _ _ 45 rfl 3 3 .i64 keyedIC Tryd.underlying45 Tryd.underlying3 (zeroIC _) M1 n D rfl HM.out _ _ rfl hka ?_; intro cc hcat hwc; rw [hhs]; clear hcat hwc)
    go_ret
    exact ⟨false, rfl, (fun h => by cases h), rfl⟩
  · go_wp2_with (at_lookup; refine wpList_lookup_own_ok_int _ rfl _ _ 45 rfl 3 3 .i64 keyedIC Tryd.underlying45 Tryd.underlying3 (zeroIC _) M1 n D rfl HM.out _ _ rfl hka ?_; intro cc hcat hwc; rw [hhs]; clear hcat hwc)
    go_ret
    exact ⟨_, rfl, fun _ => HH.out, rfl⟩
section
variable {w0 w w1 w4 : World} {base C N c M1 M2 n1 n : Nat} {A : Option Addr} {D1 D D' : DataW Unit} {L S F : Int} {v v4 : Value} {os ts : List Int} {m0 dp : Int} {o : Obj}
theorem CkX.size (h : CkX w0 w base C N c M1 M2 A L S F n1 n D1 D v os m0) : base ≤ w.heap.size := Nat.le_trans h.lo.2.2.2 h.bel.size
theorem reachX_blk (h : CkX w0 w base C N c M1 M2 A L S F n1 n D1 D v os m0) (hg : w.grownBy w1 (some M2)) : w1.heap[C]? = some (.cells #[.slice A N c, .int .i64 L, .int .i64 S, .int .i64 F, .map (some M1), .map (some M2), v, .int .i64 m0] 48 (0, 0)) :=
  (hg.block C (lt_of_blkC h.blk) (fun e => h.ne.2.1 (by injection e))).trans h.blk
theorem reachX_mid (h : CkX w0 w base C N c M1 M2 A L S F n1 n D1 D v os m0) (hg : w.grownBy w1 (some M2)) : base ≤ (w1.setCell ⟨C, 7, none⟩ (.int .i64 dp)).heap.size ∧ OwnZ ((w1.setCell ⟨C, 7, none⟩ (.int .i64 dp)).alloc o) base v os := by
  have h1 := hg.size
  have h2 := h.size
  refine ⟨by rw [sizeC]; omega, h.row.keep (fun j hj => ?_)⟩
  have hf := h.far j hj
  have hl := (World.ownsRow.lt h.row j hj).2
  rw [Below.heap_alloc _ _ _ (by rw [sizeC]; omega), Below.heap_setCell _ _ _ _ hf.1]
  exact hg.block j hl (fun e => hf.2.2 (by injection e))
theorem reachX_c4 (h : CkX w0 w base C N c M1 M2 A L S F n1 n D1 D v os m0) (hg : w.grownBy w1 (some M2)) (hb : Below base ((w1.setCell ⟨C, 7, none⟩ (.int .i64 dp)).alloc o) w4 ∧ (∀ k, k < ((w1.setCell ⟨C, 7, none⟩ (.int .i64 dp)).alloc o).heap.size → some k ≠ v.ownBlock → w4.heap[k]? = ((w1.setCell ⟨C, 7, none⟩ (.int .i64 dp)).alloc o).heap[k]?) ∧ (v4.ownBlock = v.ownBlock ∨ v4.ownBlock = some ((w1.setCell ⟨C, 7, none⟩ (.int .i64 dp)).alloc o).heap.size)) : w4.heap[C]? = some (.cells #[.slice A N c, .int .i64 L, .int .i64 S, .int .i64 F, .map (some M1), .map (some M2), v, .int .i64 dp] 48 (0, 0)) := by
  have h1 := hg.size
  obtain ⟨_, hb2, _⟩ := hb
  have hCl := lt_of_blkC h.blk
  rw [World.size_alloc, sizeC] at hb2
  have nC : some C ≠ v.ownBlock := fun e => (h.far C e.symm).1 rfl
  exact (hb2 C (by omega) nC).trans ((Below.heap_alloc _ _ _ (by rw [sizeC]; omega)).trans (heap_setCell_same w1 C 7 _ _ (.int .i64 dp) (reachX_blk h hg)))
theorem reachX_end (hi2 : IsMap D') (h : CkX w0 w base C N c M1 M2 A L S F n1 n D1 D v os m0) (hg : w.grownBy w1 (some M2)) (hm : OwnM w1 M2 (n + 1) D') (ho : OwnZ w4 base v4 ts)
    (hb : Below base ((w1.setCell ⟨C, 7, none⟩ (.int .i64 dp)).alloc o) w4 ∧ (∀ k, k < ((w1.setCell ⟨C, 7, none⟩ (.int .i64 dp)).alloc o).heap.size → some k ≠ v.ownBlock → w4.heap[k]? = ((w1.setCell ⟨C, 7, none⟩ (.int .i64 dp)).alloc o).heap[k]?) ∧ (v4.ownBlock = v.ownBlock ∨ v4.ownBlock = some ((w1.setCell ⟨C, 7, none⟩ (.int .i64 dp)).alloc o).heap.size)) :
    CkX w0 (w4.setCell ⟨C, 6, none⟩ v4) base C N c M1 M2 A L S F n1 (n + 1) D1 D' v4 ts dp := by
  have h1 := hg.size
  have h2 := h.size
  obtain ⟨hb1, hb2, hb3⟩ := hb
  have hCl := lt_of_blkC h.blk
  have hM1 := h.m1.lt
  have hM2 := h.m2.lt
  have hne := h.ne
  have hlo := h.lo
  rw [World.size_alloc, sizeC] at hb2 hb3
  have nC : some C ≠ v.ownBlock := fun e => (h.far C e.symm).1 rfl
  have n1 : some M1 ≠ v.ownBlock := fun e => (h.far M1 e.symm).2.1 rfl
  have n2 : some M2 ≠ v.ownBlock := fun e => (h.far M2 e.symm).2.2 rfl
  have k4 : ∀ k, k < w.heap.size → some k ≠ v.ownBlock → k ≠ C → w4.heap[k]? = w1.heap[k]? := fun k hk hn hc => by
    rw [hb2 k (by omega) hn, Below.heap_alloc _ _ _ (by rw [sizeC]; omega), Below.heap_setCell _ _ _ _ hc]
  have hC4 := (hb2 C (by omega) nC).trans ((Below.heap_alloc _ _ _ (by rw [sizeC]; omega)).trans (heap_setCell_same w1 C 7 _ _ (.int .i64 dp) (reachX_blk h hg)))
  have hw1 : Below base w w1 := (Below.refl _ _).grown hg h2 (fun j hj => by injection hj with hj; omega)
  refine ⟨(h.bel.trans (((hw1.setCell (p := ⟨C, 7, none⟩) hlo.1 _).alloc (by rw [sizeC]; omega) o).trans hb1)).setCell (p := ⟨C, 6, none⟩) hlo.1 _, heap_setCell_same w4 C 6 _ _ v4 hC4, ?_, ?_, ?_, ?_, hlo, hne, h.i1, hi2⟩
  · refine h.m1.keep ?_
    rw [Below.heap_setCell _ _ _ _ hne.1.symm, k4 M1 hM1 n1 hne.1.symm]
    exact hg.block M1 hM1 (fun e => hne.2.2 (by injection e))
  · refine hm.keep ?_
    rw [Below.heap_setCell _ _ _ _ hne.2.1.symm, k4 M2 hM2 n2 hne.2.1.symm]
  · refine ho.keep (fun j hj => Below.heap_setCell _ _ _ _ ?_)
    rcases hb3 with e | e
    · exact (h.far j (e.symm.trans hj)).1
    · rw [hj] at e
      injection e with e
      show j ≠ C
      omega
  · intro j hj
    rcases hb3 with e | e
    · exact h.far j (e.symm.trans hj)
    · rw [hj] at e; injection e with e; omega
theorem reachX_kept (h : CkX w0 w base C N c M1 M2 A L S F n1 n D1 D v os m0) (hg : w.grownBy w1 (some M2))
    (hb : Below base ((w1.setCell ⟨C, 7, none⟩ (.int .i64 dp)).alloc o) w4 ∧ (∀ k, k < ((w1.setCell ⟨C, 7, none⟩ (.int .i64 dp)).alloc o).heap.size → some k ≠ v.ownBlock → w4.heap[k]? = ((w1.setCell ⟨C, 7, none⟩ (.int .i64 dp)).alloc o).heap[k]?) ∧ (v4.ownBlock = v.ownBlock ∨ v4.ownBlock = some ((w1.setCell ⟨C, 7, none⟩ (.int .i64 dp)).alloc o).heap.size)) :
    KpX w (w4.setCell ⟨C, 6, none⟩ v4) C M2 v v4 := by
  have h1 := hg.size
  obtain ⟨hb1, hb2, hb3⟩ := hb
  have hs := hb1.size
  rw [World.size_alloc, sizeC] at hb2 hb3 hs
  refine ⟨by rw [sizeC]; omega, fun k hk hC hM hn => ?_, fun j hj => ?_⟩
  · rw [Below.heap_setCell _ _ _ _ hC, hb2 k (by omega) (fun e => hn e), Below.heap_alloc _ _ _ (by rw [sizeC]; omega), Below.heap_setCell _ _ _ _ hC]
    exact hg.block k hk (fun e => hM (by injection e))
  · rcases hb3 with e | e
    · exact .inl (e.symm.trans hj)
    · rw [hj] at e; injection e with e; exact .inr (by omega)
end
/-- what reaching an instruction leaves -/
def ReachPostX (w0 w : World) (base C N c M1 M2 : Nat) (A : Option Addr) (L S F : Int) (n1 n2 : Nat) (D1 D2 : DataW Unit) (A0 : Option Addr) (c0 : Nat) (os : List Int) (most at_ dp : Int) (e : Ending) (w' : World) : Prop :=
  (e = .panicked (faultK 3) ∧ Below base w0 w') ∨
  (e = .returned (.tuple #[]) ∧ ∃ n2' D2' A1 c1 os' most', CkX w0 w' base C N c M1 M2 A L S F n1 n2' D1 D2' (.slice A1 os'.length c1) os' most' ∧ KpX w w' C M2 (.slice A0 os.length c0) (.slice A1 os'.length c1) ∧ n2' ≤ n2 + 1 ∧ Ext D1 D2 n2 os most D2' n2' os' most' ∧ hasK D2' at_ ∧ valK D2' at_ dp)
set_option maxRecDepth 100000 in
set_option maxHeartbeats 4000000 in
theorem reach_any {w0 w : World} {base C N c M1 M2 n1 n2 : Nat} {A A0 : Option Addr} {L S F : Int} {c0 : Nat} {D1 D2 : DataW Unit} {os : List Int} {most : Int} (h : CkX w0 w base C N c M1 M2 A L S F n1 n2 D1 D2 (.slice A0 os.length c0) os most) (at_ part dp : Int) (ha0 : -1000000 ≤ at_) (ha1 : at_ ≤ 1000000) (hd0 : -1000000 ≤ dp) (hd1 : dp ≤ 1000000) (hm0 : -1000000 ≤ most) (hm1 : most ≤ 1000000) (hn : n2 ≤ 1000000) (hos : os.length ≤ 1000000) (hdp : 0 ≤ dp) (hdp2 : dp ≤ most + 2 ∨ dp ≤ 255) :
    Calls Tryd.prog 20 #[.pointer (some ⟨C, 0, none⟩), .int .i64 at_, .int .i64 part, .int .i64 dp] w (ReachPostX w0 w base C N c M1 M2 A L S F n1 n2 D1 D2 A0 c0 os most at_ dp) := by
  have hisin := isIn_any h.blk h.m1 at_ part ha0 ha1
  have fC := eight_cellsC h.blk
  have HS := Lib.hid h
  have hka : keyOf Tryd.prog 3 (.int .i64 at_) = some (.int .i64 at_) := keyIC (by omega) (by omega)
  have hwd : (Lit.int .i64 dp).wf = true := WalkArith.wf_i64 (by omega)
  have HN := Lib.hid h.ne
  have hgu := giveUpC_any (.pointer (some ⟨C, 0, none⟩)) 3 w
  have HDP := Lib.hid (And.intro hdp hdp2)
  clear hdp hdp2
  obtain ⟨hs, hhs⟩ : ∃ hs, has D2 (.int .i64 at_) = hs := ⟨_, rfl⟩
  have HH := Lib.hid hhs
  clear h
  go_enter Tryd.func20, Tryd.ntmps20
  go_wp2_with (at_lookup; refine wpList_lookup_own_ok_int _ rfl _ _ 45 rfl 3 3 .i64 keyedIC Tryd.underlying45 Tryd.underlying3 (zeroIC _) M2 n2 D2 rfl HS.out.m2 _ _ rfl hka ?_; intro cc hcat hwc; have HCC := Lib.hid hcat; rw [hhs]; clear hcat hwc)
  clear hhs
  refine hisin.mono ?_
  rintro e w7 ⟨r, rfl, hr, rfl⟩
  have HRr := Lib.hid hr
  clear hisin hr
  cases r
  · go_wp2_with (go_at_call 19; refine hgu.mono ?_; rintro e w7 ⟨rfl, rfl⟩)
    exact ⟨rfl, .inl ⟨rfl, HS.out.bel⟩⟩
  · have hk1 : hasK D1 at_ := HRr.out rfl
    have HK1 := Lib.hid hk1
    clear hk1 HRr
    cases hs
    · have hmx : 0 ≤ max most dp + 1000000 := by omega
      clear hmx
      go_wp2_with (first
        | (at_mapUpdate; refine wpList_mapUpdate_own _ rfl _ _ _ 45 rfl 3 3 keyedIC Tryd.underlying45 _ M2 n2 _ rfl HS.out.m2 (by unfold maxLen; omega) _ _ _ rfl rfl hka _ [] (plainElem_int Tryd.underlying3 hwd) ?_; intro w1 hown1 hg1; have hC1 := (hg1.block C (lt_of_blkC HS.out.blk) (fun e => HN.out.2.1 (by injection e))).trans HS.out.blk; have fC1 := eight_cellsC hC1; have hmid := reachX_mid (dp := max most dp) (o := .cells #[.int .i64 at_] 3) HS.out hg1; have HO1 := Lib.hid hmid.2; have hsz := hmid.1; have HR1 := Lib.hid (rd_oneZs w1 ⟨C, 7, none⟩ (.int .i64 (max most dp)) at_); have HG1 := Lib.hid hg1; have HM2 := Lib.hid hown1; clear hown1 hg1 hC1 hmid)
        | (at_builtin; refine wpList_append_z (base := base) (v := .slice A0 os.length c0) (xs := os) (news := [at_]) rfl _ _ rfl rfl rfl HO1.out HR1.out (fun h => by cases h) (by omega) (by simp) (by rw [World.size_alloc]; omega) ?_; intro A4 t4 c4 w4 HT4 HO4 HB4; have fC4 := eight_cellsC (reachX_c4 HS.out HG1.out HB4.out)))
      obtain rfl := HT4.out
      have HE := reachX_end (HS.out.i2.put _ _) HS.out HG1.out HM2.out HO4.out HB4.out
      have hnh : ¬ hasK D2 at_ := fun h => by rw [hasK, HH.out] at h; cases h
      have HKp := reachX_kept HS.out HG1.out HB4.out
      have HEx : Ext D1 D2 n2 os most (putK D2 at_ dp) (n2 + 1) (os ++ [at_]) (max most dp) := Ext.put HS.out.i2 hnh HK1.out HDP.out.1 HDP.out.2
      have hva := val_putK_same HS.out.i2 at_ dp
      have hha := (has_putK HS.out.i2 at_ dp at_).2 (.inl rfl)
      go_end0
      exact .inr ⟨rfl, n2 + 1, _, A4, c4, _, _, HE, HKp, Nat.le_refl _, HEx, hha, hva⟩
    · by_cases hcd : cc = dp
      · subst hcd
        go_wp2_with fail
        go_end0
        exact .inr ⟨rfl, n2, D2, A0, c0, os, most, HS.out, KpX.refl _ _ _ _, Nat.le_succ _, Ext.refl _ _ _ _ _, HH.out, HCC.out⟩
      · have hne : (cc != dp) = true := by rw [bne_iff_ne]; exact hcd
        clear hcd
        go_wp2_with (go_at_call 19; refine hgu.mono ?_; rintro e w7 ⟨rfl, rfl⟩)
        exact ⟨rfl, .inl ⟨rfl, HS.out.bel⟩⟩
end Go.Proofs.YtdfghcbojbbgcaaDoor.Fl

