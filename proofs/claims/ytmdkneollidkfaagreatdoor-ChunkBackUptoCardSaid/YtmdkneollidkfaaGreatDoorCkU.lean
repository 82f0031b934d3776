/-
  The program's file: the whole.
-/
import Derived.Test.YtmdkneollidkfaaGreatDoorCkS
import Derived.Test.YtmdkneollidkfaaGreatDoorLxX
namespace Go.Proofs.YtmdkneollidkfaaGreatDoor.Fl
open Go.RowKit Go.Shelf
attribute [local go_sem] Oper.semAt_some wide_fnK

def FilePost (w0 w : World) (R : Nat) (s : ByteArray) (X : UnitR) (e : Ending) (w' : World) : Prop :=
  (∃ at_ n : Int, X = .inr (at_, n) ∧ e = .panicked (faultK n at_) ∧ Below w0.heap.size w0 w' ∧ KpN w w') ∨
  (∃ (q : Nat) (fs : List (Cls × Value)) (ss : List Src) (A3 : Option Addr) (c3 : Nat) (A4 : Option Addr) (c4 : Nat), e = .returned (.tuple #[]) ∧ X = .inl (fs.map (fun x => x.1), ss) ∧ RkW w0 w' R s q fs ss A3 c3 A4 c4 ∧ KpN w w')
/-- what stands while the file is read -/
def FSt (w0 w : World) (R : Nat) (s : ByteArray) (T q : Nat) (fs : List (Cls × Value)) (ss : List Src) (W : World) : Prop :=
  (∃ A3 c3 A4 c4, RkW w0 W R s q fs ss A3 c3 A4 c4) ∧ q ≤ s.size ∧ W.heap[T]? = some (.cells #[.pointer (some ⟨R, 0, none⟩)] 97 (0, 0)) ∧ KpN w W
section
variable {w0 w : World} {R : Nat} {s : ByteArray} {T q : Nat} {fs : List (Cls × Value)} {ss : List Src} {W W' : World}
theorem FSt.sp {B : Nat} (h : FSt w0 w R s T q fs ss W) (hb : Sp B W W') (hB : w0.heap.size ≤ B) (hB2 : w.heap.size ≤ B) : FSt w0 w R s T q fs ss W' := by
  obtain ⟨⟨A3, c3, A4, c4, h1⟩, h2, h3, h6⟩ := h
  exact ⟨⟨A3, c3, A4, c4, h1.sp hb hB⟩, h2, (hb.cells _ _ _ _ h3).trans h3, h6.sp hb hB2⟩
theorem FSt.go (h : FSt w0 w R s T q fs ss W) (b : Nat) (hb : b ≤ s.size) : FSt w0 w R s T b fs ss (W.setCell ⟨R, 3, none⟩ (.int .i64 (b : Int))) := by
  obtain ⟨⟨A3, c3, A4, c4, h1⟩, h2, h3, h6⟩ := h
  have n1 : T ≠ R := otherL h3 h1.rd (by decide)
  exact ⟨⟨A3, c3, A4, c4, h1.go b⟩, hb, (Below.heap_setCell _ _ _ _ n1).trans h3, h6.trans (KpN.set h1.rd _)⟩
end
set_option maxRecDepth 100000 in
set_option maxHeartbeats 8000000 in
theorem fileK_any (w0 w : World) (R : Nat) (s : ByteArray) (hs : s.size ≤ 16777216)
    (h : RkW w0 w R s 0 [] [] none 0 none 0) (hm : MaxAt w0) (hE : ∀ w', Below w0.heap.size w0 w' → EnvL w') :
    Calls Tryz.prog 44 #[.pointer (some ⟨R, 0, none⟩)] w (FilePost w0 w R s (readU s none 0)) := by
  refine (callsIn_wide (n := 2)).1 ?_
  refine callsIn_of_wpAt_marks Tryz.func44 rfl trivial ?_ rfl
  simp only [Tryz.ntmps44, List.size_toArray, List.length_cons, List.length_nil, Nat.reduceAdd, Nat.reduceSub, Array.replicate_succ, Array.replicate_zero, List.push_toArray, List.append_toArray, List.nil_append, List.cons_append]
  obtain ⟨Wb, hWb⟩ : ∃ Wb, w.alloc (.cells #[.pointer (some ⟨R, 0, none⟩)] 97) = Wb := ⟨_, rfl⟩
  have q1 : Wb.heap[w.heap.size]? = some (.cells #[.pointer (some ⟨R, 0, none⟩)] 97 (0, 0)) := by rw [← hWb]; exact heap_alloc_new _ _
  have hb : Below w.heap.size w Wb := by rw [← hWb]; exact (Below.refl _ _).alloc (Nat.le_refl _) _
  refine wpAt_seq (wpAt_of ?_)
  gi_wp2
  clear hWb
  have hb2 : Below w0.heap.size w0 Wb := h.bel.trans (hb.mono h.bel.size)
  have hsz := hb.size
  obtain ⟨T, hT⟩ : ∃ T, w.heap.size = T := ⟨_, rfl⟩
  have h0 : FSt w0 w R s T 0 [] [] Wb := ⟨⟨none, 0, none, 0, h.below hb⟩, Nat.zero_le _, by rw [← hT]; exact q1, KpN.below hb⟩
  simp only [hT]
  have f1 := one_cellL q1
  rw [hT] at f1
  refine wpAt_seq (wpAt_of ?_)
  gi_wp2
  clear f1 q1
  refine wpAt_block ?_
  obtain ⟨X, hX⟩ : ∃ X, readU s none 0 = X := ⟨_, rfl⟩
  rw [hX]
  refine range_chunks Tryz.func44 R s hs rfl rfl
    (fun q W => ∃ fs ss, FSt w0 w R s T q fs ss W ∧ fs.length + ss.length ≤ q ∧ preU (fs.map (fun x => x.1)) ss (readU s none q) = X)
    (fun t x b W => ∃ fs ss, FSt w0 w R s T b fs ss W ∧ fs.length + ss.length + 1 ≤ b ∧ t.length ≤ s.size ∧ preU (fs.map (fun x => x.1)) ss (if t = [] then readU s none b else defU s t x b) = X)
    (fun _ => False)
    (fun ch W => ∃ at_ n : Int, X = .inr (at_, n) ∧ ch = faultK n at_ ∧ Below w0.heap.size w0 W ∧ KpN w W)
    (fun t x => { tmps := #[Value.pointer (some ⟨R, 0, none⟩), Value.pointer (some ⟨T, 0, none⟩), Value.string (mkB t), Value.int .i64 (x : Int), Value.pointer (some ⟨R, 0, none⟩), Value.func (Fn.func 58) #[Value.pointer (some ⟨R, 0, none⟩)] #[], Value.string (mkB t), Value.int .i64 (x : Int), undef, undef, undef, undef, undef, undef], defers := [] }) ?hJr ?hJk ?hYk ?hXk ?hYm ?hJs ⟨0, [], [], h0, Nat.le_refl _, by rw [hX]; exact preU_nil X⟩ ?has ?hbo ?hdo ?hre ?hpa
  case hJr =>
    rintro q W ⟨fs, ss, ⟨⟨A3, c3, A4, c4, hr⟩, hq, _⟩, _⟩
    exact ⟨hq, _, _, hr.rd⟩
  case hJk =>
    rintro q W W' ⟨fs, ss, hm1, hr⟩ hsp
    exact ⟨fs, ss, hm1.sp hsp hb2.size hsz, hr⟩
  case hYk =>
    rintro t x b W W' ⟨fs, ss, hm1, hr⟩ hsp
    exact ⟨fs, ss, hm1.sp hsp hb2.size hsz, hr⟩
  case hXk =>
    rintro W W' hf
    exact hf.elim
  case hYm =>
    rintro t x b W ⟨fs, ss, ⟨⟨A3, c3, A4, c4, hr⟩, _⟩, _⟩
    exact maxAt_low hm hr.bel
  case hJs =>
    rintro q W t x b ⟨fs, ss, hm1, hl1, he⟩ hb3 hc
    have hcl := chunk_le hm1.2.1
    rw [hc] at hcl
    dsimp only at hcl
    refine ⟨fs, ss, hm1.go b hb3, by have := hcl.1; omega, hcl.2.2.2, ?_⟩
    rw [← he, readU_in hm1.2.1 hc]
    rfl
  case has =>
    intro l t x W K hK
    dsimp only
    gi_wp2
    exact hK
  case hdo =>
    rintro D W hD hdef ⟨q, x, b, ⟨fs, ss, hm1, hl1, he⟩, hc⟩
    have hq := hm1.2.1
    obtain ⟨⟨A3, c3, A4, c4, hr⟩, _, _, hkp⟩ := hm1.sp (.put hD hdef rfl (.deferred none)) hb2.size hsz
    show LeavesInM _ _ _ _ _ _ [{ target := .collected D, args := #[] }] _ _
    refine leavesM_one hdef (by simp) ?_
    rw [readU_in hq hc, if_pos rfl, if_pos rfl] at he
    exact ⟨.tuple #[], results_none rfl _ _ _, .inr ⟨q, fs, ss, A3, c3, A4, c4, rfl, by rw [← he]; simp [endU, preU], hr, hkp⟩⟩
  case hre =>
    rintro D W hD hdef hf
    exact hf.elim
  case hpa =>
    rintro D W ch hD hdef (⟨at_, n, hx, rfl, hbw, hkw⟩ | ⟨q, t, x, b, ⟨fs, ss, hm1, hl1, he⟩, hc, ht, rfl⟩)
    · show LeavesInM _ _ _ _ _ _ [{ target := .collected D, args := #[] }] _ _
      refine leavesM_one hdef (by simp) ?_
      exact .inl ⟨_, _, hx, rfl, ⟨hbw.os, hbw.tape, hbw.output, by simpa using hbw.size, fun k hk => (World.putObj_heap_other (by have := hb2.size; omega)).trans (hbw.block k hk)⟩, hkw.sp (.put hD hdef rfl (.deferred none)) hsz⟩
    · have hq := hm1.2.1
      obtain ⟨⟨A3, c3, A4, c4, hr⟩, _, _, hkp⟩ := hm1.sp (.put hD hdef rfl (.deferred none)) hb2.size hsz
      rw [readU_in hq hc, if_pos rfl, if_neg ht] at he
      show LeavesInM _ _ _ _ _ _ [{ target := .collected D, args := #[] }] _ _
      refine leavesM_one hdef (by simp) ?_
      exact .inl ⟨_, _, he.symm, rfl, hr.bel, hkp⟩
  case hbo =>
    rintro l t x b W ⟨fs, ss, ⟨⟨A3, c3, A4, c4, hr⟩, hq, k1, hkp⟩, hl1, htl, he⟩
    by_cases ht : t = []
    · have htb : (t != []) = false := by rw [ht]; rfl
      have htc : (t == []) = true := by rw [ht]; rfl
      gi_wp2
      exact ⟨⟨b, Nat.le_refl _, fs, ss, ⟨⟨A3, c3, A4, c4, hr⟩, hq, k1, hkp⟩, by omega, by rw [← he, if_pos ht]⟩, KpN.refl _⟩
    have htb : (t != []) = true := by rw [bne_iff_ne]; exact ht
    have htc : (t == []) = false := by rw [beq_eq_false_iff_ne]; exact ht
    have g1 := one_cellL k1
    have hdf := defineK_any w0 W R s hs t x b fs ss A3 c3 A4 c4 hr hq hl1 (by omega) hm hE
    rw [if_neg ht] at he
    gi_wp2
    refine ⟨trivial, rfl, ?_⟩
    refine (CallsIn.inRound l (callsIn_wide.2 hdf)).mono ?_
    rintro e w' (⟨at_, n, hx, rfl, hbw, hkp2⟩ | ⟨q, fs', ss', A5, c5, A6, c6, rfl, hrk, hbq, hqs, hlq, hu, hkp2⟩)
    · rw [hx] at he
      exact ⟨rfl, ⟨at_, n, he.symm, rfl, hbw, hkp.trans hkp2⟩, hkp2⟩
    · rw [hu] at he
      gi_wp2
      exact ⟨⟨q, hbq, fs', ss', ⟨⟨A5, c5, A6, c6, hrk⟩, hqs, hkp2 _ _ k1 rfl, hkp.trans hkp2⟩, hlq, he⟩, hkp2⟩
end Go.Proofs.YtmdkneollidkfaaGreatDoor.Fl

/-
  The program's Read: what it has given up with is caught.
-/
namespace Go.Proofs.YtmdkneollidkfaaGreatDoor.Fl
open Go.RowKit

def caughtV (n at_ : Int) : List PanicEntry := [{ v := .iface 96 (.agg #[.int .i64 n, .int .i64 at_]), recovered := true }]
structure ResV (w : World) (P1 P2 P3 : Nat) (v0 v1 : Value) (at_ e : Int) : Prop where
  un : w.heap[P1]? = some (.cells #[v0, v1] 53 (0, 0))
  pl : w.heap[P2]? = some (.cells #[.int .i64 at_] 3 (0, 0))
  er : w.heap[P3]? = some (.cells #[.int .i64 e] 47 (0, 0))
set_option maxRecDepth 100000 in
set_option maxHeartbeats 4000000 in
theorem catch_idleV (P1 P2 P3 : Nat) (w : World) :
    CallsD Tryz.prog 43 #[.pointer (some ⟨P1, 0, none⟩), .pointer (some ⟨P2, 0, none⟩), .pointer (some ⟨P3, 0, none⟩)] .returning w fun e u' w' => e = .returned (.tuple #[]) ∧ u' = .returning ∧ w' = w := by
  refine callsD_of_wpS Tryz.func43 rfl fun c₀ cs hu => ?_
  apply wpS_seq
  apply wpS_region
  simp [wpOpsS, go_sem, recoverD, hu, Tryz.ntmps43, Exit.thenS]
  refine wpS_of_wp (Code.wp_mono (Q := fun e a w' => e = .normal ∧ a.defers = [] ∧ w' = w) ?_ ?_)
  · rintro e a w' ⟨rfl, ha, rfl⟩
    cases c₀
    simp_all [Exit.thenS, bodyPostS, results, Tryz.results43]
  clear hu
  simp only [Array.replicate_succ, Array.replicate_zero, List.push_toArray, List.append_toArray, List.nil_append, List.cons_append, List.setIfInBounds_toArray, List.set_cons_zero, List.set_cons_succ]
  go_wp2
theorem run_assert_faultV (v : Value) (w : World) : (Instr.typeAssert (.iface 96 v) 20 96 true).run Tryz.prog w = .ok (.tuple #[v, .bool true]) w := by
  simp [Instr.typeAssert, run_underlying Tryz.underlying96, go_sem, Result.andThen]
/-- what the deferred function leaves, where it has caught a panic -/
def CatchV (B P1 P2 P3 : Nat) (n at_ : Int) (w : World) (e : Exit) (a : Act) (w' : World) : Prop := (e = .normal ∨ e = .ret) ∧ a.defers = [] ∧ ResV w' P1 P2 P3 (.slice none 0 0) (.slice none 0 0) at_ n ∧ Below B w w'
theorem cells2V {w : World} {g : Nat} {v0 v1 : Value} {T : TypeId} (h : w.heap[g]? = some (.cells #[v0, v1] T (0, 0))) :
    w.cell? ⟨g, 0, none⟩ = some v0 ∧ w.cell? ⟨g, 1, none⟩ = some v1 ∧ ∀ k, w.frozen? ⟨g, k, none⟩ = false :=
  ⟨cell_of_row _ _ _ _ _ _ h, cell_of_row _ _ _ _ _ _ h, fun k => frozen_of_row _ _ _ _ _ h⟩
theorem set2V {w : World} {C : Nat} {a0 a1 : Value} {T : TypeId} (h : w.heap[C]? = some (.cells #[a0, a1] T (0, 0))) (v0 v1 : Value) :
    ((w.setCell ⟨C, 0, none⟩ v0).setCell ⟨C, 1, none⟩ v1).heap[C]? = some (.cells #[v0, v1] T (0, 0)) :=
  heap_setCell_same _ C 1 _ _ v1 (heap_setCell_same w C 0 _ _ v0 h)
set_option maxRecDepth 100000 in
set_option maxHeartbeats 4000000 in
theorem catch_panickingV (B P1 P2 P3 : Nat) (n at_ : Int) (w : World) {u0 u1 : Value} {p0 e0 : Int} (h : ResV w P1 P2 P3 u0 u1 p0 e0) (hB : B ≤ P1 ∧ B ≤ P2 ∧ B ≤ P3 ∧ B ≤ w.heap.size) :
    CallsD Tryz.prog 43 #[.pointer (some ⟨P1, 0, none⟩), .pointer (some ⟨P2, 0, none⟩), .pointer (some ⟨P3, 0, none⟩)] (.panicking (faultK n at_)) w fun e u' w' =>
      e = .returned (.tuple #[]) ∧ u' = .panicking (caughtV n at_) ∧ ResV w' P1 P2 P3 (.slice none 0 0) (.slice none 0 0) at_ n ∧ Below B w w' := by
  refine callsD_of_wpS Tryz.func43 rfl fun c₀ cs hu => ?_
  apply wpS_seq
  apply wpS_region
  unfold faultK at hu
  simp [wpOpsS, go_sem, recoverD, hu, Tryz.ntmps43, Exit.thenS]
  refine wpS_of_wp (Code.wp_mono (Q := CatchV B P1 P2 P3 n at_ w) ?_ ?_)
  · rintro e a w' ⟨he, ha, hr, hb⟩
    have h1 : a.defers = [] ∧ ∃ u', ({ c₀ with mode := FrameMode.panicking (caughtV n at_) } :: cs : List Frame) = { c₀ with mode := u' } :: cs ∧ ∃ v, (results Tryz.f43 a.tmps).run Tryz.prog w' = .ok v w' ∧ (Ending.returned v = .returned (.tuple #[]) ∧ u' = .panicking (caughtV n at_) ∧ ResV w' P1 P2 P3 (.slice none 0 0) (.slice none 0 0) at_ n ∧ Below B w w') :=
      ⟨ha, _, rfl, .tuple #[], by simp [results, Tryz.results43], rfl, rfl, hr, hb⟩
    rcases he with rfl | rfl
    · exact h1
    · exact h1
  clear hu
  simp only [Array.replicate_succ, Array.replicate_zero, List.push_toArray, List.append_toArray, List.nil_append, List.cons_append, List.setIfInBounds_toArray, List.set_cons_zero, List.set_cons_succ]
  have hta := run_assert_faultV
  go_upto_region 7 with fail
  clear hta
  have hF := heap_alloc_new w (.cells #[.int .i64 n, .int .i64 at_] 96)
  have hb1 : Below w.heap.size w (w.alloc (.cells #[.int .i64 n, .int .i64 at_] 96)) := (Below.refl _ _).alloc (Nat.le_refl _) _
  have H1 := Lib.hid (show ResV (w.alloc (.cells #[.int .i64 n, .int .i64 at_] 96)) P1 P2 P3 u0 u1 p0 e0 from ⟨(hb1.block _ (lt_of_blk h.un)).trans h.un, (hb1.block _ (lt_of_blk h.pl)).trans h.pl, (hb1.block _ (lt_of_blk h.er)).trans h.er⟩)
  have HB1 := Lib.hid (hb1.mono hB.2.2.2)
  generalize w.alloc (.cells #[.int .i64 n, .int .i64 at_] 96) = w1 at *
  generalize w.heap.size = F at hF ⊢
  have d0 : w1.cell? ⟨F, 0, none⟩ = some (.int .i64 n) := cell_of_row _ _ _ _ _ _ hF
  have d1 : w1.cell? ⟨F, 1, none⟩ = some (.int .i64 at_) := cell_of_row _ _ _ _ _ _ hF
  have f1 := cells2V H1.out.un
  have f2 := one_cellL H1.out.pl
  have f3 := one_cellL H1.out.er
  have l1 := lt_of_blk H1.out.un
  have l2 := lt_of_blk H1.out.pl
  have l3 := lt_of_blk H1.out.er
  have lF := lt_of_blk hF
  have n12 : P1 ≠ P2 := otherL H1.out.un H1.out.pl (by decide)
  have n13 : P1 ≠ P3 := otherL H1.out.un H1.out.er (by decide)
  have n23 : P2 ≠ P3 := otherL H1.out.pl H1.out.er (by decide)
  have m12 := n12.symm
  have m13 := n13.symm
  have m23 := n23.symm
  have nF1 : F ≠ P1 := otherL hF H1.out.un (by decide)
  have nF2 : F ≠ P2 := otherL hF H1.out.pl (by decide)
  have nF3 : F ≠ P3 := otherL hF H1.out.er (by decide)
  clear h hb1
  have hd : ∀ W : World, W.drew.heap = W.heap := fun _ => rfl
  have s12 : ∀ (W : World) (j : Nat) (v : Value), (W.setCell ⟨P1, j, none⟩ v).heap[P2]? = W.heap[P2]? := fun W j v => Below.heap_setCell _ _ _ _ m12
  have s13 : ∀ (W : World) (j : Nat) (v : Value), (W.setCell ⟨P1, j, none⟩ v).heap[P3]? = W.heap[P3]? := fun W j v => Below.heap_setCell _ _ _ _ m13
  have s21 : ∀ (W : World) (j : Nat) (v : Value), (W.setCell ⟨P2, j, none⟩ v).heap[P1]? = W.heap[P1]? := fun W j v => Below.heap_setCell _ _ _ _ n12
  have s23 : ∀ (W : World) (j : Nat) (v : Value), (W.setCell ⟨P2, j, none⟩ v).heap[P3]? = W.heap[P3]? := fun W j v => Below.heap_setCell _ _ _ _ m23
  have s31 : ∀ (W : World) (j : Nat) (v : Value), (W.setCell ⟨P3, j, none⟩ v).heap[P1]? = W.heap[P1]? := fun W j v => Below.heap_setCell _ _ _ _ n13
  have s32 : ∀ (W : World) (j : Nat) (v : Value), (W.setCell ⟨P3, j, none⟩ v).heap[P2]? = W.heap[P2]? := fun W j v => Below.heap_setCell _ _ _ _ n23
  have HS := Lib.hid (And.intro hd (And.intro s12 (And.intro s13 (And.intro s21 (And.intro s23 (And.intro s31 s32))))))
  clear hd s12 s13 s21 s23 s31 s32
  go_region
  all_goals
    try go_wp2_with fail
    obtain ⟨hd, s12, s13, s21, s23, s31, s32⟩ := HS.out
    refine ⟨by first | exact .inl rfl | exact .inr rfl, rfl, ⟨?_, ?_, ?_⟩, ?_⟩
    · try simp only [hd, s21, s31]
      exact set2V (by first | exact H1.out.un | (simp only [hd, s21, s31]; exact H1.out.un)) _ _
    · try simp only [hd, s12, s32]
      refine set1L (a0 := .int .i64 p0) ?_ _
      first | with_reducible exact H1.out.pl | (simp only [hd, s12, s32]; with_reducible exact H1.out.pl)
    · try simp only [hd, s13, s23]
      refine set1L (a0 := .int .i64 e0) ?_ _
      first | with_reducible exact H1.out.er | (simp only [hd, s13, s23]; with_reducible exact H1.out.er)
    · repeat (first
        | with_reducible refine Below.drew ?_
        | with_reducible refine Below.setCell ?_ (by first | exact hB.1 | exact hB.2.1 | exact hB.2.2.1) _)
      with_reducible exact HB1.out
def ReadPost (s : ByteArray) (w : World) (e : Ending) (w' : World) : Prop :=
  Below w.heap.size w w' ∧ ((∃ at_ n, readT s = .inr (at_, n) ∧ e = .returned (.tuple #[.agg #[.slice none 0 0, .slice none 0 0], .int .i64 at_, .int .i64 n])) ∨
    ∃ (fs : List (Cls × Value)) (ss : List Src) (A1 : Option Addr) (c1 : Nat) (A2 : Option Addr) (c2 : Nat), readT s = .inl (fs.map (fun x => x.1), ss) ∧ e = .returned (.tuple #[.agg #[.slice A1 fs.length c1, .slice A2 ss.length c2], .int .i64 0, .int .i64 0]) ∧
      OwnYk w' w.heap.size (.slice A1 fs.length c1) fs ∧ (∀ x ∈ fs, ∃ A c, x.2 = .slice A x.1.2.2.1.length c ∧ OwnS w' w.heap.size x.2 x.1.2.2.1) ∧ OwnXk w' w.heap.size (.slice A2 ss.length c2) ss)
/-- what the last statement of Read leaves -/
def RdQ (B : Nat) (v0 v1 : Value) (at_ n : Int) (w : World) (I : World → Prop) (e : Exit) (a : Act) (w' : World) : Prop :=
  e = .ret ∧ a.defers = [{ target := .fn (.func 43) #[.pointer (some ⟨B, 0, none⟩), .pointer (some ⟨B + 1, 0, none⟩), .pointer (some ⟨B + 1 + 1, 0, none⟩)], args := #[] }] ∧
  a.tmps[2]?.getD undef = .pointer (some ⟨B, 0, none⟩) ∧ a.tmps[3]?.getD undef = .pointer (some ⟨B + 1, 0, none⟩) ∧ a.tmps[4]?.getD undef = .pointer (some ⟨B + 1 + 1, 0, none⟩) ∧
  ResV w' B (B + 1) (B + 1 + 1) v0 v1 at_ n ∧ Below B w w' ∧ I w'
theorem read_door {B : Nat} {v0 v1 : Value} {at_ n : Int} {w : World} {I : World → Prop} {R : Ending → World → Prop} (hR : ∀ w', Below B w w' → I w' → R (.returned (.tuple #[.agg #[v0, v1], .int .i64 at_, .int .i64 n])) w') (e : Exit) (a : Act) (w' : World) (h : RdQ B v0 v1 at_ n w I e a w') :
    bodyPostD Tryz.prog Tryz.f18 R e a w' := by
  obtain ⟨rfl, hd, h4, h5, h6, hr, hb, hi⟩ := h
  show Leaves Tryz.prog Tryz.f18 a.tmps R a.defers .returning w'
  rw [hd]
  refine leaves_cons (f := 43) (args := #[.pointer (some ⟨B, 0, none⟩), .pointer (some ⟨B + 1, 0, none⟩), .pointer (some ⟨B + 1 + 1, 0, none⟩)]) (by simp) (by simp [go_sem]) ?_
  refine (catch_idleV _ _ _ _).mono ?_
  rintro e u' w'' ⟨rfl, rfl, rfl⟩
  obtain ⟨c0, c1, _⟩ := cells2V hr.un
  obtain ⟨c4, _⟩ := one_cellL hr.pl
  obtain ⟨c5, _⟩ := one_cellL hr.er
  have hp := hR _ hb hi
  simp [Leaves, settle, results, Tryz.results18, go_sem, h4, h5, h6, c0, c1, c4, c5]
  exact hp
theorem ResV.put {W : World} {P1 P2 P3 : Nat} {u0 u1 : Value} {p0 e0 : Int} (h : ResV W P1 P2 P3 u0 u1 p0 e0) (v0 v1 : Value) (at_ n : Int) :
    ResV ((((W.setCell ⟨P1, 0, none⟩ v0).setCell ⟨P1, 1, none⟩ v1).setCell ⟨P2, 0, none⟩ (.int .i64 at_)).setCell ⟨P3, 0, none⟩ (.int .i64 n)) P1 P2 P3 v0 v1 at_ n := by
  have n12 : P1 ≠ P2 := otherL h.un h.pl (by decide)
  have n13 : P1 ≠ P3 := otherL h.un h.er (by decide)
  have n23 : P2 ≠ P3 := otherL h.pl h.er (by decide)
  have a1 := set2V h.un v0 v1
  have a2 := (Below.heap_setCell (W.setCell ⟨P1, 0, none⟩ v0) ⟨P1, 1, none⟩ v1 P2 n12.symm).trans ((Below.heap_setCell W ⟨P1, 0, none⟩ v0 P2 n12.symm).trans h.pl)
  have a3 := (Below.heap_setCell (W.setCell ⟨P1, 0, none⟩ v0) ⟨P1, 1, none⟩ v1 P3 n13.symm).trans ((Below.heap_setCell W ⟨P1, 0, none⟩ v0 P3 n13.symm).trans h.er)
  generalize (W.setCell ⟨P1, 0, none⟩ v0).setCell ⟨P1, 1, none⟩ v1 = W2 at *
  have b1 := (Below.heap_setCell W2 ⟨P2, 0, none⟩ (.int .i64 at_) P1 n12).trans a1
  have b2 := set1L a2 (.int .i64 at_)
  have b3 := (Below.heap_setCell W2 ⟨P2, 0, none⟩ (.int .i64 at_) P3 n23.symm).trans a3
  generalize W2.setCell ⟨P2, 0, none⟩ (.int .i64 at_) = W3 at *
  exact ⟨(Below.heap_setCell W3 ⟨P3, 0, none⟩ _ P1 n13).trans b1, (Below.heap_setCell W3 ⟨P3, 0, none⟩ _ P2 n23).trans b2, set1L b3 _⟩
theorem below_put {w W : World} {P1 P2 P3 : Nat} (hb : Below w.heap.size w W) (h1 : w.heap.size ≤ P1) (h2 : w.heap.size ≤ P2) (h3 : w.heap.size ≤ P3) (v0 v1 v2 v3 : Value) :
    Below w.heap.size w ((((W.setCell ⟨P1, 0, none⟩ v0).setCell ⟨P1, 1, none⟩ v1).setCell ⟨P2, 0, none⟩ v2).setCell ⟨P3, 0, none⟩ v3) :=
  (((hb.setCell (p := ⟨P1, 0, none⟩) h1 _).setCell (p := ⟨P1, 1, none⟩) h1 _).setCell (p := ⟨P2, 0, none⟩) h2 _).setCell (p := ⟨P3, 0, none⟩) h3 _
theorem boxes3V (w : World) (W : World) (hW : ((w.alloc (.cells #[.slice none 0 0, .slice none 0 0] 53)).alloc (.cells #[.int .i64 0] 3)).alloc (.cells #[.int .i64 0] 47) = W) :
    ResV W w.heap.size (w.heap.size + 1) (w.heap.size + 1 + 1) (.slice none 0 0) (.slice none 0 0) 0 0 ∧ Below w.heap.size w W := by
  obtain ⟨h1, h2, h3, h4⟩ := boxes3 w _ _ _ W hW
  exact ⟨⟨h1, h2, h3⟩, h4⟩
set_option maxRecDepth 100000 in
set_option maxHeartbeats 4000000 in
theorem readK_any (s : ByteArray) (w : World) (hs : s.size ≤ 16777216) (hm : MaxAt w) (hE : ∀ w', Below w.heap.size w w' → EnvL w') :
    Calls Tryz.prog 18 #[.string s] w (ReadPost s w) := by
  have hmf : ∀ (fn : Fn) (first cap : Array Value) (w : World), (Instr.makeFunc fn first cap).run Tryz.prog w = .ok (.func fn first cap) w := fun _ _ _ _ => rfl
  obtain ⟨W, hW⟩ : ∃ W, ((w.alloc (.cells #[.slice none 0 0, .slice none 0 0] 53)).alloc (.cells #[.int .i64 0] 3)).alloc (.cells #[.int .i64 0] 47) = W := ⟨_, rfl⟩
  obtain ⟨hr, hb⟩ := boxes3V w W hW
  have HE := Lib.hid hE
  have HM := Lib.hid hm
  clear hE hm
  go_enter_defers Tryz.func18, Tryz.ntmps18
  have f1 := cells2V hr.un
  have f2 := one_cellL hr.pl
  have f3 := one_cellL hr.er
  have l1 := lt_of_blk hr.un
  have l2 := lt_of_blk hr.pl
  have l3 := lt_of_blk hr.er
  by_cases hbig : 65536 < s.size
  · have hT : readT s = .inr (0, 2) := by unfold readT; rw [if_pos hbig]
    have hbi : decide ((s.size : Int) > 65536) = true := by rw [decide_eq_true_eq]; omega
    go_wp2_with fail
    exact read_door (I := fun _ => True) (fun w' hbw _ => ⟨hbw, .inl ⟨0, 2, hT, rfl⟩⟩) _ _ _ ⟨rfl, rfl, rfl, rfl, rfl, hr.put _ _ _ _, below_put hb (Nat.le_refl _) (by omega) (by omega) _ _ _ _, trivial⟩
  · have hT : readT s = readU s none 0 := by unfold readT; rw [if_neg hbig]
    have hbi : decide ((s.size : Int) > 65536) = false := by rw [decide_eq_false_iff_not]; omega
    go_wp2_with fail
    have hnb : Below W.heap.size W (W.alloc (.cells #[.slice none 0 0, .slice none 0 0, .string s, .int .i64 0] 99)) := (Below.refl _ _).alloc (Nat.le_refl _) _
    have hnw : Below w.heap.size w (W.alloc (.cells #[.slice none 0 0, .slice none 0 0, .string s, .int .i64 0] 99)) := hb.trans (hnb.mono hb.size)
    have hrk : RkW w (W.alloc (.cells #[.slice none 0 0, .slice none 0 0, .string s, .int .i64 0] 99)) W.heap.size s 0 [] [] none 0 none 0 := ⟨heap_alloc_new W _, hnw, hb.size, World.ownsRow_nil _ _ _ _, fun x hx => (by cases hx), World.ownsRow_nil _ _ _ _⟩
    have hfile := fileK_any w _ W.heap.size s hs hrk HM.out HE.out
    have HR0 := Lib.hid (show ResV (W.alloc (.cells #[.slice none 0 0, .slice none 0 0, .string s, .int .i64 0] 99)) w.heap.size (w.heap.size + 1) (w.heap.size + 1 + 1) (.slice none 0 0) (.slice none 0 0) 0 0 from ⟨(hnb.block _ l1).trans hr.un, (hnb.block _ l2).trans hr.pl, (hnb.block _ l3).trans hr.er⟩)
    have hlW : w.heap.size + 1 + 1 < W.heap.size := l3
    refine hfile.mono ?_
    rintro e w5 (⟨at_, n, hx, rfl, hb5, hk5⟩ | ⟨q, fs, ss, A3, c3, A4, c4, rfl, hx, hrk5, hk5⟩)
    case inl =>
      have hres5 : ResV w5 w.heap.size (w.heap.size + 1) (w.heap.size + 1 + 1) (.slice none 0 0) (.slice none 0 0) 0 0 := ⟨hk5 _ _ HR0.out.un rfl, hk5 _ _ HR0.out.pl rfl, hk5 _ _ HR0.out.er rfl⟩
      refine leaves_cons (f := 43) (args := #[.pointer (some ⟨w.heap.size, 0, none⟩), .pointer (some ⟨w.heap.size + 1, 0, none⟩), .pointer (some ⟨w.heap.size + 1 + 1, 0, none⟩)]) (by simp) (by simp [go_sem]) ?_
      refine (catch_panickingV w.heap.size _ _ _ n at_ w5 hres5 ⟨by omega, by omega, by omega, hb5.size⟩).mono ?_
      rintro e u' w6 ⟨rfl, rfl, hR, hB⟩
      have hpost : ReadPost s w (.returned (.tuple #[.agg #[.slice none 0 0, .slice none 0 0], .int .i64 at_, .int .i64 n])) w6 := ⟨hb5.trans hB, .inl ⟨at_, n, hT.trans hx, rfl⟩⟩
      obtain ⟨c0, c1, _⟩ := cells2V hR.un
      obtain ⟨c4, _⟩ := one_cellL hR.pl
      obtain ⟨c5, _⟩ := one_cellL hR.er
      simp [Leaves, settle, caughtV, results, Tryz.results18, go_sem, c0, c1, c4, c5]
      exact hpost
    have hres5 : ResV w5 w.heap.size (w.heap.size + 1) (w.heap.size + 1 + 1) (.slice none 0 0) (.slice none 0 0) 0 0 := ⟨hk5 _ _ HR0.out.un rfl, hk5 _ _ HR0.out.pl rfl, hk5 _ _ HR0.out.er rfl⟩
    have HRk := Lib.hid hrk5
    have HR5 := Lib.hid hres5
    have HX := Lib.hid (hT.trans hx)
    have HlW := Lib.hid hlW
    clear f1 f2 f3 hfile hrk hnb hnw HR0 hk5 hx l1 l2 l3 hr hb hlW
    have f := cells4L HRk.out.rd
    have f1 := cells2V HR5.out.un
    have f2 := one_cellL HR5.out.pl
    have f3 := one_cellL HR5.out.er
    have l1 := lt_of_blk HR5.out.un
    have l2 := lt_of_blk HR5.out.pl
    have l3 := lt_of_blk HR5.out.er
    go_wp2_with fail
    refine read_door (v0 := .slice A3 fs.length c3) (v1 := .slice A4 ss.length c4) (I := fun w' => OwnYk w' w.heap.size (.slice A3 fs.length c3) fs ∧ (∀ x ∈ fs, ∃ A c, x.2 = .slice A x.1.2.2.1.length c ∧ OwnS w' w.heap.size x.2 x.1.2.2.1) ∧ OwnXk w' w.heap.size (.slice A4 ss.length c4) ss) (fun w' hbw hi => ⟨hbw, .inr ⟨fs, ss, A3, c3, A4, c4, HX.out, rfl, hi⟩⟩) _ _ _ ⟨rfl, rfl, rfl, rfl, rfl, HR5.out.put _ _ _ _, below_put HRk.out.bel (Nat.le_refl _) (by omega) (by omega) _ _ _ _, ?_⟩
    have hC := HRk.out.ownC
    have hXo := HRk.out.ownX
    refine ⟨(((hC.cell (own_ne hC HR5.out.un (by decide)) _).cell (own_ne hC HR5.out.un (by decide)) _).cell (own_ne hC HR5.out.pl (by decide)) _).cell (own_ne hC HR5.out.er (by decide)) _, ?_, (((hXo.cell (own_ne hXo HR5.out.un (by decide)) _).cell (own_ne hXo HR5.out.un (by decide)) _).cell (own_ne hXo HR5.out.pl (by decide)) _).cell (own_ne hXo HR5.out.er (by decide)) _⟩
    intro x hx
    obtain ⟨A, c, e, hf⟩ := HRk.out.ownF x hx
    exact ⟨A, c, e, (((hf.cell (own_ne hf HR5.out.un (by decide)) _).cell (own_ne hf HR5.out.un (by decide)) _).cell (own_ne hf HR5.out.pl (by decide)) _).cell (own_ne hf HR5.out.er (by decide)) _⟩
end Go.Proofs.YtmdkneollidkfaaGreatDoor.Fl
