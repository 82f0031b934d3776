/-
  Instructions: Check of the laws' fixed code.
-/
import Derived.Test.YtdfghcbojbbgcaaDoorCdT
namespace Go.Proofs.YtdfghcbojbbgcaaDoor.Fl
open Go.RowKit Go.Maps

def IdleQ (w : World) (e : Exit) (a : Act) (w' : World) : Prop := (e = .normal ∨ e = .ret) ∧ a.defers = [] ∧ w' = w
set_option maxRecDepth 100000 in
set_option maxHeartbeats 4000000 in
theorem catchC_idle (P1 P2 : Nat) (w : World) :
    CallsD Tryd.prog 9 #[.pointer (some ⟨P1, 0, none⟩), .pointer (some ⟨P2, 0, none⟩)] .returning w fun e u' w' => e = .returned (.tuple #[]) ∧ u' = .returning ∧ w' = w := by
  refine callsD_of_wpS Tryd.func9 rfl fun c₀ cs hu => ?_
  apply wpS_seq
  apply wpS_region
  simp [wpOpsS, go_sem, recoverD, hu, Tryd.ntmps9, Exit.thenS]
  refine wpS_of_wp (Code.wp_mono (Q := IdleQ w) ?_ ?_)
  · rintro e a w' ⟨he, ha, rfl⟩
    have h1 : a.defers = [] ∧ ∃ u', ({ c₀ with mode := FrameMode.returning } :: cs : List Frame) = { c₀ with mode := u' } :: cs ∧ ∃ v, (results Tryd.f9 a.tmps).run Tryd.prog w' = .ok v w' ∧ (Ending.returned v = .returned (.tuple #[]) ∧ u' = .returning ∧ w' = w') :=
      ⟨ha, _, rfl, .tuple #[], by simp [results, Tryd.results9], rfl, rfl, rfl⟩
    have e0 : ({ c₀ with mode := FrameMode.returning } : Frame) = c₀ := by cases c₀; simp_all
    rw [e0] at h1
    rcases he with rfl | rfl
    · exact h1
    · exact h1
  clear hu
  go_wp2_with fail
  all_goals exact ⟨by first | exact .inl rfl | exact .inr rfl, rfl, rfl⟩
theorem one_cellC {w : World} {g : Nat} {v : Value} {T : TypeId} (h : w.heap[g]? = some (.cells #[v] T (0, 0))) : w.cell? ⟨g, 0, none⟩ = some v ∧ ∀ k : Nat, w.frozen? ⟨g, k, none⟩ = false :=
  ⟨cell_of_row _ _ _ _ _ _ h, fun _ => frozen_of_row _ _ _ _ _ h⟩
set_option maxRecDepth 100000 in
set_option maxHeartbeats 4000000 in
theorem lookf_fix {C c M1 M2 B : Nat} {A : Option Addr} {op : Value} (w : World) (hC : CkB w C c M1 M2 A op 0) (hm : OwnM w M1 0 pD0) (hne : M1 ≠ C) (hr : Rd w B A (cb fixC)) (hB : B ≤ w.heap.size) (hBm : B ≤ M1) (hc : 3 ≤ c) (hF : FormsAt w) (hFm : ∀ w', OvC M1 w w' → FormsAt w') :
    Calls Tryd.prog 10 #[.pointer (some ⟨C, 0, none⟩)] w fun e w' => e = .returned (.tuple #[]) ∧ OvC M1 w w' ∧ OwnM w' M1 2 pD2 := by
  have hp := part_fix w hC hm hne hr hB hBm hc hF hFm
  have fC := eight_cellsC hC
  clear hC hm hr hF hFm
  go_enter Tryd.func10, Tryd.ntmps10
  go_wp2_with fail
  refine hp.mono ?_
  rintro e w2 ⟨rfl, ho, hm⟩
  have HO := Lib.hid ho
  have HM := Lib.hid hm
  clear hp ho hm
  go_wp2_with fail
  go_end0
  exact ⟨rfl, HO.out, HM.out⟩
theorem chk_boxes (w2 : World) (A : Option Addr) (c : Nat) (w5 : World) (hw : w5 = ((w2.alloc (.map #[] 0)).alloc (.map #[] 0)).alloc (.cells #[.slice A 3 c, .int .i64 0, .int .i64 0, .int .i64 0, .map (some w2.heap.size), .map (some (w2.heap.size + 1)), .slice none 0 0, .int .i64 0] 48)) :
    CkB w5 (w2.heap.size + 1 + 1) c w2.heap.size (w2.heap.size + 1) A (.slice none 0 0) 0 ∧ OwnM w5 w2.heap.size 0 (.map []) ∧ OwnM w5 (w2.heap.size + 1) 0 (.map []) ∧ Below w2.heap.size w2 w5 := by
  have a1 := World.ownsMap_made w2 Tryd.prog 3 (plainElem (H := Unit) Tryd.prog 3)
  have b1 := (Below.refl w2.heap.size w2).alloc (Nat.le_refl _) (.map #[] 0)
  have z1 : (w2.alloc (.map #[] 0)).heap.size = w2.heap.size + 1 := World.size_alloc _ _
  generalize w2.alloc (.map #[] 0) = w3 at *
  have a2 := World.ownsMap_made w3 Tryd.prog 3 (plainElem (H := Unit) Tryd.prog 3)
  have a1' := a1.alloc (.map #[] 0)
  have b2 := b1.alloc (by omega) (.map #[] 0)
  have z2 : (w3.alloc (.map #[] 0)).heap.size = w3.heap.size + 1 := World.size_alloc _ _
  generalize w3.alloc (.map #[] 0) = w4 at *
  rw [z1] at a2 z2
  have a3 := heap_alloc_new w4 (.cells #[.slice A 3 c, .int .i64 0, .int .i64 0, .int .i64 0, .map (some w2.heap.size), .map (some (w2.heap.size + 1)), .slice none 0 0, .int .i64 0] 48)
  rw [z2] at a3
  subst hw
  exact ⟨a3, a1'.alloc _, a2.alloc _, b2.alloc (by omega) _⟩
/-- what the last statement of Check leaves -/
def ChkQ (B : Nat) (m : Int) (w : World) (e : Exit) (a : Act) (w' : World) : Prop :=
  e = .ret ∧ a.defers = [{ target := .fn (.func 9) #[.pointer (some ⟨B, 0, none⟩), .pointer (some ⟨B + 1, 0, none⟩)], args := #[] }] ∧
  a.tmps[8]?.getD undef = .pointer (some ⟨B, 0, none⟩) ∧ a.tmps[9]?.getD undef = .pointer (some ⟨B + 1, 0, none⟩) ∧
  (w'.heap[B]? = some (.cells #[.int .i64 m] 3 (0, 0)) ∧ w'.heap[B + 1]? = some (.cells #[.int .i64 0] 27 (0, 0))) ∧ Below B w w'
theorem chk_door {B : Nat} {m : Int} {w : World} {R : Ending → World → Prop} (hR : ∀ w', Below B w w' → R (.returned (.tuple #[.int .i64 m, .int .i64 0])) w') (e : Exit) (a : Act) (w' : World) (h : ChkQ B m w e a w') :
    bodyPostD Tryd.prog Tryd.f5 R e a w' := by
  obtain ⟨rfl, hd, h4, h5, ⟨hr1, hr2⟩, hb⟩ := h
  show Leaves Tryd.prog Tryd.f5 a.tmps R a.defers .returning w'
  rw [hd]
  refine leaves_cons (f := 9) (args := #[.pointer (some ⟨B, 0, none⟩), .pointer (some ⟨B + 1, 0, none⟩)]) (by simp) (by simp [go_sem]) ?_
  refine (catchC_idle _ _ _).mono ?_
  rintro e u' w'' ⟨rfl, rfl, rfl⟩
  obtain ⟨c4, _⟩ := one_cellC hr1
  obtain ⟨c5, _⟩ := one_cellC hr2
  have hp := hR _ hb
  simp [Leaves, settle, results, Tryd.results5, go_sem, h4, h5, c4, c5]
  exact hp
set_option maxRecDepth 100000 in
set_option maxHeartbeats 600000 in
theorem check_fix (A : Option Addr) (c B : Nat) (w : World) (hr : Rd w B A (cb fixC)) (hB : B ≤ w.heap.size) (hc : 3 ≤ c) (hF : ∀ w', Below w.heap.size w w' → FormsAt w') :
    Calls Tryd.prog 5 #[.slice A 3 c, .int .i64 0, .int .i64 0, .int .i64 0] w fun e w' => e = .returned (.tuple #[.int .i64 1, .int .i64 0]) ∧ Below w.heap.size w w' := by
  have hmf : ∀ (fn : Fn) (first cap : Array Value) (w : World), (Instr.makeFunc fn first cap).run Tryd.prog w = .ok (.func fn first cap) w := fun _ _ _ _ => rfl
  have hmm := @run_makeMap Tryd.prog
  have HR := Lib.hid hr
  have HF := Lib.hid hF
  clear hr hF
  have hb2 := Lib.hid (show ∀ w2, w2 = (w.alloc (.cells #[.int .i64 0] 3)).alloc (.cells #[.int .i64 0] 27) → w2.heap[w.heap.size]? = some (.cells #[.int .i64 0] 3 (0, 0)) ∧ w2.heap[w.heap.size + 1]? = some (.cells #[.int .i64 0] 27 (0, 0)) ∧ Below w.heap.size w w2 ∧ w2.heap.size = w.heap.size + 1 + 1 from fun w2 e => by
    have a1 := heap_alloc_new w (.cells #[.int .i64 0] 3)
    have z1 : (w.alloc (.cells #[.int .i64 0] 3)).heap.size = w.heap.size + 1 := World.size_alloc _ _
    have b1 := (Below.refl w.heap.size w).alloc (Nat.le_refl _) (.cells #[.int .i64 0] 3)
    generalize w.alloc (.cells #[.int .i64 0] 3) = w1 at *
    have a2 := heap_alloc_new w1 (.cells #[.int .i64 0] 27)
    have z2 : (w1.alloc (.cells #[.int .i64 0] 27)).heap.size = w1.heap.size + 1 := World.size_alloc _ _
    have b2 := b1.alloc (by omega) (.cells #[.int .i64 0] 27)
    have c1 := Below.heap_alloc w1 (.cells #[.int .i64 0] 27) w.heap.size (by omega)
    rw [← e] at a2 z2 b2 c1
    rw [z1] at a2 z2
    exact ⟨c1.trans a1, a2, b2, z2⟩)
  go_enter_defers Tryd.func5, Tryd.ntmps5
  go_wp2_with fail
  obtain ⟨k1, k2, hbel2, hz2⟩ := hb2.out _ rfl
  clear hb2
  generalize (w.alloc (.cells #[.int .i64 0] 3)).alloc (.cells #[.int .i64 0] 27) = w2 at *
  rw [← hz2]
  obtain ⟨hC, hM1, hM2, hb5⟩ := chk_boxes w2 A c _ rfl
  generalize ((w2.alloc (.map #[] 0)).alloc (.map #[] 0)).alloc (.cells #[.slice A 3 c, .int .i64 0, .int .i64 0, .int .i64 0, .map (some w2.heap.size), .map (some (w2.heap.size + 1)), .slice none 0 0, .int .i64 0] 48) = w5 at *
  have hw5 : Below w.heap.size w w5 := hbel2.trans (hb5.mono (by omega))
  have hs5 := hb5.size
  have hlook := lookf_fix (C := w2.heap.size + 1 + 1) (c := c) (M1 := w2.heap.size) (M2 := w2.heap.size + 1) (B := B) (A := A) w5 hC hM1 (by omega) (HR.out.below hw5 hB) (by omega) (by omega) hc (HF.out _ hw5) (fun w' ho => HF.out _ (hw5.trans (ho.below hw5.size (by omega))))
  have HX := Lib.hid (show ∀ w6, OvC w2.heap.size w5 w6 → OwnM w6 w2.heap.size 2 pD2 → CkS w2 w6 w2.heap.size (w2.heap.size + 1 + 1) c w2.heap.size (w2.heap.size + 1) A 0 (.map []) (.slice none 0 0) [] 0 from fun w6 ho hm => ⟨hb5.trans (ho.below hs5 (Nat.le_refl _)), (ho.block _ (lt_of_blkC hC) (by omega)).trans hC, hm, hM2.keep (ho.block _ hM2.lt (by omega)), ownZ_nil _ _, fun j hj => (by cases hj), ⟨by omega, Nat.le_refl _, by omega, Nat.le_refl _⟩, by omega, by omega, by omega⟩)
  have HRun := Lib.hid (fun w6 (h : CkS w2 w6 w2.heap.size (w2.heap.size + 1 + 1) c w2.heap.size (w2.heap.size + 1) A 0 (.map []) (.slice none 0 0) [] 0) => run_fix h (fun w' hb => HR.out.below (hbel2.trans (hb.mono (by omega))) hB) (by omega) hc (fun w' hb => HF.out _ (hbel2.trans (hb.mono (by omega)))))
  have HBX := Lib.hid (show ∀ w7, Below w2.heap.size w2 w7 → w7.heap[w.heap.size]? = some (.cells #[.int .i64 0] 3 (0, 0)) ∧ w7.heap[w.heap.size + 1]? = some (.cells #[.int .i64 0] 27 (0, 0)) ∧ Below w.heap.size w w7 from fun w7 hb => ⟨(hb.block _ (by omega)).trans k1, (hb.block _ (by omega)).trans k2, hbel2.trans (hb.mono (by omega))⟩)
  have HD := Lib.hid (chk_door (B := w.heap.size) (m := 1) (w := w) (R := fun e w' => e = .returned (.tuple #[.int .i64 1, .int .i64 0]) ∧ Below w.heap.size w w') (fun w' hb => ⟨rfl, hb⟩))
  have hnz : w.heap.size < w2.heap.size := by omega
  clear hC hM1 hM2 hb5 hw5 hs5 k1 k2 hbel2 hB hc HR HF hz2
  refine hlook.mono ?_
  rintro e w6 ⟨rfl, ho6, hm6⟩
  have hrun := HRun.out w6 (HX.out w6 ho6 hm6)
  clear hlook ho6 hm6 HX HRun
  go_wp2_with fail
  refine hrun.mono ?_
  rintro e w7 ⟨rfl, A1, c1, hS⟩
  obtain ⟨b1, b2, hb7⟩ := HBX.out _ hS.bel
  have fC := eight_cellsC hS.blk
  have f1 := one_cellC b1
  have f2 := one_cellC b2
  have HB1 := Lib.hid b1
  have HB2 := Lib.hid b2
  have HB7 := Lib.hid hb7
  clear hrun hS HBX b1 b2 hb7
  go_wp2_with fail
  have e1 := heap_setCell_same w7 w.heap.size 0 _ _ (.int .i64 1) HB1.out
  have e2 := (Below.heap_setCell w7 ⟨w.heap.size, 0, none⟩ (.int .i64 1) (w.heap.size + 1) (by show w.heap.size + 1 ≠ w.heap.size; omega)).trans HB2.out
  have hbx := HB7.out.setCell (p := ⟨w.heap.size, 0, none⟩) (Nat.le_refl _) (.int .i64 1)
  generalize w7.setCell ⟨w.heap.size, 0, none⟩ (.int .i64 1) = w8 at *
  have e3 := (Below.heap_setCell w8 ⟨w.heap.size + 1, 0, none⟩ (.int .i64 0) w.heap.size (by show w.heap.size ≠ w.heap.size + 1; omega)).trans e1
  have e4 := heap_setCell_same w8 (w.heap.size + 1) 0 _ _ (.int .i64 0) e2
  exact HD.out _ _ _ ⟨rfl, rfl, rfl, rfl, ⟨e3, e4⟩, hbx.setCell (p := ⟨w.heap.size + 1, 0, none⟩) (Nat.le_succ _) _⟩
end Go.Proofs.YtdfghcbojbbgcaaDoor.Fl

