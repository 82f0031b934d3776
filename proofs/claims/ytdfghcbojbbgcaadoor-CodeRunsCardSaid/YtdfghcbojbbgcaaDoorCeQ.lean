/-
  Instructions: Check of any code.
-/
import Derived.Test.YtdfghcbojbbgcaaDoorCeP
namespace Go.Proofs.YtdfghcbojbbgcaaDoor.Fl
open Go.RowKit Go.Maps

theorem chkX_boxes (w2 : World) (A : Option Addr) (N c : Nat) (L S F : Int) (w5 : World) (hw : w5 = ((w2.alloc (.map #[] 0)).alloc (.map #[] 0)).alloc (.cells #[.slice A N c, .int .i64 L, .int .i64 S, .int .i64 F, .map (some w2.heap.size), .map (some (w2.heap.size + 1)), .slice none 0 0, .int .i64 0] 48)) :
    CkG w5 (w2.heap.size + 1 + 1) N c w2.heap.size (w2.heap.size + 1) A L S F (.slice none 0 0) 0 ∧ OwnM w5 w2.heap.size 0 (.map []) ∧ OwnM w5 (w2.heap.size + 1) 0 (.map []) ∧ Below w2.heap.size w2 w5 := by
  have a1 := World.ownsMap_made w2 Tryd.prog 3 (plainElem (H := Unit) Tryd.prog 3)
  have b1 := (Below.refl w2.heap.size w2).alloc (Nat.le_refl _) (.map #[] 0)
  have z1 : (w2.alloc (.map #[] 0)).heap.size = w2.heap.size + 1 := World.size_alloc _ _
  generalize w2.alloc (.map #[] 0) = w3 at *
  have a2 := World.ownsMap_made w3 Tryd.prog 3 (plainElem (H := Unit) Tryd.prog 3)
  have a1' := a1.alloc (.map #[] 0)
  have b2 := b1.alloc (by omega) (.map #[] 0)
  have z2 : (w3.alloc (.map #[] 0)).heap.size = w3.heap.size + 1 := World.size_alloc _ _
  generalize w3.alloc (.map #[] 0) = w4 at *
  rw [z1] at a2 z2
  have a3 := heap_alloc_new w4 (.cells #[.slice A N c, .int .i64 L, .int .i64 S, .int .i64 F, .map (some w2.heap.size), .map (some (w2.heap.size + 1)), .slice none 0 0, .int .i64 0] 48)
  rw [z2] at a3
  subst hw
  exact ⟨a3, a1'.alloc _, a2.alloc _, b2.alloc (by omega) _⟩
def CheckPostX (code : List UInt8) (w : World) (e : Ending) (w' : World) : Prop :=
  Below w.heap.size w w' ∧ ∃ m er : Int, e = .returned (.tuple #[.int .i64 m, .int .i64 er]) ∧ (er = 0 → 0 ≤ m ∧ m ≤ 10000 ∧ ∃ D2, RunOK code D2 m)
/-- a panic that Check catches -/
theorem chk_caught {code : List UInt8} {w w6 : World} {n : Int} (hn : n ≠ 0) (hr : ResK w6 w.heap.size (w.heap.size + 1) 0 0) (hb : Below w.heap.size w w6) (tm : Array Value) (h4 : tm[8]?.getD undef = .pointer (some ⟨w.heap.size, 0, none⟩)) (h5 : tm[9]?.getD undef = .pointer (some ⟨w.heap.size + 1, 0, none⟩)) :
    Leaves Tryd.prog Tryd.f5 tm (CheckPostX code w) [{ target := .fn (.func 9) #[.pointer (some ⟨w.heap.size, 0, none⟩), .pointer (some ⟨w.heap.size + 1, 0, none⟩)], args := #[] }] (.panicking (faultK n)) w6 := by
  refine leaves_cons (f := 9) (args := #[.pointer (some ⟨w.heap.size, 0, none⟩), .pointer (some ⟨w.heap.size + 1, 0, none⟩)]) (by simp) (by simp [go_sem]) ?_
  refine (catchK_panicking w.heap.size _ _ n w6 hr ⟨Nat.le_refl _, Nat.le_succ _, hb.size⟩).mono ?_
  rintro e u' w7 ⟨rfl, rfl, hR, hB⟩
  have hpost : CheckPostX code w (.returned (.tuple #[.int .i64 0, .int .i64 n])) w7 := ⟨hb.trans hB, 0, n, rfl, fun e => absurd e hn⟩
  obtain ⟨c4, _⟩ := one_cellC hR.mo
  obtain ⟨c5, _⟩ := one_cellC hR.er
  simp [Leaves, settle, caughtK, results, Tryd.results5, go_sem, h4, h5, c4, c5]
  exact hpost
theorem chk_doorX {B : Nat} {m : Int} {w : World} {R : Ending → World → Prop} (hR : ∀ w', Below B w w' → R (.returned (.tuple #[.int .i64 m, .int .i64 0])) w') (e : Exit) (a : Act) (w' : World) (h : ChkQ B m w e a w') :
    bodyPostD Tryd.prog Tryd.f5 R e a w' := chk_door hR e a w' h
set_option maxRecDepth 100000 in
set_option maxHeartbeats 2000000 in
theorem check_any (code : List UInt8) (hN : code.length ≤ 1000) (A : Option Addr) (c B : Nat) (L S F : Int) (w : World) (hr : Rd w B A (cb code)) (hB : B ≤ w.heap.size) (hc : code.length ≤ c) (hF : ∀ w', Below w.heap.size w w' → FormsAt w') :
    Calls Tryd.prog 5 #[.slice A code.length c, .int .i64 L, .int .i64 S, .int .i64 F] w (CheckPostX code w) := by
  have hmf : ∀ (fn : Fn) (first cap : Array Value) (w : World), (Instr.makeFunc fn first cap).run Tryd.prog w = .ok (.func fn first cap) w := fun _ _ _ _ => rfl
  have hmm := @run_makeMap Tryd.prog
  have HR := Lib.hid hr
  have HF := Lib.hid hF
  clear hr hF
  obtain ⟨N, hNN⟩ : ∃ N, code.length = N := ⟨_, rfl⟩
  have HNN := Lib.hid hNN
  rw [hNN] at hN hc ⊢
  clear hNN
  have hb2 := Lib.hid (show ∀ w2, w2 = (w.alloc (.cells #[.int .i64 0] 3)).alloc (.cells #[.int .i64 0] 27) → w2.heap[w.heap.size]? = some (.cells #[.int .i64 0] 3 (0, 0)) ∧ w2.heap[w.heap.size + 1]? = some (.cells #[.int .i64 0] 27 (0, 0)) ∧ Below w.heap.size w w2 ∧ w2.heap.size = w.heap.size + 1 + 1 from fun w2 e => by
    have a1 := heap_alloc_new w (.cells #[.int .i64 0] 3)
    have z1 : (w.alloc (.cells #[.int .i64 0] 3)).heap.size = w.heap.size + 1 := World.size_alloc _ _
    have b1 := (Below.refl w.heap.size w).alloc (Nat.le_refl _) (.cells #[.int .i64 0] 3)
    generalize w.alloc (.cells #[.int .i64 0] 3) = w1 at *
    have a2 := heap_alloc_new w1 (.cells #[.int .i64 0] 27)
    have z2 : (w1.alloc (.cells #[.int .i64 0] 27)).heap.size = w1.heap.size + 1 := World.size_alloc _ _
    have b2 := b1.alloc (by omega) (.cells #[.int .i64 0] 27)
    have c1 := Below.heap_alloc w1 (.cells #[.int .i64 0] 27) w.heap.size (by omega)
    rw [← e] at a2 z2 b2 c1
    rw [z1] at a2 z2
    exact ⟨c1.trans a1, a2, b2, z2⟩)
  go_enter_defers Tryd.func5, Tryd.ntmps5
  go_wp2_with fail
  obtain ⟨k1, k2, hbel2, hz2⟩ := hb2.out _ rfl
  clear hb2
  generalize (w.alloc (.cells #[.int .i64 0] 3)).alloc (.cells #[.int .i64 0] 27) = w2 at *
  rw [← hz2]
  obtain ⟨hC, hM1, hM2, hb5⟩ := chkX_boxes w2 A N c L S F _ rfl
  generalize ((w2.alloc (.map #[] 0)).alloc (.map #[] 0)).alloc (.cells #[.slice A N c, .int .i64 L, .int .i64 S, .int .i64 F, .map (some w2.heap.size), .map (some (w2.heap.size + 1)), .slice none 0 0, .int .i64 0] 48) = w5 at *
  have hw5 : Below w.heap.size w w5 := hbel2.trans (hb5.mono (by omega))
  have hs5 := hb5.size
  have hlook := look_any (C := w2.heap.size + 1 + 1) (c := c) (M1 := w2.heap.size) (M2 := w2.heap.size + 1) (B := B) (A := A) (L := L) (S := S) (F := F) (v := .slice none 0 0) (most := 0) code (by rw [HNN.out]; exact hN) (by rw [HNN.out]; exact hc) (by omega) (by omega) w5 (by rw [HNN.out]; exact hC) hM1 (fun w' ho => HR.out.below (hw5.trans (ho.below hw5.size (by omega))) hB) (by omega) (fun w' ho => HF.out _ (hw5.trans (ho.below hw5.size (by omega))))
  have HX := Lib.hid (show ∀ w6 n1 D1, OvC w2.heap.size w5 w6 → OwnM w6 w2.heap.size n1 D1 → IsMap D1 → CkX w2 w6 w2.heap.size (w2.heap.size + 1 + 1) code.length c w2.heap.size (w2.heap.size + 1) A L S F n1 0 D1 (.map []) (.slice none 0 0) [] 0 from fun w6 n1 D1 ho hm hi => ⟨hb5.trans (ho.below hs5 (Nat.le_refl _)), by rw [HNN.out]; exact (ho.block _ (lt_of_blkC hC) (by omega)).trans hC, hm, hM2.keep (ho.block _ hM2.lt (by omega)), ownZ_nil _ _, fun j hj => (by cases hj), ⟨by omega, Nat.le_refl _, by omega, Nat.le_refl _⟩, ⟨by omega, by omega, by omega⟩, hi, isMap_empty⟩)
  have HRun := Lib.hid (fun w6 n1 D1 (h : CkX w2 w6 w2.heap.size (w2.heap.size + 1 + 1) code.length c w2.heap.size (w2.heap.size + 1) A L S F n1 0 D1 (.map []) (.slice none 0 0) [] 0) (hp : P1 code D1) => run_any code (by rw [HNN.out]; exact hN) h hp (fun w' hb => HR.out.below (hbel2.trans (hb.mono (by omega))) hB) (by omega) (by rw [HNN.out]; exact hc) (fun w' hb => HF.out _ (hbel2.trans (hb.mono (by omega)))))
  have HBX := Lib.hid (show ∀ w7, Below w2.heap.size w2 w7 → ResK w7 w.heap.size (w.heap.size + 1) 0 0 ∧ Below w.heap.size w w7 from fun w7 hb => ⟨⟨(hb.block _ (by omega)).trans k1, (hb.block _ (by omega)).trans k2⟩, hbel2.trans (hb.mono (by omega))⟩)
  have HB5 := Lib.hid hb5
  have hnz : w.heap.size < w2.heap.size := by omega
  clear hC hM1 hM2 hb5 hw5 k1 k2 hbel2 hB hc HR HF hz2
  refine hlook.mono ?_
  rintro e w6 (⟨⟨n8, hn8, rfl⟩, ho6⟩ | ⟨rfl, ho6, n1, D1, hm6, hi6, hp6⟩)
  · obtain ⟨hres, hbe⟩ := HBX.out w6 (HB5.out.trans (ho6.below hs5 (Nat.le_refl _)))
    exact chk_caught hn8 hres hbe _ rfl rfl
  have hrun := HRun.out w6 n1 D1 (HX.out w6 n1 D1 ho6 hm6 hi6) hp6
  clear hlook ho6 hm6 hi6 hp6 HX HRun hs5
  go_wp2_with fail
  refine hrun.mono ?_
  rintro e w7 (⟨⟨n8, hn8, rfl⟩, hb7⟩ | ⟨rfl, n2, D2, v, os, most, hS, hOK, hm0, hm1⟩)
  · obtain ⟨hres, hbe⟩ := HBX.out w7 hb7
    exact chk_caught hn8 hres hbe _ rfl rfl
  obtain ⟨hres, hb7⟩ := HBX.out _ hS.bel
  have fC := eight_cellsC hS.blk
  have f1 := one_cellC hres.mo
  have f2 := one_cellC hres.er
  have HB1 := Lib.hid hres.mo
  have HB2 := Lib.hid hres.er
  have HB7 := Lib.hid hb7
  have HD := Lib.hid (chk_doorX (B := w.heap.size) (m := most) (w := w) (R := CheckPostX code w) (fun w' hb => ⟨hb, most, 0, rfl, fun _ => ⟨hm0, hm1, D2, hOK⟩⟩))
  clear hrun hS HBX hres hb7 hOK HB5
  go_wp2_with fail
  have e1 := heap_setCell_same w7 w.heap.size 0 _ _ (.int .i64 most) HB1.out
  have e2 := (Below.heap_setCell w7 ⟨w.heap.size, 0, none⟩ (.int .i64 most) (w.heap.size + 1) (by show w.heap.size + 1 ≠ w.heap.size; omega)).trans HB2.out
  have hbx := HB7.out.setCell (p := ⟨w.heap.size, 0, none⟩) (Nat.le_refl _) (.int .i64 most)
  generalize w7.setCell ⟨w.heap.size, 0, none⟩ (.int .i64 most) = w8 at *
  have e3 := (Below.heap_setCell w8 ⟨w.heap.size + 1, 0, none⟩ (.int .i64 0) w.heap.size (by show w.heap.size ≠ w.heap.size + 1; omega)).trans e1
  have e4 := heap_setCell_same w8 (w.heap.size + 1) 0 _ _ (.int .i64 0) e2
  exact HD.out _ _ _ ⟨rfl, rfl, rfl, rfl, ⟨e3, e4⟩, hbx.setCell (p := ⟨w.heap.size + 1, 0, none⟩) (Nat.le_succ _) _⟩
end Go.Proofs.YtdfghcbojbbgcaaDoor.Fl

