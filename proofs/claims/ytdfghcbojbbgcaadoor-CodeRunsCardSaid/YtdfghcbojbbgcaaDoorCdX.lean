/-
  Text of the laws' fixed code.
-/
import Derived.Test.YtdfghcbojbbgcaaDoorCdW
namespace Go.Proofs.YtdfghcbojbbgcaaDoor.Fl
open Go.RowKit

def tL : Nat → List UInt8
  | 0 => []
  | 1 => [48, 32, 80, 117, 115, 104, 83, 109, 97, 108, 108, 32, 53, 10]
  | _ => [48, 32, 80, 117, 115, 104, 83, 109, 97, 108, 108, 32, 53, 10, 50, 32, 82, 101, 116, 117, 114, 110, 10]
abbrev IsB (w : World) (B b : Nat) (l : List UInt8) : Prop := Lib.IsBuilder 60 5 B b (Lib.byteCells l) w
theorem builderAt_keep {w w' : World} {B b : Nat} {p : Value} {bs : List Value} (h : Lib.BuilderAt 60 5 B b p bs w) (hb : Below w.heap.size w w') : Lib.BuilderAt 60 5 B b p bs w' := by
  obtain ⟨hB, v, hbk, hown, hne⟩ := h
  exact ⟨hB, v, (hb.block b (lt_of_blkC hbk)).trans hbk, ⟨hown.1, hown.2.elim .inl fun ⟨g, cap, cur, hv, hbg, hg, r⟩ => .inr ⟨g, cap, cur, hv, hbg, (hb.block g (lt_of_blkC hg)).trans hg, r⟩⟩, hne⟩
theorem IsB.keep {w w' : World} {B b : Nat} {l : List UInt8} (h : IsB w B b l) (hb : Below w.heap.size w w') : IsB w' B b l :=
  h.elim (fun h => .inl (builderAt_keep h hb)) (fun h => .inr (builderAt_keep h hb))
theorem tL1 : Lib.byteCells (tL 0) ++ Lib.strCells ⟨#[48, 32, 80, 117, 115, 104, 83, 109, 97, 108, 108, 32, 53, 10]⟩ = Lib.byteCells (tL 1) := by
  first | rfl | kernel_rfl
theorem tL2 : Lib.byteCells (tL 1) ++ Lib.strCells ⟨#[50, 32, 82, 101, 116, 117, 114, 110, 10]⟩ = Lib.byteCells (tL 2) := by
  first | rfl | kernel_rfl
set_option maxRecDepth 100000 in
set_option maxHeartbeats 2000000 in
theorem text_fix (A : Option Addr) (c B : Nat) (w : World) (hr : Rd w B A (cb fixC)) (hB : B ≤ w.heap.size) (hc : 3 ≤ c) (hF : ∀ w', Below w.heap.size w w' → FormsAt w') (hE : ∀ w', Below w.heap.size w w' → EnvC w') :
    Calls Tryd.prog 8 #[.slice A 3 c] w fun e w' => e = .returned (.tuple #[.string ⟨(tL 2).toArray⟩, .int .i64 0]) ∧ Below w.heap.size w w' := by
  have HR := Lib.hid hr
  have HF := Lib.hid hF
  have HE := Lib.hid hE
  have hw1 := heap_alloc_new w (.cells #[.pointer none, .slice none 0 0] 60)
  have hb1 : Below w.heap.size w (w.alloc (.cells #[.pointer none, .slice none 0 0] 60)) := (Below.refl _ _).alloc (Nat.le_refl _) _
  have HI1 : Hid (IsB (w.alloc (.cells #[.pointer none, .slice none 0 0] 60)) w.heap.size w.heap.size (tL 0)) := Lib.hid (.inl ⟨Nat.le_refl _, _, hw1, World.ownsRow_nil _ _ _ _, by simp [Value.ownBlock]⟩)
  have HB1 := Lib.hid hb1
  clear hr hF hE hb1 hw1
  go_enter Tryd.func8, Tryd.ntmps8
  go_wp2_with fail
  generalize w.alloc (.cells #[.pointer none, .slice none 0 0] 60) = w1 at *
  go_loopw [5] (fun v5 wr => ∃ k : Nat, k ≤ 2 ∧ v5 = .int .i64 (pAt k) ∧ Hid (IsB wr w.heap.size w.heap.size (tL k)) ∧ Hid (Below w.heap.size w wr)) (fun v5 _ => 3 - (intOf v5).toNat)
  case atStart => exact ⟨0, Nat.zero_le _, rfl, HI1, HB1⟩
  case round =>
    obtain ⟨k, hk, rfl, HI, HO⟩ := hrel
    clear HI1 HB1
    obtain rfl | rfl | rfl : k = 0 ∨ k = 1 ∨ k = 2 := by omega
    · simp only [pAt]
      have hdec := decode_any fixC 0 A c B wr (HR.out.below HO.out hB) (Nat.le_trans hB HO.out.size) hc (by decide) (HF.out _ HO.out)
      rw [decFix0] at hdec
      go_wp2_with fail
      refine hdec.mono ?_
      rintro e w2 ⟨hb2, hcase⟩
      obtain ⟨y, p, hxp, rfl⟩ | ⟨n, hxp, _⟩ := hcase
      rotate_left 1
      · cases hxp
      obtain ⟨rfl, rfl⟩ : y = (4, 5, 0) ∧ p = 2 := by cases hxp; exact ⟨rfl, rfl⟩
      have hb3 : Below wr.heap.size wr (w2.alloc (.cells #[.int .i64 4, .int .i64 5, .int .i64 0] 34)) := hb2.alloc hb2.size _
      have HO3 := Lib.hid (HO.out.trans (hb3.mono HO.out.size))
      have HI3 := Lib.hid (HI.out.keep hb3)
      have hw3 := heap_alloc_new w2 (.cells #[.int .i64 4, .int .i64 5, .int .i64 0] 34)
      have f3 := three_cellsC hw3
      have hli := line0_fix (w2.alloc (.cells #[.int .i64 4, .int .i64 5, .int .i64 0] 34)) (fun w' h => HF.out _ (HO3.out.trans (h.mono HO3.out.size))) (fun w' h => HE.out _ (HO3.out.trans (h.mono HO3.out.size)))
      have hwr := fun (w4 : World) (hb : Below (w2.alloc (.cells #[.int .i64 4, .int .i64 5, .int .i64 0] 34)).heap.size (w2.alloc (.cells #[.int .i64 4, .int .i64 5, .int .i64 0] 34)) w4) => writeC w.heap.size w.heap.size (Lib.byteCells (tL 0)) ⟨#[48, 32, 80, 117, 115, 104, 83, 109, 97, 108, 108, 32, 53, 10]⟩ w4 (HI3.out.keep hb) (by decide) (Nat.le_trans HO3.out.size hb.size)
      rw [tL1] at hwr
      clear hdec hxp hb2 hb3 hw3 HO HI
      unfold insV
      go_wp2_with (first | (go_at_call 16; refine hli.mono ?_; rintro e w4 ⟨rfl, hb4⟩; have hw4 := hwr w4 hb4; have HO4 := Lib.hid (HO3.out.trans (hb4.mono HO3.out.size)); clear hwr hli hb4) | (go_at_call 15; refine hw4.mono ?_; rintro e w5 ⟨rfl, hbd, hb5⟩; have HI5 : Hid (IsB w5 w.heap.size w.heap.size (tL 1)) := Lib.hid (.inr hbd); have HO5 := Lib.hid (HO4.out.trans hb5); clear hw4 hbd hb5))
      go_roundw
      case rel => exact ⟨1, by decide, rfl, HI5, HO5⟩
      case measure => simp [intOf]
    · simp only [pAt]
      have hdec := decode_any fixC 2 A c B wr (HR.out.below HO.out hB) (Nat.le_trans hB HO.out.size) hc (by decide) (HF.out _ HO.out)
      rw [decFix2] at hdec
      go_wp2_with fail
      refine hdec.mono ?_
      rintro e w2 ⟨hb2, hcase⟩
      obtain ⟨y, p, hxp, rfl⟩ | ⟨n, hxp, _⟩ := hcase
      rotate_left 1
      · cases hxp
      obtain ⟨rfl, rfl⟩ : y = (18, 0, 0) ∧ p = 3 := by cases hxp; exact ⟨rfl, rfl⟩
      have hb3 : Below wr.heap.size wr (w2.alloc (.cells #[.int .i64 18, .int .i64 0, .int .i64 0] 34)) := hb2.alloc hb2.size _
      have HO3 := Lib.hid (HO.out.trans (hb3.mono HO.out.size))
      have HI3 := Lib.hid (HI.out.keep hb3)
      have hw3 := heap_alloc_new w2 (.cells #[.int .i64 18, .int .i64 0, .int .i64 0] 34)
      have f3 := three_cellsC hw3
      have hli := line2_fix (w2.alloc (.cells #[.int .i64 18, .int .i64 0, .int .i64 0] 34)) (fun w' h => HF.out _ (HO3.out.trans (h.mono HO3.out.size))) (fun w' h => HE.out _ (HO3.out.trans (h.mono HO3.out.size)))
      have hwr := fun (w4 : World) (hb : Below (w2.alloc (.cells #[.int .i64 18, .int .i64 0, .int .i64 0] 34)).heap.size (w2.alloc (.cells #[.int .i64 18, .int .i64 0, .int .i64 0] 34)) w4) => writeC w.heap.size w.heap.size (Lib.byteCells (tL 1)) ⟨#[50, 32, 82, 101, 116, 117, 114, 110, 10]⟩ w4 (HI3.out.keep hb) (by decide) (Nat.le_trans HO3.out.size hb.size)
      rw [tL2] at hwr
      clear hdec hxp hb2 hb3 hw3 HO HI
      unfold insV
      go_wp2_with (first | (go_at_call 16; refine hli.mono ?_; rintro e w4 ⟨rfl, hb4⟩; have hw4 := hwr w4 hb4; have HO4 := Lib.hid (HO3.out.trans (hb4.mono HO3.out.size)); clear hwr hli hb4) | (go_at_call 15; refine hw4.mono ?_; rintro e w5 ⟨rfl, hbd, hb5⟩; have HI5 : Hid (IsB w5 w.heap.size w.heap.size (tL 2)) := Lib.hid (.inr hbd); have HO5 := Lib.hid (HO4.out.trans hb5); clear hw4 hbd hb5))
      go_roundw
      case rel => exact ⟨2, by decide, rfl, HI5, HO5⟩
      case measure => simp [intOf]
    · simp only [pAt] at *
      have hst := Tryd.Builder_String_any w.heap.size w.heap.size (tL 2) wr HI.out HO.out.size
      go_wp2_with (first | (go_at_call 17; refine hst.mono ?_; rintro e w7 ⟨rfl, hb7⟩))
      have hb8 := HO.out.trans hb7
      go_ret2
      exact ⟨rfl, hb8⟩
end Go.Proofs.YtdfghcbojbbgcaaDoor.Fl

