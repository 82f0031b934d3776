/-
  Layer 14: the laws' fixed fact.
-/
import Derived.Test.YtdfghcbojbbgcaaDoorCdX
namespace Go.Proofs.YtdfghcbojbbgcaaDoor.Fl
open Go.RowKit

theorem encFix : encR [(4, 5, 0), (18, 0, 0)] = some fixC := by decide +kernel
set_option maxRecDepth 100000 in
set_option maxHeartbeats 2000000 in
theorem awake14_any (w : World) (hF : ∀ w', Below w.heap.size w w' → FormsAt w') (hE : ∀ w', Below w.heap.size w w' → EnvC w') :
    Calls Tryd.prog 4 #[] w fun e w' => e = .returned (.bool true) ∧ Below w.heap.size w w' := by
  have HF := Lib.hid hF
  have HE := Lib.hid hE
  have hw1 := heap_alloc_new w (.cells #[.int .i64 4, .int .i64 5, .int .i64 0, .int .i64 18, .int .i64 0, .int .i64 0] 34)
  have hb1 : Below w.heap.size w (w.alloc (.cells #[.int .i64 4, .int .i64 5, .int .i64 0, .int .i64 18, .int .i64 0, .int .i64 0] 34)) := (Below.refl _ _).alloc (Nat.le_refl _) _
  have hr1 : Rd (w.alloc (.cells #[.int .i64 4, .int .i64 5, .int .i64 0, .int .i64 18, .int .i64 0, .int .i64 0] 34)) (w.alloc (.cells #[.int .i64 4, .int .i64 5, .int .i64 0, .int .i64 18, .int .i64 0, .int .i64 0] 34)).heap.size (some ⟨w.heap.size, 0, none⟩) (ci [(4, 5, 0), (18, 0, 0)]) := rd_block hw1 (lt_of_blkC hw1)
  have henc := encode_any [(4, 5, 0), (18, 0, 0)] (some ⟨w.heap.size, 0, none⟩) 2 _ _ hr1 (Nat.le_refl _) (by decide) (by decide) (HF.out _ hb1)
  have HB1 := Lib.hid hb1
  clear hF hE hw1 hb1 hr1
  go_enter Tryd.func4, Tryd.ntmps4
  go_wp2_with fail
  refine henc.mono ?_
  rintro e w2 ⟨hb2, hcase⟩
  obtain ⟨bs, A, c, hbs, _, rfl, hO⟩ | ⟨hno, _⟩ := hcase
  rotate_left 1
  · rw [encFix] at hno; cases hno
  rw [encFix] at hbs
  injection hbs with hbs
  subst hbs
  have HB2 := Lib.hid (HB1.out.trans (hb2.mono HB1.out.size))
  obtain ⟨hrd, _, _, hcc⟩ := ownB_rd hO
  have hs2 := HB2.out.size
  have hchk := check_fix A c _ w2 hrd (Nat.le_refl _) hcc (fun w' h => HF.out _ (HB2.out.trans (h.mono hs2)))
  have HR2 := Lib.hid hrd
  have hc3 : 3 ≤ c := hcc
  clear henc hb2 hO hrd hcc HB1
  go_wp2_with fail
  refine hchk.mono ?_
  rintro e w3 ⟨rfl, hb3⟩
  have HB3 := Lib.hid (HB2.out.trans (hb3.mono hs2))
  have hs3 := HB3.out.size
  have htx := text_fix A c _ w3 (HR2.out.below hb3 (Nat.le_refl _)) hb3.size hc3 (fun w' h => HF.out _ (HB3.out.trans (h.mono hs3))) (fun w' h => HE.out _ (HB3.out.trans (h.mono hs3)))
  rw [show (tL 2).toArray = #[48, 32, 80, 117, 115, 104, 83, 109, 97, 108, 108, 32, 53, 10, 50, 32, 82, 101, 116, 117, 114, 110, 10] from rfl] at htx
  clear hchk hb3 HB2 HR2
  go_wp2_with fail
  refine htx.mono ?_
  rintro e w4 ⟨rfl, hb4⟩
  have hb5 := HB3.out.trans (hb4.mono hs3)
  clear htx hb4
  go_wp2_with fail
  go_ret
  exact ⟨rfl, hb5⟩
end Go.Proofs.YtdfghcbojbbgcaaDoor.Fl

