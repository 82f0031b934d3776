/-
  strings.Builder at this dump; a line of the laws' fixed code.
-/
import Derived.Test.YtdfghcbojbbgcaaDoorCdU
import Derived.Test.YtdfghcbojbbgcaaDoorShelf
import Derived.Shelf.Strings.OnBuilder
import Derived.Lib.AppendIntMem
namespace Go.Proofs.YtdfghcbojbbgcaaDoor.Fl
open Go.RowKit

theorem writeC (B b : Nat) (bs : List Value) (s : ByteArray) (w : World) (h : Lib.IsBuilder 60 5 B b bs w) (hlen : bs.length + s.size ≤ 140737488355328) (hBw : B ≤ w.heap.size) :
    Calls Tryd.prog 15 #[.pointer (some ⟨b, 0, none⟩), .string s] w fun e w' => e = .returned (.tuple #[.int .i64 s.size, .nilIface]) ∧ (Lib.BuilderAt 60 5 B b (.pointer (some ⟨b, 0, none⟩)) (bs ++ Lib.strCells s) w' ∧ Below B w w') :=
  Any.Builder_WriteString { Tryd.lays156 with } Tryd.Builder_Extra_156 B b bs s w h hlen hBw
def nmSmall : ByteArray := ⟨#[80, 117, 115, 104, 83, 109, 97, 108, 108]⟩
def nmReturn : ByteArray := ⟨#[82, 101, 116, 117, 114, 110]⟩
theorem joinFix1 : Lib.join ([(⟨#[48]⟩ : ByteArray), nmSmall, ⟨#[53]⟩].map (·.data.toList)) (⟨#[32]⟩ : ByteArray).data.toList = [48, 32, 80, 117, 115, 104, 83, 109, 97, 108, 108, 32, 53] := by decide +kernel
theorem joinFix2 : Lib.join ([(⟨#[50]⟩ : ByteArray), nmReturn].map (·.data.toList)) (⟨#[32]⟩ : ByteArray).data.toList = [50, 32, 82, 101, 116, 117, 114, 110] := by decide +kernel
theorem itoaFix0 : Lib.itoa 0 = [48] := by decide +kernel
theorem itoaFix2 : Lib.itoa 2 = [50] := by decide +kernel
theorem itoaFix5 : Lib.itoa 5 = [53] := by decide +kernel
abbrev EnvC (w : World) : Prop := Lib.TabIs Tryd.prog w "internal/strconv.uint64pow10" .u64 Lib.pow10Tab
theorem itoaC (n : Int) (h0 : 0 ≤ n) (h1 : n < 10) (w : World) (hE : EnvC w) :
    Calls Tryd.prog 25 #[.int .i64 n] w fun e w' => e = .returned (.string ⟨(Lib.itoa n).toArray⟩) ∧ Below w.heap.size w w' :=
  (Tryd.strconv_Itoa n (by omega) (by omega) w hE).mono fun e w' ⟨he, k, os, hw⟩ => ⟨he, by
    rw [hw]
    first
      | exact Lib.below_grow _ _ (Nat.le_refl _) _ _
      | exact below_grow _ _ (Nat.le_refl _) _ _⟩
theorem strinfoC : (Tryd.prog.info? 9).map (fun i => (i.zero, i.size, i.bytes)) = some (some (.string ⟨#[]⟩), 1, 16) := by kernel_rfl
theorem two_strC {w : World} {g : Nat} {x y : ByteArray} {T : TypeId} (h : w.heap[g]? = some (.cells #[.string x, .string y] T (0, 0))) : ∀ (j : Nat) z, [x, y][j]? = some z → w.cell? ⟨g, 0 + j, none⟩ = some (.string z) := fun j z hj => by
  rw [Nat.zero_add]
  rcases j with _ | _ | j
  · exact (cell_of_row _ _ _ _ _ _ h).trans (by simp at hj; simp [hj])
  · exact (cell_of_row _ _ _ _ _ _ h).trans (by simp at hj; simp [hj])
  · simp at hj
set_option maxRecDepth 100000 in
set_option maxHeartbeats 2000000 in
theorem line2_fix (w : World) (hF : ∀ w', Below w.heap.size w w' → FormsAt w') (hE : ∀ w', Below w.heap.size w w' → EnvC w') :
    Calls Tryd.prog 16 #[.int .i64 2, .agg #[.int .i64 18, .int .i64 0, .int .i64 0]] w fun e w' => e = .returned (.string ⟨#[50, 32, 82, 101, 116, 117, 114, 110, 10]⟩) ∧ Below w.heap.size w w' := by
  have HF := Lib.hid hF
  have HE := Lib.hid hE
  have hw1 := heap_alloc_new w (.cells #[.int .i64 18, .int .i64 0, .int .i64 0] 34)
  have f1 := three_cellsC hw1
  have l1 := lt_of_blkC hw1
  have hb1 : Below w.heap.size w (w.alloc (.cells #[.int .i64 18, .int .i64 0, .int .i64 0] 34)) := (Below.refl _ _).alloc (Nat.le_refl _) _
  obtain ⟨g0, g1, g2, g3, g4, g5, g6⟩ := (HF.out _ hb1).row (k := 18) rfl
  have hgl := (HF.out _ hb1).lt
  clear hF hE
  go_enter Tryd.func16, Tryd.ntmps16
  go_upto_region 2 with fail
  have hw2 := heap_alloc_new (w.alloc (.cells #[.int .i64 18, .int .i64 0, .int .i64 0] 34)) (.cells #[.string ⟨#[82, 101, 116, 117, 114, 110]⟩, .int .i64 0, .int .i64 0, .int .i64 0, .int .i64 0, .int .i64 1, .int .i64 0] 52)
  have hb2 := hb1.alloc (Nat.le_of_lt l1) (.cells #[.string ⟨#[82, 101, 116, 117, 114, 110]⟩, .int .i64 0, .int .i64 0, .int .i64 0, .int .i64 0, .int .i64 1, .int .i64 0] 52)
  rw [World.size_alloc] at hw2
  clear g0 g1 g2 g3 g4 g5 g6 hgl hw1 f1 l1 hb1
  generalize (w.alloc (.cells #[.int .i64 18, .int .i64 0, .int .i64 0] 34)).alloc (.cells #[.string ⟨#[82, 101, 116, 117, 114, 110]⟩, .int .i64 0, .int .i64 0, .int .i64 0, .int .i64 0, .int .i64 1, .int .i64 0] 52) = w2 at *
  have l2 := lt_of_blkC hw2
  have hit := itoaC 2 (by decide) (by decide) w2.drew (HE.out _ hb2.drew)
  rw [itoaFix2] at hit
  generalize w.heap.size + 1 = F at *
  refine wp_region_noPanic ?_
  refine wp_region_held_drew (S := (fun w' : World => w'.cell? ⟨F, 0, none⟩ = some (.string ⟨#[82, 101, 116, 117, 114, 110]⟩))) (by kernel_rfl) (cell_of_row _ _ _ _ _ _ hw2) (fun hHeld => ?_)
  refine wpAnyH_take (i := 0) (v := ?_) (by first | (simp only [List.getElem?_toArray, List.getElem?_cons_succ, List.getElem?_cons_zero]; rfl) | rfl) (by kernel_rfl) (by kernel_rfl) (by kernel_rfl) (fun _ _ _ h => h) (Or.inl ⟨by rfl, ?_⟩) (by assumption) ?_
  rotate_left 1
  · (intro w' hSw; (try dsimp only at hSw); go_simp; (try with_reducible rfl))
  try simp only [Act.put, List.setIfInBounds_toArray, List.set_cons_zero, List.set_cons_succ]
  refine wpAnyH_take (i := 2) (v := ?_) (by first | (simp only [List.getElem?_toArray, List.getElem?_cons_succ, List.getElem?_cons_zero]; rfl) | rfl) (by kernel_rfl) (by kernel_rfl) (by kernel_rfl) (fun _ _ _ h => h) (Or.inl ⟨by rfl, ?_⟩) (by assumption) ?_
  rotate_left 1
  · (intro w' hSw; (try dsimp only at hSw); go_simp; (try with_reducible rfl))
  try simp only [Act.put, List.setIfInBounds_toArray, List.set_cons_zero, List.set_cons_succ]
  refine wpAnyH_take (i := 3) (v := ?_) (by first | (simp only [List.getElem?_toArray, List.getElem?_cons_succ, List.getElem?_cons_zero]; rfl) | rfl) (by kernel_rfl) (by kernel_rfl) (by kernel_rfl) (fun _ _ _ h => h) (Or.inl ⟨by rfl, ?_⟩) (by assumption) ?_
  rotate_left 1
  · (intro w' hSw; (try dsimp only at hSw); go_simp; (try with_reducible rfl))
  try simp only [Act.put, List.setIfInBounds_toArray, List.set_cons_zero, List.set_cons_succ]
  refine wpAnyH_ready (rs := [1]) (by kernel_rfl) (by simp) ?_
  refine AllReadyH.cons (by first | (simp only [List.getElem?_toArray, List.getElem?_cons_succ, List.getElem?_cons_zero]; rfl) | rfl) (fun K hK => ?_) AllReadyH.nil
  go_simp
  refine hit.mono ?_
  rintro e w3 ⟨rfl, hb3⟩
  dsimp only
  have hw3 := (hb3.block F l2).trans (show w2.drew.heap[F]? = _ from hw2)
  have hb3' := hb2.trans (((Below.refl _ _).drew.trans hb3).mono hb2.size)
  refine hK.out _ _ (cell_of_row _ _ _ _ _ _ hw3) (fun hHeld => ?_)
  clear hK K
  try simp only [Act.put, List.setIfInBounds_toArray, List.set_cons_zero, List.set_cons_succ]
  refine wpAnyH_ready (rs := [4]) (by kernel_rfl) (by simp) ?_
  refine AllReadyH.cons (by first | (simp only [List.getElem?_toArray, List.getElem?_cons_succ, List.getElem?_cons_zero]; rfl) | rfl) (fun K hK => ?_) AllReadyH.nil
  go_simp
  have hw4 := (Below.heap_alloc w3 (.cells #[.string ⟨#[50]⟩, .string ⟨#[82, 101, 116, 117, 114, 110]⟩] 9) F (lt_of_blkC hw3)).trans hw3
  have hw4s := heap_alloc_new w3 (.cells #[.string ⟨#[50]⟩, .string ⟨#[82, 101, 116, 117, 114, 110]⟩] 9)
  have hb4 := hb3'.alloc hb3'.size (.cells #[.string ⟨#[50]⟩, .string ⟨#[82, 101, 116, 117, 114, 110]⟩] 9)
  refine hK.out _ _ (cell_of_row _ _ _ _ _ _ hw4) (fun hHeld => ?_)
  clear hK K
  try simp only [Act.put, List.setIfInBounds_toArray, List.set_cons_zero, List.set_cons_succ]
  refine wpAnyH_take (i := 5) (v := ?_) (by first | (simp only [List.getElem?_toArray, List.getElem?_cons_succ, List.getElem?_cons_zero]; rfl) | rfl) (by kernel_rfl) (by kernel_rfl) (by kernel_rfl) (fun _ _ _ h => h) (Or.inl ⟨by rfl, ?_⟩) (by assumption) ?_
  rotate_left 1
  · (intro w' hSw; (try dsimp only at hSw); go_simp; (try with_reducible rfl))
  try simp only [Act.put, List.setIfInBounds_toArray, List.set_cons_zero, List.set_cons_succ]
  refine wpAnyH_done (by kernel_rfl) ?_ _
  refine NoPanic.normal ?_
  have hj := Tryd.strings_Join w3.heap.size 0 2 [⟨#[50]⟩, nmReturn] ⟨#[32]⟩ _ (two_strC hw4s) (lt_of_blkC hw4s) (by decide) (by decide) (by rw [joinFix2]; decide)
  rw [joinFix2] at hj
  have f4 := seven_cellsC hw4
  have HB4 := Lib.hid hb4
  have hs3 := hb3'.size
  clear hit hb2 l2 hw2 hw3 hb3 hb3' hw4 hw4s hb4 hHeld HF HE
  go_wp2_with (first | (go_at_call 26; refine hj.mono ?_; rintro e w5 ⟨rfl, hb5⟩))
  have hb6 := HB4.out.trans (hb5.mono HB4.out.size)
  go_ret
  exact ⟨rfl, hb6⟩
end Go.Proofs.YtdfghcbojbbgcaaDoor.Fl

