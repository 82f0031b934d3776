/-
  A line of any instruction.
-/
import Derived.Test.YtdfghcbojbbgcaaDoorCeA
import Derived.Lib.ItoaLen
namespace Go.Proofs.YtdfghcbojbbgcaaDoor.Fl
open Go.RowKit

theorem nm_len {k : Nat} {r : FormR} (h : formsL[k]? = some r) : r.1.length ≤ 21 := by
  have ha : ∀ r ∈ formsL, r.1.length ≤ 21 := by decide +kernel
  exact ha r (List.mem_of_getElem? h)
theorem tail_le (ws : List (List UInt8)) (h : ∀ w ∈ ws, w.length ≤ 21) : (Lib.joinTail [32] ws).length ≤ 22 * ws.length := by
  unfold Lib.joinTail
  induction ws with
  | nil => exact Nat.le_refl _
  | cons v ws ih =>
    simp only [List.map_cons, List.flatten_cons, List.length_append, List.length_cons, List.length_nil]
    have h1 := ih (fun u hu => h u (List.mem_cons_of_mem _ hu))
    have h2 := h v (List.mem_cons_self ..)
    omega
theorem join_le (ws : List (List UInt8)) (hl : ws.length ≤ 10) (h : ∀ w ∈ ws, w.length ≤ 21) : (Lib.join ws [32]).length ≤ 140737488355328 := by
  cases ws with
  | nil => show 0 ≤ _; omega
  | cons v ws =>
    rw [Lib.join_cons, List.length_append]
    have h1 := tail_le ws (fun u hu => h u (List.mem_cons_of_mem _ hu))
    have h2 := h v (List.mem_cons_self ..)
    rw [List.length_cons] at hl
    omega
def bsC (w : List UInt8) : ByteArray := ⟨w.toArray⟩
theorem bsC_back (ws : List (List UInt8)) : (ws.map bsC).map (·.data.toList) = ws := by
  rw [List.map_map]
  have : ((fun (x : ByteArray) => x.data.toList) ∘ bsC) = id := by funext w; rfl
  rw [this, List.map_id]
theorem join_any (gj c : Nat) (ws : List (List UInt8)) (w : World) (hcells : ∀ (j : Nat) z, (ws.map bsC)[j]? = some z → w.cell? ⟨gj, 0 + j, none⟩ = some (.string z)) (hg : gj < w.heap.size) (hc : ws.length ≤ c) (hl : ws.length ≤ 10) (h : ∀ v ∈ ws, v.length ≤ 21) :
    Calls Tryd.prog 26 #[.slice (some ⟨gj, 0, none⟩) ws.length c, .string ⟨#[32]⟩] w fun e w' => e = .returned (.string ⟨(Lib.join ws [32]).toArray⟩) ∧ Below w.heap.size w w' := by
  have hj := Tryd.strings_Join gj 0 c (ws.map bsC) ⟨#[32]⟩ w hcells hg (by rw [List.length_map]; omega) (by rw [List.length_map]; exact hc) (by rw [bsC_back]; exact join_le ws hl h)
  rw [bsC_back, List.length_map] at hj
  exact hj
theorem bs_app (a b : List UInt8) : bsC a ++ bsC b = bsC (a ++ b) := by
  apply ByteArray.ext
  simp [bsC]
theorem bs_size (a : List UInt8) : (bsC a).size = a.length := rfl
attribute [local irreducible] Lib.itoa Lib.join
set_option maxRecDepth 100000 in
set_option maxHeartbeats 2000000 in
theorem line_any (q kk : Nat) (hq : (q : Int) ≤ 9223372036854775807) (hkk : kk < 20) (a b : Int) (wa : -9223372036854775808 ≤ a ∧ a ≤ 9223372036854775807) (wb : -9223372036854775808 ≤ b ∧ b ≤ 9223372036854775807) (w : World) (hF : ∀ w', Below w.heap.size w w' → FormsAt w') (hE : ∀ w', Below w.heap.size w w' → EnvC w') :
    Calls Tryd.prog 16 #[.int .i64 (q : Int), .agg #[.int .i64 (kk : Int), .int .i64 a, .int .i64 b]] w fun e w' => e = .returned (.string ⟨(lineR q ((kk : Int), a, b)).toArray⟩) ∧ Below w.heap.size w w' := by
  have HF := Lib.hid hF
  have HE := Lib.hid hE
  have hw1 := heap_alloc_new w (.cells #[.int .i64 (kk : Int), .int .i64 a, .int .i64 b] 34)
  have f1 := three_cellsC hw1
  have l1 := lt_of_blkC hw1
  have hb1 : Below w.heap.size w (w.alloc (.cells #[.int .i64 (kk : Int), .int .i64 a, .int .i64 b] 34)) := (Below.refl _ _).alloc (Nat.le_refl _) _
  obtain ⟨nmx, sa, la, sb, t, u, hrow, ⟨hsa, hsb⟩, hla, hnm⟩ := formsL_get2 hkk
  obtain ⟨g0, g1, g2, g3, g4, g5, g6⟩ := (HF.out _ hb1).row hrow
  have HW := Lib.hid (show wordsR q ((kk : Int), a, b) = [Lib.itoa (q : Int), nmx] ++ (if 0 < sa then [Lib.itoa a] else []) ++ (if 0 < sb then [Lib.itoa b] else []) by unfold wordsR; simp only [Int.toNat_natCast, hrow, Int.natCast_pos])
  have HNL := Lib.hid (nm_len hrow)
  have HL1 := Lib.hid (Lib.itoa_length_le (q : Int) (by omega) hq)
  have HL2 := Lib.hid (Lib.itoa_length_le a wa.1 wa.2)
  have HL3 := Lib.hid (Lib.itoa_length_le b wb.1 wb.2)
  clear hrow hla hnm
  have hgl := (HF.out _ hb1).lt
  clear hF hE
  go_enter Tryd.func16, Tryd.ntmps16
  go_upto_region 2 with fail
  have hw2 := heap_alloc_new (w.alloc (.cells #[.int .i64 (kk : Int), .int .i64 a, .int .i64 b] 34)) (.cells #[.string ⟨nmx.toArray⟩, .int .i64 (sa : Int), .int .i64 la, .int .i64 (sb : Int), .int .i64 0, .int .i64 t, .int .i64 u] 52)
  have hx2 := (Below.heap_alloc (w.alloc (.cells #[.int .i64 (kk : Int), .int .i64 a, .int .i64 b] 34)) (.cells #[.string ⟨nmx.toArray⟩, .int .i64 (sa : Int), .int .i64 la, .int .i64 (sb : Int), .int .i64 0, .int .i64 t, .int .i64 u] 52) w.heap.size l1).trans hw1
  have hb2 := hb1.alloc (Nat.le_of_lt l1) (.cells #[.string ⟨nmx.toArray⟩, .int .i64 (sa : Int), .int .i64 la, .int .i64 (sb : Int), .int .i64 0, .int .i64 t, .int .i64 u] 52)
  rw [World.size_alloc] at hw2
  clear g0 g1 g2 g3 g4 g5 g6 hgl hw1 f1 l1 hb1
  generalize (w.alloc (.cells #[.int .i64 (kk : Int), .int .i64 a, .int .i64 b] 34)).alloc (.cells #[.string ⟨nmx.toArray⟩, .int .i64 (sa : Int), .int .i64 la, .int .i64 (sb : Int), .int .i64 0, .int .i64 t, .int .i64 u] 52) = w2 at *
  have l2 := lt_of_blkC hw2
  have hit := itoaG (q : Int) (by omega) hq w2.drew (HE.out _ hb2.drew)
  have hne : w.heap.size < w.heap.size + 1 := Nat.lt_succ_self _
  generalize w.heap.size + 1 = F at *
  refine wp_region_noPanic ?_
  refine wp_region_held_drew (S := (fun w' : World => w'.cell? ⟨F, 0, none⟩ = some (.string ⟨nmx.toArray⟩))) (by kernel_rfl) (cell_of_row _ _ _ _ _ _ hw2) (fun hHeld => ?_)
  refine wpAnyH_take (i := 0) (v := ?_) (by first | (simp only [List.getElem?_toArray, List.getElem?_cons_succ, List.getElem?_cons_zero]; rfl) | rfl) (by kernel_rfl) (by kernel_rfl) (by kernel_rfl) (fun _ _ _ h => h) (Or.inl ⟨by rfl, ?_⟩) (by assumption) ?_
  rotate_left 1
  · (intro w' hSw; (try dsimp only at hSw); go_simp; (try with_reducible rfl))
  try simp only [Act.put, List.setIfInBounds_toArray, List.set_cons_zero, List.set_cons_succ]
  refine wpAnyH_take (i := 2) (v := ?_) (by first | (simp only [List.getElem?_toArray, List.getElem?_cons_succ, List.getElem?_cons_zero]; rfl) | rfl) (by kernel_rfl) (by kernel_rfl) (by kernel_rfl) (fun _ _ _ h => h) (Or.inl ⟨by rfl, ?_⟩) (by assumption) ?_
  rotate_left 1
  · (intro w' hSw; (try dsimp only at hSw); go_simp; (try with_reducible rfl))
  try simp only [Act.put, List.setIfInBounds_toArray, List.set_cons_zero, List.set_cons_succ]
  refine wpAnyH_take (i := 3) (v := ?_) (by first | (simp only [List.getElem?_toArray, List.getElem?_cons_succ, List.getElem?_cons_zero]; rfl) | rfl) (by kernel_rfl) (by kernel_rfl) (by kernel_rfl) (fun _ _ _ h => h) (Or.inl ⟨by rfl, ?_⟩) (by assumption) ?_
  rotate_left 1
  · (intro w' hSw; (try dsimp only at hSw); go_simp; (try with_reducible rfl))
  try simp only [Act.put, List.setIfInBounds_toArray, List.set_cons_zero, List.set_cons_succ]
  refine wpAnyH_ready (rs := [1]) (by kernel_rfl) (by simp) ?_
  refine AllReadyH.cons (by first | (simp only [List.getElem?_toArray, List.getElem?_cons_succ, List.getElem?_cons_zero]; rfl) | rfl) (fun K hK => ?_) AllReadyH.nil
  go_simp
  refine hit.mono ?_
  rintro e w3 ⟨rfl, hb3⟩
  dsimp only
  have hx3 := (hb3.block w.heap.size (Nat.lt_trans hne l2)).trans (show w2.drew.heap[w.heap.size]? = _ from hx2)
  have hw3 := (hb3.block F l2).trans (show w2.drew.heap[F]? = _ from hw2)
  have hb3' := hb2.trans (((Below.refl _ _).drew.trans hb3).mono hb2.size)
  refine hK.out _ _ (cell_of_row _ _ _ _ _ _ hw3) (fun hHeld => ?_)
  clear hK K
  try simp only [Act.put, List.setIfInBounds_toArray, List.set_cons_zero, List.set_cons_succ]
  refine wpAnyH_ready (rs := [4]) (by kernel_rfl) (by simp) ?_
  refine AllReadyH.cons (by first | (simp only [List.getElem?_toArray, List.getElem?_cons_succ, List.getElem?_cons_zero]; rfl) | rfl) (fun K hK => ?_) AllReadyH.nil
  go_simp
  have hw4 := (Below.heap_alloc w3 (.cells #[.string ⟨(Lib.itoa (q : Int)).toArray⟩, .string ⟨nmx.toArray⟩] 9) F (lt_of_blkC hw3)).trans hw3
  have hw4s := heap_alloc_new w3 (.cells #[.string ⟨(Lib.itoa (q : Int)).toArray⟩, .string ⟨nmx.toArray⟩] 9)
  have hb4 := hb3'.alloc hb3'.size (.cells #[.string ⟨(Lib.itoa (q : Int)).toArray⟩, .string ⟨nmx.toArray⟩] 9)
  refine hK.out _ _ (cell_of_row _ _ _ _ _ _ hw4) (fun hHeld => ?_)
  clear hK K
  try simp only [Act.put, List.setIfInBounds_toArray, List.set_cons_zero, List.set_cons_succ]
  refine wpAnyH_take (i := 5) (v := ?_) (by first | (simp only [List.getElem?_toArray, List.getElem?_cons_succ, List.getElem?_cons_zero]; rfl) | rfl) (by kernel_rfl) (by kernel_rfl) (by kernel_rfl) (fun _ _ _ h => h) (Or.inl ⟨by rfl, ?_⟩) (by assumption) ?_
  rotate_left 1
  · (intro w' hSw; (try dsimp only at hSw); go_simp; (try with_reducible rfl))
  try simp only [Act.put, List.setIfInBounds_toArray, List.set_cons_zero, List.set_cons_succ]
  refine wpAnyH_done (by kernel_rfl) ?_ _
  refine NoPanic.normal ?_
  have hx4 := (Below.heap_alloc w3 (.cells #[.string ⟨(Lib.itoa (q : Int)).toArray⟩, .string ⟨nmx.toArray⟩] 9) w.heap.size (lt_of_blkC hx3)).trans hx3
  have hs3 := hb3'.size
  have HL := Lib.hid (show LnAt w (w3.alloc (.cells #[.string ⟨(Lib.itoa (q : Int)).toArray⟩, .string ⟨nmx.toArray⟩] 9)) w.heap.size F _ _ (.slice (some ⟨w3.heap.size, 0, none⟩) 2 2) [⟨(Lib.itoa (q : Int)).toArray⟩, ⟨nmx.toArray⟩] from ⟨hb4, hx4, hw4, ⟨rfl, .inr ⟨w3.heap.size, 2, _, rfl, hs3, hw4s, Nat.le_refl _, by unfold maxLen; decide, rfl, rfl⟩⟩, fun e => by injection e with e; have := lt_of_blkC hx3; change w.heap.size = w3.heap.size at e; omega, fun e => by injection e with e; have := lt_of_blkC hw3; change F = w3.heap.size at e; omega⟩)
  generalize w3.alloc (.cells #[.string ⟨(Lib.itoa (q : Int)).toArray⟩, .string ⟨nmx.toArray⟩] 9) = w4 at *
  clear hit hb2 l2 hw2 hw3 hb3 hb3' hw4s hb4 hHeld HF hx2 hx3 hx4 hne hw4
  have f4 := seven_cellsC HL.out.frm
  have fx4 := three_cellsC HL.out.box
  by_cases h1 : 0 < sa
  · by_cases h2 : 0 < sb
    · have hd := h1
      go_wp2_with fail
      have HS4 := HL.out.bel.size
      refine (itoaG a wa.1 wa.2 w4 (HE.out _ HL.out.bel)).mono ?_
      rintro e w5 ⟨rfl, hb5⟩
      have HL5 := Lib.hid (HL.out.below hb5)
      have HZ5 := HL5.out.bel.size
      have HO5 := Lib.hid (HL5.out.own.keep (w' := w5.alloc (.cells #[.string ⟨(Lib.itoa a).toArray⟩] 9)) (fun j hj => Below.heap_alloc _ _ _ (World.ownsRow.lt HL5.out.own j hj).2))
      have HR5 := Lib.hid (rd_oneS w5 ⟨(Lib.itoa a).toArray⟩)
      clear hb5 f4 fx4
      have f5 := seven_cellsC HL5.out.frm
      have fx5 := three_cellsC HL5.out.box
      go_wp2_with (at_builtin; refine wpList_append_t (base := w.heap.size) (v := .slice (some ⟨w3.heap.size, 0, none⟩) 2 2) (xs := [⟨(Lib.itoa (q : Int)).toArray⟩, ⟨nmx.toArray⟩]) (news := [⟨(Lib.itoa a).toArray⟩]) rfl _ _ rfl rfl rfl HO5.out HR5.out (fun h => by cases h) (by simp) (by simp) (by rw [World.size_alloc]; omega) ?_; intro A6 t6 c6 w6 HT6 HO6 HB6; obtain rfl := HT6.out; have HL6 := Lib.hid (HL5.out.app HO6.out HB6.out); clear f5 fx5; have f6 := seven_cellsC HL6.out.frm; have fx6 := three_cellsC HL6.out.box)
      have HLq := Lib.hid (show LnAt w w6 w.heap.size F _ _ (.slice A6 3 c6) [⟨(Lib.itoa (q : Int)).toArray⟩, ⟨nmx.toArray⟩, ⟨(Lib.itoa a).toArray⟩] from HL6.out)
      clear HL6 HO6 HB6 HR5 HO5 HL5 HL
      have HL6 := HLq
      clear HLq
      go_wp2_with fail
      have HS6 := HL6.out.bel.size
      refine (itoaG b wb.1 wb.2 w6 (HE.out _ HL6.out.bel)).mono ?_
      rintro e w7 ⟨rfl, hb7⟩
      have HL7 := Lib.hid (HL6.out.below hb7)
      have HZ7 := HL7.out.bel.size
      have HO7 := Lib.hid (HL7.out.own.keep (w' := w7.alloc (.cells #[.string ⟨(Lib.itoa b).toArray⟩] 9)) (fun j hj => Below.heap_alloc _ _ _ (World.ownsRow.lt HL7.out.own j hj).2))
      have HR7 := Lib.hid (rd_oneS w7 ⟨(Lib.itoa b).toArray⟩)
      clear hb7 f6 fx6
      have f7 := seven_cellsC HL7.out.frm
      have fx7 := three_cellsC HL7.out.box
      go_wp2_with (at_builtin; refine wpList_append_t (base := w.heap.size) (v := .slice A6 3 c6) (xs := [⟨(Lib.itoa (q : Int)).toArray⟩, ⟨nmx.toArray⟩, ⟨(Lib.itoa a).toArray⟩]) (news := [⟨(Lib.itoa b).toArray⟩]) rfl _ _ rfl rfl rfl HO7.out HR7.out (fun h => by cases h) (by simp) (by simp) (by rw [World.size_alloc]; omega) ?_; intro A8 t8 c8 w8 HT8 HO8 HB8; obtain rfl := HT8.out; have HL8 := Lib.hid (HL7.out.app HO8.out HB8.out); clear f7 fx7; have f8 := seven_cellsC HL8.out.frm; have fx8 := three_cellsC HL8.out.box)
      obtain ⟨gj, hgj, hclj, hccj, hglj⟩ := ownS_cells (show OwnS w8 w.heap.size (.slice A8 [⟨(Lib.itoa (q : Int)).toArray⟩, ⟨nmx.toArray⟩, ⟨(Lib.itoa a).toArray⟩, ⟨(Lib.itoa b).toArray⟩].length c8) [⟨(Lib.itoa (q : Int)).toArray⟩, ⟨nmx.toArray⟩, ⟨(Lib.itoa a).toArray⟩, ⟨(Lib.itoa b).toArray⟩] from HL8.out.own)
      have hj := join_any gj c8 [(Lib.itoa (q : Int)), nmx, (Lib.itoa a), (Lib.itoa b)] w8 hclj hglj hccj (by simp) (by intro v hv; simp only [List.mem_cons, List.not_mem_nil, or_false] at hv; rcases hv with rfl | rfl | rfl | rfl; all_goals first | exact HL1.out | exact HL2.out | exact HL3.out | exact HNL.out)
      obtain ⟨J, hJ⟩ : ∃ J, bsC (Lib.join [(Lib.itoa (q : Int)), nmx, (Lib.itoa a), (Lib.itoa b)] [32]) = J := ⟨_, rfl⟩
      have hJs : J.size ≤ 140737488355328 := by rw [← hJ, bs_size]; exact join_le _ (by simp) (by intro v hv; simp only [List.mem_cons, List.not_mem_nil, or_false] at hv; rcases hv with rfl | rfl | rfl | rfl; all_goals first | exact HL1.out | exact HL2.out | exact HL3.out | exact HNL.out)
      rw [show (⟨(Lib.join [(Lib.itoa (q : Int)), nmx, (Lib.itoa a), (Lib.itoa b)] [32]).toArray⟩ : ByteArray) = J from hJ] at hj
      have HJ := Lib.hid (show J ++ ⟨#[10]⟩ = bsC (lineR q ((kk : Int), a, b)) by unfold lineR; rw [HW.out, ← hJ, ← bs_app]; simp [hd, h2]; rfl)
      clear hJ
      rw [← hgj] at hj
      clear hclj
      go_wp2_with fail
      refine hj.mono ?_
      rintro e wj ⟨rfl, hbj⟩
      have hbe := HL8.out.bel.trans (hbj.mono HL8.out.bel.size)
      clear hj
      go_wp2_with fail
      go_ret
      exact ⟨by rw [show (⟨(lineR q ((kk : Int), a, b)).toArray⟩ : ByteArray) = J ++ ⟨#[10]⟩ from HJ.out.symm]; rfl, hbe⟩
    · have hd := h1
      go_wp2_with fail
      have HS4 := HL.out.bel.size
      refine (itoaG a wa.1 wa.2 w4 (HE.out _ HL.out.bel)).mono ?_
      rintro e w5 ⟨rfl, hb5⟩
      have HL5 := Lib.hid (HL.out.below hb5)
      have HZ5 := HL5.out.bel.size
      have HO5 := Lib.hid (HL5.out.own.keep (w' := w5.alloc (.cells #[.string ⟨(Lib.itoa a).toArray⟩] 9)) (fun j hj => Below.heap_alloc _ _ _ (World.ownsRow.lt HL5.out.own j hj).2))
      have HR5 := Lib.hid (rd_oneS w5 ⟨(Lib.itoa a).toArray⟩)
      clear hb5 f4 fx4
      have f5 := seven_cellsC HL5.out.frm
      have fx5 := three_cellsC HL5.out.box
      go_wp2_with (at_builtin; refine wpList_append_t (base := w.heap.size) (v := .slice (some ⟨w3.heap.size, 0, none⟩) 2 2) (xs := [⟨(Lib.itoa (q : Int)).toArray⟩, ⟨nmx.toArray⟩]) (news := [⟨(Lib.itoa a).toArray⟩]) rfl _ _ rfl rfl rfl HO5.out HR5.out (fun h => by cases h) (by simp) (by simp) (by rw [World.size_alloc]; omega) ?_; intro A6 t6 c6 w6 HT6 HO6 HB6; obtain rfl := HT6.out; have HL6 := Lib.hid (HL5.out.app HO6.out HB6.out); clear f5 fx5; have f6 := seven_cellsC HL6.out.frm; have fx6 := three_cellsC HL6.out.box)
      obtain ⟨gj, hgj, hclj, hccj, hglj⟩ := ownS_cells (show OwnS w6 w.heap.size (.slice A6 [⟨(Lib.itoa (q : Int)).toArray⟩, ⟨nmx.toArray⟩, ⟨(Lib.itoa a).toArray⟩].length c6) [⟨(Lib.itoa (q : Int)).toArray⟩, ⟨nmx.toArray⟩, ⟨(Lib.itoa a).toArray⟩] from HL6.out.own)
      have hj := join_any gj c6 [(Lib.itoa (q : Int)), nmx, (Lib.itoa a)] w6 hclj hglj hccj (by simp) (by intro v hv; simp only [List.mem_cons, List.not_mem_nil, or_false] at hv; rcases hv with rfl | rfl | rfl; all_goals first | exact HL1.out | exact HL2.out | exact HL3.out | exact HNL.out)
      obtain ⟨J, hJ⟩ : ∃ J, bsC (Lib.join [(Lib.itoa (q : Int)), nmx, (Lib.itoa a)] [32]) = J := ⟨_, rfl⟩
      have hJs : J.size ≤ 140737488355328 := by rw [← hJ, bs_size]; exact join_le _ (by simp) (by intro v hv; simp only [List.mem_cons, List.not_mem_nil, or_false] at hv; rcases hv with rfl | rfl | rfl; all_goals first | exact HL1.out | exact HL2.out | exact HL3.out | exact HNL.out)
      rw [show (⟨(Lib.join [(Lib.itoa (q : Int)), nmx, (Lib.itoa a)] [32]).toArray⟩ : ByteArray) = J from hJ] at hj
      have HJ := Lib.hid (show J ++ ⟨#[10]⟩ = bsC (lineR q ((kk : Int), a, b)) by unfold lineR; rw [HW.out, ← hJ, ← bs_app]; simp [hd, h2]; rfl)
      clear hJ
      rw [← hgj] at hj
      clear hclj
      go_wp2_with fail
      refine hj.mono ?_
      rintro e wj ⟨rfl, hbj⟩
      have hbe := HL6.out.bel.trans (hbj.mono HL6.out.bel.size)
      clear hj
      go_wp2_with fail
      go_ret
      exact ⟨by rw [show (⟨(lineR q ((kk : Int), a, b)).toArray⟩ : ByteArray) = J ++ ⟨#[10]⟩ from HJ.out.symm]; rfl, hbe⟩
  · by_cases h2 : 0 < sb
    · have hd := h1
      go_wp2_with fail
      have HS4 := HL.out.bel.size
      refine (itoaG b wb.1 wb.2 w4 (HE.out _ HL.out.bel)).mono ?_
      rintro e w5 ⟨rfl, hb5⟩
      have HL5 := Lib.hid (HL.out.below hb5)
      have HZ5 := HL5.out.bel.size
      have HO5 := Lib.hid (HL5.out.own.keep (w' := w5.alloc (.cells #[.string ⟨(Lib.itoa b).toArray⟩] 9)) (fun j hj => Below.heap_alloc _ _ _ (World.ownsRow.lt HL5.out.own j hj).2))
      have HR5 := Lib.hid (rd_oneS w5 ⟨(Lib.itoa b).toArray⟩)
      clear hb5 f4 fx4
      have f5 := seven_cellsC HL5.out.frm
      have fx5 := three_cellsC HL5.out.box
      go_wp2_with (at_builtin; refine wpList_append_t (base := w.heap.size) (v := .slice (some ⟨w3.heap.size, 0, none⟩) 2 2) (xs := [⟨(Lib.itoa (q : Int)).toArray⟩, ⟨nmx.toArray⟩]) (news := [⟨(Lib.itoa b).toArray⟩]) rfl _ _ rfl rfl rfl HO5.out HR5.out (fun h => by cases h) (by simp) (by simp) (by rw [World.size_alloc]; omega) ?_; intro A6 t6 c6 w6 HT6 HO6 HB6; obtain rfl := HT6.out; have HL6 := Lib.hid (HL5.out.app HO6.out HB6.out); clear f5 fx5; have f6 := seven_cellsC HL6.out.frm; have fx6 := three_cellsC HL6.out.box)
      obtain ⟨gj, hgj, hclj, hccj, hglj⟩ := ownS_cells (show OwnS w6 w.heap.size (.slice A6 [⟨(Lib.itoa (q : Int)).toArray⟩, ⟨nmx.toArray⟩, ⟨(Lib.itoa b).toArray⟩].length c6) [⟨(Lib.itoa (q : Int)).toArray⟩, ⟨nmx.toArray⟩, ⟨(Lib.itoa b).toArray⟩] from HL6.out.own)
      have hj := join_any gj c6 [(Lib.itoa (q : Int)), nmx, (Lib.itoa b)] w6 hclj hglj hccj (by simp) (by intro v hv; simp only [List.mem_cons, List.not_mem_nil, or_false] at hv; rcases hv with rfl | rfl | rfl; all_goals first | exact HL1.out | exact HL2.out | exact HL3.out | exact HNL.out)
      obtain ⟨J, hJ⟩ : ∃ J, bsC (Lib.join [(Lib.itoa (q : Int)), nmx, (Lib.itoa b)] [32]) = J := ⟨_, rfl⟩
      have hJs : J.size ≤ 140737488355328 := by rw [← hJ, bs_size]; exact join_le _ (by simp) (by intro v hv; simp only [List.mem_cons, List.not_mem_nil, or_false] at hv; rcases hv with rfl | rfl | rfl; all_goals first | exact HL1.out | exact HL2.out | exact HL3.out | exact HNL.out)
      rw [show (⟨(Lib.join [(Lib.itoa (q : Int)), nmx, (Lib.itoa b)] [32]).toArray⟩ : ByteArray) = J from hJ] at hj
      have HJ := Lib.hid (show J ++ ⟨#[10]⟩ = bsC (lineR q ((kk : Int), a, b)) by unfold lineR; rw [HW.out, ← hJ, ← bs_app]; simp [hd, h2]; rfl)
      clear hJ
      rw [← hgj] at hj
      clear hclj
      go_wp2_with fail
      refine hj.mono ?_
      rintro e wj ⟨rfl, hbj⟩
      have hbe := HL6.out.bel.trans (hbj.mono HL6.out.bel.size)
      clear hj
      go_wp2_with fail
      go_ret
      exact ⟨by rw [show (⟨(lineR q ((kk : Int), a, b)).toArray⟩ : ByteArray) = J ++ ⟨#[10]⟩ from HJ.out.symm]; rfl, hbe⟩
    · have hd := h1
      go_wp2_with fail
      obtain ⟨gj, hgj, hclj, hccj, hglj⟩ := ownS_cells (show OwnS w4 w.heap.size (.slice (some ⟨w3.heap.size, 0, none⟩) [⟨(Lib.itoa (q : Int)).toArray⟩, ⟨nmx.toArray⟩].length 2) [⟨(Lib.itoa (q : Int)).toArray⟩, ⟨nmx.toArray⟩] from HL.out.own)
      have hj := join_any gj 2 [(Lib.itoa (q : Int)), nmx] w4 hclj hglj hccj (by simp) (by intro v hv; simp only [List.mem_cons, List.not_mem_nil, or_false] at hv; rcases hv with rfl | rfl; all_goals first | exact HL1.out | exact HL2.out | exact HL3.out | exact HNL.out)
      obtain ⟨J, hJ⟩ : ∃ J, bsC (Lib.join [(Lib.itoa (q : Int)), nmx] [32]) = J := ⟨_, rfl⟩
      have hJs : J.size ≤ 140737488355328 := by rw [← hJ, bs_size]; exact join_le _ (by simp) (by intro v hv; simp only [List.mem_cons, List.not_mem_nil, or_false] at hv; rcases hv with rfl | rfl; all_goals first | exact HL1.out | exact HL2.out | exact HL3.out | exact HNL.out)
      rw [show (⟨(Lib.join [(Lib.itoa (q : Int)), nmx] [32]).toArray⟩ : ByteArray) = J from hJ] at hj
      have HJ := Lib.hid (show J ++ ⟨#[10]⟩ = bsC (lineR q ((kk : Int), a, b)) by unfold lineR; rw [HW.out, ← hJ, ← bs_app]; simp [hd, h2]; rfl)
      clear hJ
      rw [← hgj] at hj
      clear hclj
      go_wp2_with fail
      refine hj.mono ?_
      rintro e wj ⟨rfl, hbj⟩
      have hbe := HL.out.bel.trans (hbj.mono HL.out.bel.size)
      clear hj
      go_wp2_with fail
      go_ret
      exact ⟨by rw [show (⟨(lineR q ((kk : Int), a, b)).toArray⟩ : ByteArray) = J ++ ⟨#[10]⟩ from HJ.out.symm]; rfl, hbe⟩
end Go.Proofs.YtdfghcbojbbgcaaDoor.Fl

