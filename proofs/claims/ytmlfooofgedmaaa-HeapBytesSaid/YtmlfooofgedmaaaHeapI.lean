/-
  Memory as cells: Alloc of an object of bytes; the cell in which a byte stands.
-/
import Derived.Test.YtmlfooofgedmaaaHeapH
namespace Go.Proofs.Ytmlfooofgedmaaa.Fl
open Go.RowKit

set_option maxHeartbeats 2000000 in
theorem alloc_raw {base g gc cap gb gb2 size last : Nat} {L ws : List Nat} (cl kind sz n : Nat) (fill : Nat) (w : World) (h : HeapAt w base g gc cap gb gb2 size last L ws) (hE : hErr cl kind sz 0 = 0) (hl : cl < 18446744073709551616)
    (hn : cellsI cl kind sz 0 = n) (hn2 : n ≤ 1048576) (hfit : L.length + n + 2 ≤ size) (hfree : bitAt ws L.length = false) (hk : kind = 2) (hbs : base ≤ w.heap.size) :
    Calls Try.prog 21 #[.pointer (some ⟨g, 0, none⟩), .int .u64 (cl : Int), .int .i64 (kind : Int), .int .i64 (sz : Int), .int .u64 (fill : Int)] w (AllocPost g gc gb gb2 base size last cl kind sz n 0 L ws w) := by
  have hp := fun (w' : World) => pack_obj cl kind sz 0 false w' hE hl
  have hc := fun (w' : World) => cells_any cl kind sz 0 false w' (by omega) (by omega)
  rw [hn] at hc
  have hfr := fun (w' : World) (hw' : HeapAt w' base g gc cap gb gb2 size last L ws) => free_any w' hw'
  have hrm := h.room
  have hsm := h.small
  have hg1 := h.gl.1
  have H := Lib.hid h
  obtain ⟨F, hF⟩ : ∃ F, size - L.length = F := ⟨_, rfl⟩
  rw [hF] at hfr
  have hF2 : n + 2 ≤ F := by omega
  have HF := Lib.hid hF
  have hk2 : ((kind : Int) != 2) = false := by simp; omega
  have HX := Lib.hid (pk_lt (kind := kind) (size := sz) (hash := 0) (mark := false) (by have := hErr_ok hE; omega) (by have := hErr_ok hE; omega) (by omega))
  have HFree := Lib.hid hfree
  have HCl := Lib.hid hl
  clear hn h hE hl hF hfree hk
  obtain ⟨X, hXX⟩ : ∃ X, pk kind sz 0 false = X := ⟨_, rfl⟩
  rw [hXX] at hp HX
  have HXX := Lib.hid hXX
  clear hXX
  go_enter Try.func21, Try.ntmps21
  go_wp2_with fail
  refine (hp _).mono ?_
  rintro e w1 ⟨rfl, hb1⟩
  have s1 := hb1.size
  simp at s1
  have t1 : w.heap.size < w1.heap.size := by omega
  have B1 : w1.heap[w.heap.size]? = some (.cells #[.int .u64 (cl : Int), .int .i64 (kind : Int), .int .i64 (sz : Int), .int .u32 0, .bool false] 33 (0, 0)) := by
    rw [hb1.block _ (by simp)]; exact heap_alloc_new w _
  have hbw1 : Below w.heap.size w w1 := ((Below.refl _ _).alloc (Nat.le_refl _) _).trans (hb1.mono (by simp))
  have f1 := cells5 B1
  clear hb1
  go_wp2_with fail
  refine (hc _).mono ?_
  rintro e w2 ⟨rfl, hb2⟩
  have s2 := hb2.size
  simp at s2
  have hbw2 : Below w.heap.size w w2 := (hbw1.alloc (by omega) _).trans (hb2.mono (by simp; omega))
  have H2 := Lib.hid (H.out.below hbw2)
  have P1 : w2.heap[w.heap.size]? = some (.cells #[.int .u64 (cl : Int), .int .i64 (kind : Int), .int .i64 (sz : Int), .int .u32 0, .bool false] 33 (0, 0)) := by
    rw [hb2.block _ (by simp; omega), heap_alloc_old _ _ t1]; exact B1
  have P2 : w2.heap[w1.heap.size]? = some (.cells #[.int .u64 (cl : Int), .int .u64 (X : Int)] 28 (0, 0)) := by
    rw [hb2.block _ (by simp)]; exact heap_alloc_new w1 _
  clear hb2 f1 B1 hbw1
  go_wp2_with fail
  refine (hfr _ H2.out).mono ?_
  rintro e w3 ⟨rfl, rfl⟩
  have c1' := H2.out.c1
  have lw : w.heap.size ≤ w2.heap.size := hbw2.size
  obtain ⟨gc', cap', w3, hA, hO, hG, hgc⟩ := append_zeros w2 base gc cap (n + 2) L 71 H2.out.own (by omega) (by omega) (by omega)
  obtain ⟨M, hM⟩ : ∃ M, L ++ List.replicate (n + 2) 0 = M := ⟨_, rfl⟩
  have hML : L.length + (n + 2) = M.length := by rw [← hM]; simp
  rw [hML, show ((n + 2 : Nat) : Int) = 2 + (n : Int) by omega] at hA
  rw [hML, hM] at hO
  have H4 := Lib.hid (H2.out.grown hG hO (by omega) (by omega) (by
    intro x hx
    rw [← hM] at hx
    rcases List.mem_append.1 hx with h1 | h1
    · exact H.out.lt x h1
    · rw [List.eq_of_mem_replicate h1]; decide))
  obtain ⟨w4, hw4⟩ : ∃ w4, w3.setCell ⟨g, 1, none⟩ (.slice (some ⟨gc', 0, none⟩) M.length cap') = w4 := ⟨_, rfl⟩
  rw [hw4] at H4
  have hMl : L.length + 2 + n ≤ M.length := by omega
  have hMs : M.length ≤ 16777216 := by omega
  have HM := Lib.hid hM
  have HA := Lib.hid hA
  have hfg : w3.frozen? ⟨g, 1, none⟩ = false := by
    have := frozen_of_row _ g 1 _ _ ((hG.block g H2.out.gl.1 (by simpa using H2.out.apart.1)).trans H2.out.hd)
    exact this
  obtain ⟨og, hog⟩ : ∃ u, w3.cell? ⟨g, 1, none⟩ = some u := ⟨_, cell_of_row _ g 1 _ _ _ ((hG.block g H2.out.gl.1 (by simpa using H2.out.apart.1)).trans H2.out.hd)⟩
  have HG := Lib.hid hG
  obtain ⟨curO, hcO, hz1⟩ := H2.out.row
  clear hz1
  have n1 : w.heap.size ≠ gc := other_type P1 hcO (by decide)
  have n2 : w1.heap.size ≠ gc := other_type P2 hcO (by decide)
  have n3 : w.heap.size ≠ g := other_type P1 H2.out.hd (by decide)
  have n4 : w1.heap.size ≠ g := other_type P2 H2.out.hd (by decide)
  have Q1 : w4.heap[w.heap.size]? = some (.cells #[.int .u64 (cl : Int), .int .i64 (kind : Int), .int .i64 (sz : Int), .int .u32 0, .bool false] 33 (0, 0)) := by
    rw [← hw4, Below.heap_setCell _ _ _ _ n3, hG.block _ (by omega) (by simpa using n1)]; exact P1
  have Q2 : w4.heap[w1.heap.size]? = some (.cells #[.int .u64 (cl : Int), .int .u64 (X : Int)] 28 (0, 0)) := by
    rw [← hw4, Below.heap_setCell _ _ _ _ n4, hG.block _ (by omega) (by simpa using n2)]; exact P2
  have As4 := Lib.hid (show Aside g gc gb2 w w4 by
    rw [← hw4]; exact ((Aside.of_below hbw2).trans (Aside.of_grown hG) (.inl rfl)).trans (Aside.set_g w3 1 _) (.inl rfl))
  have hgc' : gc' = gc ∨ w.heap.size ≤ gc' := by rcases hgc with h | h; exact .inl h; exact .inr (by omega)
  clear hA hO hM hML hG P1 P2 n1 n2 n3 n4 hcO hgc hbw2 s1 s2
  go_upto_region 10 with (at_builtin; refine Lib.wpList_append_run _ rfl _ _ _ _ rfl _ _ rfl rfl _ _ HA.out ?_)
  clear hc hfr HA HG hw4 H2 HF c1' hfg hog lw hF2 hp
  obtain ⟨W0, hW0⟩ : ∃ W0, w.heap.size = W0 := ⟨_, rfl⟩
  rw [hW0] at Q1 hgc' ⊢
  generalize w1.heap.size = W1 at *
  have HW0 := Lib.hid hW0
  have c1' := H4.out.c1
  obtain ⟨cur, hcur, hz1, hlc, hcm, hcs, hz2⟩ := H4.out.row
  clear hz1 hz2
  unfold maxLen at hcm
  have HC := Lib.hid hcur
  have f2 := two Q2
  have HS := Lib.hid (show ∀ j v, ([Value.int .u64 (cl : Int), .int .u64 (X : Int)] : List Value)[j]? = some v → w4.drew.cell? ((⟨W1, 0, none⟩ : Addr).add j) = some v by
    intro j v hj
    rcases j with _ | _ | j
    · simp at hj; subst hj; exact f2.1
    · simp at hj; subst hj; exact f2.2
    · simp at hj)
  have H1 := Lib.hid (show ∀ v ∈ [Value.int .u64 (cl : Int), .int .u64 (X : Int)], v.oneCell' = true by
    intro v hv; simp at hv; rcases hv with rfl | rfl <;> rfl)
  have Hsz := Lib.hid (show L.length + 2 ≤ cur.size by omega)
  have hlM : L.length ≤ M.length := by omega
  have hlc2 : ¬ (cap' = L.length) := by omega
  have Hn := Lib.hid (show ([Value.int .u64 (cl : Int), .int .u64 (X : Int)] : List Value).length = Nat.min 2 (M.length - L.length) by
    have : (2 : Nat) = min 2 (M.length - L.length) := by omega
    exact this)
  clear hcur hcs
  go_region_law (refine step_copy_row rfl (.tmp 57) (.tmp 58) 71 71 rfl 27 Try.underlying71 wsize gc' L.length (M.length - L.length) (cap' - L.length) ⟨W1, 0, none⟩ 2 2 rfl rfl cur 27 HC.out [.int .u64 (cl : Int), .int .u64 (X : Int)] Hn.out HS.out Hsz.out H1.out ?_)
  have hX := HX.out
  have hcl := HCl.out
  have H5 := Lib.hid (H4.out.drew.splice (cur := cur) HC.out L.length [cl, X] (by simp; omega) (by
    intro x hx; simp at hx; rcases hx with rfl | rfl; exact hcl; exact hX))
  have hne : W0 ≠ gc' := other_type Q1 HC.out (by decide)
  have Q5 : (w4.drew.setRow gc' (cur.toList.take L.length ++ (cw [cl, X] ++ cur.toList.drop (L.length + (cw [cl, X]).length))).toArray).heap[W0]? = some (.cells #[.int .u64 (cl : Int), .int .i64 (kind : Int), .int .i64 (sz : Int), .int .u32 0, .bool false] 33 (0, 0)) :=
    (setRow_other _ _ _ _ hne).trans Q1
  have As5 := Lib.hid (As4.out.trans ((Aside.of_below ((Below.refl w4.heap.size w4).drew)).trans (Aside.row (g := g) (gc := gc') (gb2 := gb2) w4.drew (cur.toList.take L.length ++ (cw [cl, X] ++ cur.toList.drop (L.length + (cw [cl, X]).length))).toArray) (.inl rfl)) (by rw [hW0]; exact hgc'))
  change Exit.then _ _ _ _ (w4.drew.setRow gc' (cur.toList.take L.length ++ (cw [cl, X] ++ cur.toList.drop (L.length + (cw [cl, X]).length))).toArray)
  generalize (w4.drew.setRow gc' (cur.toList.take L.length ++ (cw [cl, X] ++ cur.toList.drop (L.length + (cw [cl, X]).length))).toArray) = w5 at H5 Q5 As5 ⊢
  have hl5 : M.take L.length ++ ([cl, X] ++ M.drop (L.length + [cl, X].length)) = L ++ (cl :: X :: List.replicate n 0) := by
    rw [← HM.out]
    simp
  rw [hl5] at H5
  have f5 := cells5 Q5
  clear hl5 f2 Q1 Q2 As4 H4 c1' HC HS H1 Hsz Hn hlc hcm hlM hlc2 hX hcl hne hMl hMs HM HX
  rename_i hK
  refine hK _ _ ?_
  clear hK
  have H7 := H5
  have HAs := As5
  clear H5 As5 f5 Q5
  have c2' := H7.out.c2
  have hL1 : 1 ≤ L.length := by have := H.out.two; omega
  go_wp2_with fail
  refine (set_flip gb gb2 size L.length true ws w5 H7.out.bits (by omega) HFree.out).mono ?_
  rintro e w8 ⟨rfl, hB8, hbl8, hs8, hk8⟩
  have H8 := Lib.hid (H7.out.bit hB8 hk8)
  have As8 := Lib.hid (HAs.out.trans (show Aside g gc' gb2 w5 w8 by
    have := hbl8 0 (Nat.zero_le _)
    exact ⟨this.os, this.tape, this.output, this.size, fun i _ _ _ h => hk8 i h⟩) (by rw [HW0.out]; exact hgc'))
  clear hB8 hbl8 hk8 HAs H7 c2'
  go_wp2_with fail
  refine (hpointer_any L.length w8 (by omega) (by omega)).mono ?_
  rintro e w9 ⟨rfl, rfl⟩
  go_wp2_with fail
  go_ret2
  exact ⟨gc', cap', rfl, by rw [HXX.out]; exact H8.out, by rw [HW0.out]; exact hgc', As8.out⟩
end Go.Proofs.Ytmlfooofgedmaaa.Fl
