/-
  Memory as cells: an object, its head; Has.
-/
import Derived.Test.YthklbpcpmmpfmaaHeap
import Derived.RegionTactic
import Derived.ChangeAlike
import Derived.Laws.Cover3
namespace Go.Proofs.Ythklbpcpmmpfmaa.Fl
open Go.RowKit

theorem cells5 {w : World} {g : Nat} {v0 v1 v2 v3 v4 : Value} {T : TypeId} (h : w.heap[g]? = some (.cells #[v0, v1, v2, v3, v4] T (0, 0))) :
    w.cell? ⟨g, 0, none⟩ = some v0 ∧ w.cell? ⟨g, 1, none⟩ = some v1 ∧ w.cell? ⟨g, 2, none⟩ = some v2 ∧ w.cell? ⟨g, 3, none⟩ = some v3 ∧ w.cell? ⟨g, 4, none⟩ = some v4 :=
  ⟨cell_of_row _ _ _ _ _ _ h, cell_of_row _ _ _ _ _ _ h, cell_of_row _ _ _ _ _ _ h, cell_of_row _ _ _ _ _ _ h, cell_of_row _ _ _ _ _ _ h⟩
theorem set5 {w : World} {g : Nat} {a0 a1 a2 a3 a4 v v1 v2 v3 v4 : Value} {T : TypeId} (h : w.heap[g]? = some (.cells #[a0, a1, a2, a3, a4] T (0, 0))) :
    ((((((w.setCell ⟨g, 0, none⟩ v).setCell ⟨g, 1, none⟩ v1).setCell ⟨g, 2, none⟩ v2).setCell ⟨g, 3, none⟩ v3).setCell ⟨g, 4, none⟩ v4).drew).heap[g]? = some (.cells #[v, v1, v2, v3, v4] T (0, 0)) := by
  have s0 : (w.setCell ⟨g, 0, none⟩ v).heap[g]? = some (.cells #[v, a1, a2, a3, a4] T (0, 0)) := heap_setCell_same w g 0 _ _ v h
  generalize w.setCell ⟨g, 0, none⟩ v = x0 at s0 ⊢
  have s1 : (x0.setCell ⟨g, 1, none⟩ v1).heap[g]? = some (.cells #[v, v1, a2, a3, a4] T (0, 0)) := heap_setCell_same _ g 1 _ _ v1 s0
  generalize x0.setCell ⟨g, 1, none⟩ v1 = x1 at s1 ⊢
  have s2 : (x1.setCell ⟨g, 2, none⟩ v2).heap[g]? = some (.cells #[v, v1, v2, a3, a4] T (0, 0)) := heap_setCell_same _ g 2 _ _ v2 s1
  generalize x1.setCell ⟨g, 2, none⟩ v2 = x2 at s2 ⊢
  have s3 : (x2.setCell ⟨g, 3, none⟩ v3).heap[g]? = some (.cells #[v, v1, v2, v3, a4] T (0, 0)) := heap_setCell_same _ g 3 _ _ v3 s2
  generalize x2.setCell ⟨g, 3, none⟩ v3 = x3 at s3 ⊢
  exact heap_setCell_same _ g 4 _ _ v4 s3
theorem has_any (w : World) {g g2 n : Nat} {ws : List Nat} (i : Nat) (h : BitsAt w g g2 n ws) :
    Calls Try.prog 24 #[.pointer (some ⟨g, 0, none⟩), .int .i64 (i : Int)] w fun e w' => e = .returned (.bool (bitAt ws i)) ∧ w = w' := by
  by_cases hi : i < n
  · exact has_in g g2 n i ws w h hi
  · rw [h.top i (by omega)]; exact has_out g g2 n i ws w h (by omega)
set_option maxHeartbeats 2000000 in
theorem packed_any {base g gc cap gb gb2 size last : Nat} {L ws : List Nat} (i a b : Nat) (w : World) (h : HeapAt w base g gc cap gb gb2 size last L ws) (ha : L[i]? = some a) (hb : L[i + 1]? = some b) :
    Calls Try.prog 40 #[.pointer (some ⟨g, 0, none⟩), .int .i64 (i : Int)] w fun e w' => e = .returned (.agg #[.int .u64 (a : Int), .int .u64 (b : Int)]) ∧ Below w.heap.size w w' := by
  obtain ⟨hl, hb'⟩ := List.getElem?_eq_some_iff.1 hb
  obtain ⟨hl0, ha'⟩ := List.getElem?_eq_some_iff.1 ha
  have hca := h.cell hl0
  have hcb := h.cell hl
  rw [ha'] at hca
  rw [hb'] at hcb
  obtain ⟨cur, _, _, hlc, hcm, _⟩ := h.row
  have c1 := h.c1
  have hgl := h.gl
  have hsm := h.small
  have hrm := h.room
  unfold maxLen at hcm
  have hg1 := hgl.1
  have hg2 := hgl.2.1
  clear ha hb ha' hb' hgl
  have hat : ∀ w, (Instr.arrayAt 46 (.slice (some ⟨gc, i, none⟩) (L.length - i) (cap - i))).run Try.prog w = .ok (.pointer (some ⟨gc, i, none⟩)) w := fun w => run_arrayAt w 46 _ 2 _ _ _ Try.underlying46 (by omega)
  go_enter Try.func40, Try.ntmps40
  go_wp2_with fail
  exact bodyPost_ret (v := .agg #[.int .u64 (a : Int), .int .u64 (b : Int)]) (by simp [results, Try.results40, go_sem]) rfl ⟨rfl, hbelow1 _ _⟩

/-- an object's head in the cells -/
structure HeadIn (L : List Nat) (i cl kind size hash : Nat) (mark : Bool) : Prop where
  a : L[i]? = some cl
  b : L[i + 1]? = some (pk kind size hash mark)
  ok : hErr cl kind size hash = 0
  lt : cl < 18446744073709551616
theorem pkI_nat (kind size hash : Nat) (mark : Bool) : pkI kind size hash mark = (pk kind size hash mark : Nat) := by unfold pkI; simp
theorem unpack_obj (cl kind size hash : Nat) (mark : Bool) (w : World) (hE : hErr cl kind size hash = 0) (hl : cl < 18446744073709551616) :
    Calls Try.prog 39 #[.agg #[.int .u64 (cl : Int), .int .u64 (pk kind size hash mark : Nat)]] w fun e w' => e = .returned (.tuple #[.agg #[.int .u64 (cl : Int), .int .i64 (kind : Int), .int .i64 (size : Int), .int .u32 (hash : Int), .bool mark], .int .i64 0]) ∧ Below w.heap.size w w' := by
  obtain ⟨_, ⟨s0, s1⟩, z1, ⟨k0, k1⟩⟩ := hErr_ok hE
  obtain ⟨h1, h2, h3, h4, h5⟩ := z_pk (kind := kind) (size := size) (hash := hash) mark (by omega) (by omega)
  have hlt := pk_lt (kind := kind) (size := size) (hash := hash) (mark := mark) (by omega) (by omega) (by omega)
  have e1 : zK (pk kind size hash mark : Nat) = kind := by unfold zK; rw [Int.toNat_natCast, h2]
  have e2 : zS (pk kind size hash mark : Nat) = size := by unfold zS; rw [Int.toNat_natCast, h1]
  have e3 : zH (pk kind size hash mark : Nat) = hash := by unfold zH; rw [Int.toNat_natCast, h3]
  have e4 : zM (pk kind size hash mark : Nat) = mark := by unfold zM; rw [Int.toNat_natCast, h4]
  have := unpack_yes cl (pk kind size hash mark : Nat) w (by omega) (by omega) (by omega) (by omega) (by rw [e1, e2, e3]; exact hE) (by rw [Int.toNat_natCast]; exact h5)
  rw [e1, e2, e3, e4] at this
  exact this
set_option maxHeartbeats 2000000 in
theorem object_yes {base g gc cap gb gb2 size last : Nat} {L ws : List Nat} (i cl kind sz hash : Nat) (mark : Bool) (w : World) (h : HeapAt w base g gc cap gb gb2 size last L ws) (hi : HeadIn L i cl kind sz hash mark) (hb : bitAt ws i = true) (h1 : 1 ≤ i) :
    Calls Try.prog 35 #[.pointer (some ⟨g, 0, none⟩), .int .u64 ((i : Int) * 2)] w fun e w' => e = .returned (.tuple #[.int .i64 (i : Int), .agg #[.int .u64 (cl : Int), .int .i64 (kind : Int), .int .i64 (sz : Int), .int .u32 (hash : Int), .bool mark], .int .i64 0]) ∧ Below w.heap.size w w' := by
  have hin : i < size := by
    rcases Nat.lt_or_ge i size with h2 | h2
    · exact h2
    · rw [h.bits.top i h2] at hb; cases hb
  have hsm := h.small
  have hat := fun w' => at_in ((i : Int) * 2) w' (by omega) (by omega) (by omega)
  rw [show (i : Int) * 2 / 2 = (i : Int) by omega] at hat
  have hHas := fun (w' : World) (hb' : BitsAt w' gb gb2 size ws) => has_any w' i hb'
  rw [hb] at hHas
  have hpk := fun (w' : World) (hw' : HeapAt w' base g gc cap gb gb2 size last L ws) => packed_any i cl _ w' hw' hi.a hi.b
  have hun := fun (w' : World) => unpack_obj cl kind sz hash mark w' hi.ok hi.lt
  have hgl := h.gl
  have hg1 := hgl.1
  have c2 := h.c2
  have H := Lib.hid h
  have HA := Lib.hid (h.below ((Below.refl w.heap.size w).alloc (Nat.le_refl _) (.cells #[.int .u64 0, .int .i64 0, .int .i64 0, .int .u32 0, .bool false] 45)))
  clear hgl h hb hi
  generalize pk kind sz hash mark = X at hpk hun
  go_enter Try.func35, Try.ntmps35
  go_wp2_with fail
  refine (there_any _ _).mono ?_
  rintro e w1 ⟨rfl, rfl⟩
  go_wp2_with fail
  refine (hat _).mono ?_
  rintro e w1 ⟨rfl, rfl⟩
  go_wp2_with fail
  refine (hHas _ HA.out.bits).mono ?_
  rintro e w1 ⟨rfl, rfl⟩
  go_wp2_with fail
  refine (hpk _ HA.out).mono ?_
  rintro e w1 ⟨rfl, hb1⟩
  go_wp2_with fail
  refine (hun _).mono ?_
  rintro e w2 ⟨rfl, hb2⟩
  have s1 := hb1.size
  simp at s1
  have s2 := hb2.size
  have B2 : w2.heap[w.heap.size]? = some (.cells #[.int .u64 0, .int .i64 0, .int .i64 0, .int .u32 0, .bool false] 45 (0, 0)) := by
    rw [hb2.block _ (by omega), hb1.block _ (by simp)]; exact heap_alloc_new w _
  have hbw : Below w.heap.size w w2 := ((Below.refl _ _).alloc (Nat.le_refl _) _).trans ((hb1.mono (by simp)).trans (hb2.mono (by omega)))
  have l0 : w.heap.size < w2.heap.size := by omega
  go_wp2_with fail
  obtain ⟨wr, hwr⟩ : ∃ wr, w2.alloc (.cells #[.int .u64 (cl : Int), .int .i64 (kind : Int), .int .i64 (sz : Int), .int .u32 (hash : Int), .bool mark] 45) = wr := ⟨_, rfl⟩
  have B3 : wr.heap[w.heap.size]? = some (.cells #[.int .u64 0, .int .i64 0, .int .i64 0, .int .u32 0, .bool false] 45 (0, 0)) := by
    rw [← hwr, heap_alloc_old _ _ l0]; exact B2
  have B4 : wr.heap[w2.heap.size]? = some (.cells #[.int .u64 (cl : Int), .int .i64 (kind : Int), .int .i64 (sz : Int), .int .u32 (hash : Int), .bool mark] 45 (0, 0)) := by
    rw [← hwr]; exact heap_alloc_new w2 _
  have hbr : Below w.heap.size w wr := by rw [← hwr]; exact hbw.alloc (by omega) _
  have hne : w2.heap.size ≠ w.heap.size := by omega
  rw [hwr]
  have f3 := cells5 B3
  have f4 := cells5 B4
  have r3 := fun k => frozen_of_row wr w.heap.size k _ _ B3
  clear hwr hbw B2 hb1 hb2 s1 s2 hat hHas hpk hun HA H c2
  generalize w2.heap.size = g9 at *
  go_region
  rename_i hK
  refine hK _ _ ?_
  clear hK
  go_wp2_with fail
  have hR := set5 (v := .int .u64 (cl : Int)) (v1 := .int .i64 (kind : Int)) (v2 := .int .i64 (sz : Int)) (v3 := .int .u32 (hash : Int)) (v4 := .bool mark) B3
  have hB : Below w.heap.size w ((((((wr.setCell ⟨w.heap.size, 0, none⟩ (.int .u64 (cl : Int))).setCell ⟨w.heap.size, 1, none⟩ (.int .i64 (kind : Int))).setCell ⟨w.heap.size, 2, none⟩ (.int .i64 (sz : Int))).setCell ⟨w.heap.size, 3, none⟩ (.int .u32 (hash : Int))).setCell ⟨w.heap.size, 4, none⟩ (.bool mark)).drew) :=
    (((((hbr.setCell (by simp) _).setCell (by simp) _).setCell (by simp) _).setCell (by simp) _).setCell (by simp) _).drew
  generalize ((((((wr.setCell ⟨w.heap.size, 0, none⟩ (.int .u64 (cl : Int))).setCell ⟨w.heap.size, 1, none⟩ (.int .i64 (kind : Int))).setCell ⟨w.heap.size, 2, none⟩ (.int .i64 (sz : Int))).setCell ⟨w.heap.size, 3, none⟩ (.int .u32 (hash : Int))).setCell ⟨w.heap.size, 4, none⟩ (.bool mark)).drew) = wf at hR hB ⊢
  obtain ⟨q0, q1, q2, q3, q4⟩ := cells5 hR
  exact bodyPost_ret (v := .tuple #[.int .i64 (i : Int), .agg #[.int .u64 (cl : Int), .int .i64 (kind : Int), .int .i64 (sz : Int), .int .u32 (hash : Int), .bool mark], .int .i64 0]) (by simp [results, Try.results35, go_sem, q0, q1, q2, q3, q4]) rfl ⟨rfl, hB⟩
end Go.Proofs.Ythklbpcpmmpfmaa.Fl
