/-
  Memory as cells: an object, its head; Has.
-/
import Derived.Test.YtahmljjjdoaahaaDoorHeap
import Derived.RegionTactic
import Derived.ChangeAlike
import Derived.Laws.Cover3
import Derived.Lib.AppendZeros
import Derived.Laws.CopyOwn
namespace Go.Proofs.YtahmljjjdoaahaaDoor.Fl
open Go.RowKit

theorem cells5 {w : World} {g : Nat} {v0 v1 v2 v3 v4 : Value} {T : TypeId} (h : w.heap[g]? = some (.cells #[v0, v1, v2, v3, v4] T (0, 0))) :
    w.cell? ⟨g, 0, none⟩ = some v0 ∧ w.cell? ⟨g, 1, none⟩ = some v1 ∧ w.cell? ⟨g, 2, none⟩ = some v2 ∧ w.cell? ⟨g, 3, none⟩ = some v3 ∧ w.cell? ⟨g, 4, none⟩ = some v4 :=
  ⟨cell_of_row _ _ _ _ _ _ h, cell_of_row _ _ _ _ _ _ h, cell_of_row _ _ _ _ _ _ h, cell_of_row _ _ _ _ _ _ h, cell_of_row _ _ _ _ _ _ h⟩
theorem set5 {w : World} {g : Nat} {a0 a1 a2 a3 a4 v v1 v2 v3 v4 : Value} {T : TypeId} (h : w.heap[g]? = some (.cells #[a0, a1, a2, a3, a4] T (0, 0))) :
    ((((((w.setCell ⟨g, 0, none⟩ v).setCell ⟨g, 1, none⟩ v1).setCell ⟨g, 2, none⟩ v2).setCell ⟨g, 3, none⟩ v3).setCell ⟨g, 4, none⟩ v4).drew).heap[g]? = some (.cells #[v, v1, v2, v3, v4] T (0, 0)) := by
  have s0 : (w.setCell ⟨g, 0, none⟩ v).heap[g]? = some (.cells #[v, a1, a2, a3, a4] T (0, 0)) := heap_setCell_same w g 0 _ _ v h
  generalize w.setCell ⟨g, 0, none⟩ v = x0 at s0 ⊢
  have s1 : (x0.setCell ⟨g, 1, none⟩ v1).heap[g]? = some (.cells #[v, v1, a2, a3, a4] T (0, 0)) := heap_setCell_same _ g 1 _ _ v1 s0
  generalize x0.setCell ⟨g, 1, none⟩ v1 = x1 at s1 ⊢
  have s2 : (x1.setCell ⟨g, 2, none⟩ v2).heap[g]? = some (.cells #[v, v1, v2, a3, a4] T (0, 0)) := heap_setCell_same _ g 2 _ _ v2 s1
  generalize x1.setCell ⟨g, 2, none⟩ v2 = x2 at s2 ⊢
  have s3 : (x2.setCell ⟨g, 3, none⟩ v3).heap[g]? = some (.cells #[v, v1, v2, v3, a4] T (0, 0)) := heap_setCell_same _ g 3 _ _ v3 s2
  generalize x2.setCell ⟨g, 3, none⟩ v3 = x3 at s3 ⊢
  exact heap_setCell_same _ g 4 _ _ v4 s3
theorem has_any (w : World) {g g2 n : Nat} {ws : List Nat} (i : Nat) (h : BitsAt w g g2 n ws) :
    Calls Tryd.prog 47 #[.pointer (some ⟨g, 0, none⟩), .int .i64 (i : Int)] w fun e w' => e = .returned (.bool (bitAt ws i)) ∧ w = w' := by
  by_cases hi : i < n
  · exact has_in g g2 n i ws w h hi
  · rw [h.top i (by omega)]; exact has_out g g2 n i ws w h (by omega)
set_option maxHeartbeats 2000000 in
theorem packed_any {base g gc cap gb gb2 size last : Nat} {L ws : List Nat} (i a b : Nat) (w : World) (h : HeapAt w base g gc cap gb gb2 size last L ws) (ha : L[i]? = some a) (hb : L[i + 1]? = some b) :
    Calls Tryd.prog 49 #[.pointer (some ⟨g, 0, none⟩), .int .i64 (i : Int)] w fun e w' => e = .returned (.agg #[.int .u64 (a : Int), .int .u64 (b : Int)]) ∧ Below w.heap.size w w' := by
  obtain ⟨hl, hb'⟩ := List.getElem?_eq_some_iff.1 hb
  obtain ⟨hl0, ha'⟩ := List.getElem?_eq_some_iff.1 ha
  have hca := h.cell hl0
  have hcb := h.cell hl
  rw [ha'] at hca
  rw [hb'] at hcb
  obtain ⟨cur, _, _, hlc, hcm, _⟩ := h.row
  have c1 := h.c1
  have hgl := h.gl
  have hsm := h.small
  have hrm := h.room
  unfold maxLen at hcm
  have hg1 := hgl.1
  have hg2 := hgl.2.1
  clear ha hb ha' hb' hgl
  have hat : ∀ w, (Instr.arrayAt 92 (.slice (some ⟨gc, i, none⟩) (L.length - i) (cap - i))).run Tryd.prog w = .ok (.pointer (some ⟨gc, i, none⟩)) w := fun w => run_arrayAt w 92 _ 2 _ _ _ Tryd.underlying92 (by omega)
  go_enter Tryd.func49, Tryd.ntmps49
  go_wp2_with fail
  exact bodyPost_ret (v := .agg #[.int .u64 (a : Int), .int .u64 (b : Int)]) (by simp [results, Tryd.results49, go_sem]) rfl ⟨rfl, hbelow1 _ _⟩

/-- an object's head in the cells -/
structure HeadIn (L : List Nat) (i cl kind size hash : Nat) (mark : Bool) : Prop where
  a : L[i]? = some cl
  b : L[i + 1]? = some (pk kind size hash mark)
  ok : hErr cl kind size hash = 0
  lt : cl < 18446744073709551616
theorem pkI_nat (kind size hash : Nat) (mark : Bool) : pkI kind size hash mark = (pk kind size hash mark : Nat) := by unfold pkI; simp
theorem unpack_obj (cl kind size hash : Nat) (mark : Bool) (w : World) (hE : hErr cl kind size hash = 0) (hl : cl < 18446744073709551616) :
    Calls Tryd.prog 48 #[.agg #[.int .u64 (cl : Int), .int .u64 (pk kind size hash mark : Nat)]] w fun e w' => e = .returned (.tuple #[.agg #[.int .u64 (cl : Int), .int .i64 (kind : Int), .int .i64 (size : Int), .int .u32 (hash : Int), .bool mark], .int .i64 0]) ∧ Below w.heap.size w w' := by
  obtain ⟨_, ⟨s0, s1⟩, z1, ⟨k0, k1⟩⟩ := hErr_ok hE
  obtain ⟨h1, h2, h3, h4, h5⟩ := z_pk (kind := kind) (size := size) (hash := hash) mark (by omega) (by omega)
  have hlt := pk_lt (kind := kind) (size := size) (hash := hash) (mark := mark) (by omega) (by omega) (by omega)
  have e1 : zK (pk kind size hash mark : Nat) = kind := by unfold zK; rw [Int.toNat_natCast, h2]
  have e2 : zS (pk kind size hash mark : Nat) = size := by unfold zS; rw [Int.toNat_natCast, h1]
  have e3 : zH (pk kind size hash mark : Nat) = hash := by unfold zH; rw [Int.toNat_natCast, h3]
  have e4 : zM (pk kind size hash mark : Nat) = mark := by unfold zM; rw [Int.toNat_natCast, h4]
  have := unpack_yes cl (pk kind size hash mark : Nat) w (by omega) (by omega) (by omega) (by omega) (by rw [e1, e2, e3]; exact hE) (by rw [Int.toNat_natCast]; exact h5)
  rw [e1, e2, e3, e4] at this
  exact this
set_option maxHeartbeats 2000000 in
theorem object_yes {base g gc cap gb gb2 size last : Nat} {L ws : List Nat} (i cl kind sz hash : Nat) (mark : Bool) (w : World) (h : HeapAt w base g gc cap gb gb2 size last L ws) (hi : HeadIn L i cl kind sz hash mark) (hb : bitAt ws i = true) (h1 : 1 ≤ i) :
    Calls Tryd.prog 21 #[.pointer (some ⟨g, 0, none⟩), .int .u64 ((i : Int) * 2)] w fun e w' => e = .returned (.tuple #[.int .i64 (i : Int), .agg #[.int .u64 (cl : Int), .int .i64 (kind : Int), .int .i64 (sz : Int), .int .u32 (hash : Int), .bool mark], .int .i64 0]) ∧ Below w.heap.size w w' := by
  have hin : i < size := by
    rcases Nat.lt_or_ge i size with h2 | h2
    · exact h2
    · rw [h.bits.top i h2] at hb; cases hb
  have hsm := h.small
  have hat := fun w' => at_in ((i : Int) * 2) w' (by omega) (by omega) (by omega)
  rw [show (i : Int) * 2 / 2 = (i : Int) by omega] at hat
  have hHas := fun (w' : World) (hb' : BitsAt w' gb gb2 size ws) => has_any w' i hb'
  rw [hb] at hHas
  have hpk := fun (w' : World) (hw' : HeapAt w' base g gc cap gb gb2 size last L ws) => packed_any i cl _ w' hw' hi.a hi.b
  have hun := fun (w' : World) => unpack_obj cl kind sz hash mark w' hi.ok hi.lt
  have hgl := h.gl
  have hg1 := hgl.1
  have c2 := h.c2
  have H := Lib.hid h
  have HA := Lib.hid (h.below ((Below.refl w.heap.size w).alloc (Nat.le_refl _) (.cells #[.int .u64 0, .int .i64 0, .int .i64 0, .int .u32 0, .bool false] 52)))
  clear hgl h hb hi
  generalize pk kind sz hash mark = X at hpk hun
  go_enter Tryd.func21, Tryd.ntmps21
  go_wp2_with fail
  refine (there_any _ _).mono ?_
  rintro e w1 ⟨rfl, rfl⟩
  go_wp2_with fail
  refine (hat _).mono ?_
  rintro e w1 ⟨rfl, rfl⟩
  go_wp2_with fail
  refine (hHas _ HA.out.bits).mono ?_
  rintro e w1 ⟨rfl, rfl⟩
  go_wp2_with fail
  refine (hpk _ HA.out).mono ?_
  rintro e w1 ⟨rfl, hb1⟩
  go_wp2_with fail
  refine (hun _).mono ?_
  rintro e w2 ⟨rfl, hb2⟩
  have s1 := hb1.size
  simp at s1
  have s2 := hb2.size
  have B2 : w2.heap[w.heap.size]? = some (.cells #[.int .u64 0, .int .i64 0, .int .i64 0, .int .u32 0, .bool false] 52 (0, 0)) := by
    rw [hb2.block _ (by omega), hb1.block _ (by simp)]; exact heap_alloc_new w _
  have hbw : Below w.heap.size w w2 := ((Below.refl _ _).alloc (Nat.le_refl _) _).trans ((hb1.mono (by simp)).trans (hb2.mono (by omega)))
  have l0 : w.heap.size < w2.heap.size := by omega
  go_wp2_with fail
  obtain ⟨wr, hwr⟩ : ∃ wr, w2.alloc (.cells #[.int .u64 (cl : Int), .int .i64 (kind : Int), .int .i64 (sz : Int), .int .u32 (hash : Int), .bool mark] 52) = wr := ⟨_, rfl⟩
  have B3 : wr.heap[w.heap.size]? = some (.cells #[.int .u64 0, .int .i64 0, .int .i64 0, .int .u32 0, .bool false] 52 (0, 0)) := by
    rw [← hwr, heap_alloc_old _ _ l0]; exact B2
  have B4 : wr.heap[w2.heap.size]? = some (.cells #[.int .u64 (cl : Int), .int .i64 (kind : Int), .int .i64 (sz : Int), .int .u32 (hash : Int), .bool mark] 52 (0, 0)) := by
    rw [← hwr]; exact heap_alloc_new w2 _
  have hbr : Below w.heap.size w wr := by rw [← hwr]; exact hbw.alloc (by omega) _
  have hne : w2.heap.size ≠ w.heap.size := by omega
  rw [hwr]
  have f3 := cells5 B3
  have f4 := cells5 B4
  have r3 := fun k => frozen_of_row wr w.heap.size k _ _ B3
  clear hwr hbw B2 hb1 hb2 s1 s2 hat hHas hpk hun HA H c2
  generalize w2.heap.size = g9 at *
  go_region
  rename_i hK
  refine hK _ _ ?_
  clear hK
  go_wp2_with fail
  have hR := set5 (v := .int .u64 (cl : Int)) (v1 := .int .i64 (kind : Int)) (v2 := .int .i64 (sz : Int)) (v3 := .int .u32 (hash : Int)) (v4 := .bool mark) B3
  have hB : Below w.heap.size w ((((((wr.setCell ⟨w.heap.size, 0, none⟩ (.int .u64 (cl : Int))).setCell ⟨w.heap.size, 1, none⟩ (.int .i64 (kind : Int))).setCell ⟨w.heap.size, 2, none⟩ (.int .i64 (sz : Int))).setCell ⟨w.heap.size, 3, none⟩ (.int .u32 (hash : Int))).setCell ⟨w.heap.size, 4, none⟩ (.bool mark)).drew) :=
    (((((hbr.setCell (by simp) _).setCell (by simp) _).setCell (by simp) _).setCell (by simp) _).setCell (by simp) _).drew
  generalize ((((((wr.setCell ⟨w.heap.size, 0, none⟩ (.int .u64 (cl : Int))).setCell ⟨w.heap.size, 1, none⟩ (.int .i64 (kind : Int))).setCell ⟨w.heap.size, 2, none⟩ (.int .i64 (sz : Int))).setCell ⟨w.heap.size, 3, none⟩ (.int .u32 (hash : Int))).setCell ⟨w.heap.size, 4, none⟩ (.bool mark)).drew) = wf at hR hB ⊢
  obtain ⟨q0, q1, q2, q3, q4⟩ := cells5 hR
  exact bodyPost_ret (v := .tuple #[.int .i64 (i : Int), .agg #[.int .u64 (cl : Int), .int .i64 (kind : Int), .int .i64 (sz : Int), .int .u32 (hash : Int), .bool mark], .int .i64 0]) (by simp [results, Tryd.results21, go_sem, q0, q1, q2, q3, q4]) rfl ⟨rfl, hB⟩
end Go.Proofs.YtahmljjjdoaahaaDoor.Fl

/-
  append(s, make([]api.Word, m)...), s a row of the call's own: what it does.
-/
namespace Go.Proofs.YtahmljjjdoaahaaDoor.Fl
open Go.RowKit

theorem cw_zeros (m : Nat) : Builtin.zeroCells (Value.int .u64 0).cells m = (cw (List.replicate m 0)).toArray := by
  apply Array.ext'
  simp [Builtin.zeroCells, cw, Value.cells, Array.toList_map]
  apply List.ext_getElem <;> simp [Nat.mod_one]
theorem cwh_one (ws : List Nat) : ∀ u ∈ cw ws, u.oneCell' = true := by
  intro u hu
  obtain ⟨x, _, rfl⟩ := List.mem_map.1 hu
  rfl
theorem word_info : ∃ i, Tryd.prog.info? 38 = some i ∧ i.zero = some (.int .u64 0) ∧ i.size = 1 ∧ i.bytes = 8 := by
  have h := wordinfo
  rcases hi : Tryd.prog.info? 38 with _ | i
  · rw [hi] at h; cases h
  · rw [hi] at h
    simp only [Option.map_some, Option.some.injEq, Prod.mk.injEq] at h
    exact ⟨i, rfl, h.1, h.2.1, h.2.2⟩
theorem append_zeros (w : World) (base gc cap m : Nat) (L : List Nat) (ty : TypeId) (hown : OwnH w base (.slice (some ⟨gc, 0, none⟩) L.length cap) L) (hb : base ≤ w.heap.size) (h0 : 0 < m) (hm : L.length + m ≤ 16777216) :
    ∃ gc' cap' w', (Builtin.append_ #[44, 3] ty #[.slice (some ⟨gc, 0, none⟩) L.length cap, .int .i64 (m : Int)]).run Tryd.prog w = .ok (.slice (some ⟨gc', 0, none⟩) (L.length + m) cap') w' ∧
      OwnH w' base (.slice (some ⟨gc', 0, none⟩) (L.length + m) cap') (L ++ List.replicate m 0) ∧ w.grownBy w' (some gc) ∧ (gc' = gc ∨ gc' = w.heap.size) := by
  obtain ⟨i, hi, hz, hsz, hby⟩ := word_info
  have ht := Tryd.underlying44
  have htn := Tryd.underlying3
  have hlen : (L ++ List.replicate m 0).length = L.length + m := by simp
  have hcl : (cw (List.replicate m 0)).length = m := by rw [cw_len]; simp
  have happ : cw (L ++ List.replicate m 0) = cw L ++ cw (List.replicate m 0) := by simp [cw]
  have hn : m ≠ 0 := by omega
  have hw : IntKind.i64.wrap (m : Int) = m := by rw [IntKind.wrap_i64]; omega
  have hneg : ¬ ((m : Int) < 0) := by omega
  have h48i : ¬ (281474976710656 < (m : Int) * 8) := by omega
  have hzc := cw_zeros
  rcases hown.2 with ⟨e, _⟩ | ⟨g', cap', cur, e, hbg, hg, hnc, hcm, hcs, htake⟩
  · cases e
  · injection e with e1 _ e3
    injection e1 with e1
    injection e1 with e1
    subst e1 e3
    rw [Nat.mul_one] at htake hcs
    by_cases hroom : L.length + m ≤ cap
    · have hst := run_storeCells_at Tryd.prog gc L.length 38 (cw (List.replicate m 0)) 0 cur w hg (by rw [hcl]; omega) (cwh_one _)
      simp only [Nat.add_zero] at hst
      refine ⟨gc, cap, w.setRow gc (cur.toList.take L.length ++ cw (List.replicate m 0) ++ cur.toList.drop (L.length + (cw (List.replicate m 0)).length)).toArray, ?_, ⟨by rw [cw_len, Nat.mul_one], .inr ⟨gc, cap, _, by rw [hlen], hbg, setRow_heap w gc cur _ 38 _ hg, by omega, hcm, ?_, ?_⟩⟩, ⟨rfl, rfl, rfl, by simp, fun k _ hk => setRow_other w gc k _ (fun e => hk (by rw [e]))⟩, .inl rfl⟩
      · simp [Builtin.append_, run_underlying ht, run_underlying htn, sizeOf, typeInfo, zeroValue, hi, hz, hsz, hby, asInt, asIntOf, hw, hn, hneg, h48i, hroom, Addr.add_lit, hzc, hst]
      · simp only [List.size_toArray, List.length_append, List.length_take, List.length_drop, Array.length_toList, hcl]
        omega
      · rw [htake, hlen, happ, Nat.mul_one]
        exact List.take_left' (by rw [List.length_append, cw_len, hcl])
    · have hn2 : ¬ (L.length + m ≤ cap) := hroom
      have h63' : ¬ (9223372036854775807 < ((L.length : Int) + (m : Int))) := by omega
      have hgs := growslice_fits (need := L.length + m) (old := cap) (bytes := 8) (by omega) (by omega)
      have h48' : ¬ (281474976710656 < Builtin.nextslicecap (L.length + m) cap * 8) := by omega
      have hge := grownCap_ge w (L.length + m) cap 38
      have hcm := grownCap_le_maxLen w (L.length + m) cap 38 (by unfold maxLen; omega)
      have holds : ∀ j u, (cw L)[j]? = some u → w.drew.cell? ((⟨gc, 0, none⟩ : Addr).add j) = some u := hown.cells (g := gc) rfl
      have hfo := run_firstCells_some (P := Tryd.prog) w.drew 1 L.length ⟨gc, 0, none⟩ L.length cap (cw L) (by rw [cw_len, Nat.mul_one]) holds
      refine ⟨w.heap.size, grownCap w (L.length + m) cap 38, w.drew.alloc (.cells ((cw L).toArray ++ (cw (List.replicate m 0)).toArray ++ (cw (List.replicate (grownCap w (L.length + m) cap 38 - (L.length + m)) 0)).toArray) 38), ?_, ⟨by rw [cw_len, Nat.mul_one], .inr ⟨w.heap.size, _, _, by rw [hlen], hb, heap_alloc_new w.drew _, by omega, hcm, ?_, ?_⟩⟩, ⟨rfl, rfl, rfl, by simp, fun k hk _ => heap_alloc_old w.drew _ hk⟩, .inr rfl⟩
      · simp [Builtin.append_, run_underlying ht, run_underlying htn, sizeOf, typeInfo, zeroValue, hi, hz, hsz, hby, asInt, asIntOf, hw, hn, hneg, h48i, hn2, h63', h48', Question.forced, hfo, newRow, grownCap, hzc]
      · simp only [Array.size_append, List.size_toArray, cw_len, List.length_replicate]
        omega
      · simp only [Array.toList_append, happ, hlen, Nat.mul_one, List.append_assoc]
        rw [← List.append_assoc]
        exact List.take_left' (by rw [List.length_append, cw_len, hcl])
end Go.Proofs.YtahmljjjdoaahaaDoor.Fl

/-
  Memory as cells: the words of an object, themselves.
-/
namespace Go.Proofs.YtahmljjjdoaahaaDoor.Fl
open Go.RowKit

set_option maxHeartbeats 2000000 in
theorem words_pos {base g gc cap gb gb2 size last : Nat} {L ws : List Nat} (i n : Nat) (cl kind sz hash : Int) (mark : Bool) (w : World) (h : HeapAt w base g gc cap gb gb2 size last L ws) (c0 : 0 ≤ cl) (c1 : cl ≤ 18446744073709551615)
    (hn : cellsI cl kind sz hash = n) (h0 : 0 < n) (hi : i + 2 + n ≤ L.length) :
    Calls Tryd.prog 37 #[.pointer (some ⟨g, 0, none⟩), .int .i64 (i : Int), .agg #[.int .u64 cl, .int .i64 kind, .int .i64 sz, .int .u32 hash, .bool mark]] w fun e w' => e = .returned (.slice (some ⟨gc, i + 2, none⟩) n (cap - (i + 2))) ∧ Below w.heap.size w w' := by
  have hc := fun w' => cells_any cl kind sz hash mark w' c0 c1
  rw [hn] at hc
  have hrm := h.room
  have hsm := h.small
  obtain ⟨cur, _, _, hlc, hcm, _⟩ := h.row
  unfold maxLen at hcm
  have hg1 := h.gl.1
  obtain ⟨wr, hwr⟩ : ∃ wr, w.alloc (.cells #[.int .u64 cl, .int .i64 kind, .int .i64 sz, .int .u32 hash, .bool mark] 52) = wr := ⟨_, rfl⟩
  have B1 : wr.heap[w.heap.size]? = some (.cells #[.int .u64 cl, .int .i64 kind, .int .i64 sz, .int .u32 hash, .bool mark] 52 (0, 0)) := by
    rw [← hwr]; exact heap_alloc_new w _
  have hbr : Below w.heap.size w wr := by rw [← hwr]; exact (Below.refl _ _).alloc (Nat.le_refl _) _
  have l1 : w.heap.size < wr.heap.size := by rw [← hwr]; simp
  have l2 : g < wr.heap.size := by omega
  have sz1 := hbr.size
  have c1' := (h.below hbr).c1
  clear hn
  go_enter Tryd.func37, Tryd.ntmps37
  go_wp2_with fail
  clear hwr
  obtain ⟨W0, hW0⟩ : ∃ W0, w.heap.size = W0 := ⟨_, rfl⟩
  rw [hW0] at B1 l1 ⊢
  have HW0 := Lib.hid hW0
  clear hW0
  have f1 := cells5 B1
  have hx := fun (x : Grow wr) => x.cell
  refine wp_region_grow (by kernel_rfl) (by kernel_rfl) ?_
  repeat (go_big_quiet_step ((first
    | (go_at_call 35; exact Grow.call _ (hc _)))))
  refine wpQuiet_nil ?_
  intro _ hw'
  obtain ⟨x, rfl⟩ := hw'
  have hbx : Below w.heap.size w x.w := hbr.trans (x.below.mono sz1)
  go_wp2_with fail
  go_ret
  exact ⟨rfl, hbx⟩
set_option maxHeartbeats 2000000 in
theorem words_zero {base g gc cap gb gb2 size last : Nat} {L ws : List Nat} (i : Nat) (cl kind sz hash : Int) (mark : Bool) (w : World) (h : HeapAt w base g gc cap gb gb2 size last L ws) (c0 : 0 ≤ cl) (c1 : cl ≤ 18446744073709551615)
    (hn : cellsI cl kind sz hash = 0) (hi : i + 2 ≤ L.length) :
    Calls Tryd.prog 37 #[.pointer (some ⟨g, 0, none⟩), .int .i64 (i : Int), .agg #[.int .u64 cl, .int .i64 kind, .int .i64 sz, .int .u32 hash, .bool mark]] w fun e w' => (∃ A c, e = .returned (.slice A 0 c)) ∧ Below w.heap.size w w' := by
  have hc := fun w' => cells_any cl kind sz hash mark w' c0 c1
  rw [hn] at hc
  have hrm := h.room
  have hsm := h.small
  obtain ⟨cur, _, _, hlc, hcm, _⟩ := h.row
  unfold maxLen at hcm
  have hg1 := h.gl.1
  obtain ⟨wr, hwr⟩ : ∃ wr, w.alloc (.cells #[.int .u64 cl, .int .i64 kind, .int .i64 sz, .int .u32 hash, .bool mark] 52) = wr := ⟨_, rfl⟩
  have B1 : wr.heap[w.heap.size]? = some (.cells #[.int .u64 cl, .int .i64 kind, .int .i64 sz, .int .u32 hash, .bool mark] 52 (0, 0)) := by
    rw [← hwr]; exact heap_alloc_new w _
  have hbr : Below w.heap.size w wr := by rw [← hwr]; exact (Below.refl _ _).alloc (Nat.le_refl _) _
  have l1 : w.heap.size < wr.heap.size := by rw [← hwr]; simp
  have l2 : g < wr.heap.size := by omega
  have sz1 := hbr.size
  have c1' := (h.below hbr).c1
  clear hn
  go_enter Tryd.func37, Tryd.ntmps37
  go_wp2_with fail
  clear hwr
  obtain ⟨W0, hW0⟩ : ∃ W0, w.heap.size = W0 := ⟨_, rfl⟩
  rw [hW0] at B1 l1 ⊢
  have HW0 := Lib.hid hW0
  clear hW0
  have f1 := cells5 B1
  have hx := fun (x : Grow wr) => x.cell
  refine wp_region_grow (by kernel_rfl) (by kernel_rfl) ?_
  repeat (go_big_quiet_step ((first
    | (go_at_call 35; exact Grow.call _ (hc _)))))
  refine wpQuiet_nil ?_
  intro _ hw'
  obtain ⟨x, rfl⟩ := hw'
  have hbx : Below w.heap.size w x.w := hbr.trans (x.below.mono sz1)
  go_wp2_with fail
  all_goals go_ret
  all_goals exact ⟨⟨_, _, rfl⟩, hbx⟩
theorem hpointer_any (n : Nat) (w : World) (h1 : 1 ≤ n) (h2 : n < 16777216) :
    Calls Tryd.prog 39 #[.int .i64 (n : Int)] w fun e w' => e = .returned (.int .u64 ((n : Int) * 2)) ∧ w = w' := by
  have hp := fun w' => pointer_in (n : Int) w' (by omega) (by omega)
  go_enter Tryd.func39, Tryd.ntmps39
  go_wp2_with (go_at_call 54; (with_reducible refine (hp _).mono ?_); rintro e w' ⟨rfl, rfl⟩)
  go_ret
  exact ⟨rfl, rfl⟩
end Go.Proofs.YtahmljjjdoaahaaDoor.Fl

/-
  Memory as cells: what turns it: its row grows, a cell, a row of cells, a place more in the set.
-/
namespace Go.Proofs.YtahmljjjdoaahaaDoor.Fl
open Go.RowKit

/-- nothing but these three blocks has changed of what was there -/
structure Aside (g gc gb2 : Nat) (w w' : World) : Prop where
  os : w'.os = w.os
  tape : w'.tape = w.tape
  output : w'.output = w.output
  size : w.heap.size ≤ w'.heap.size
  block : ∀ k, k < w.heap.size → k ≠ g → k ≠ gc → k ≠ gb2 → w'.heap[k]? = w.heap[k]?
theorem Aside.refl (g gc gb2 : Nat) (w : World) : Aside g gc gb2 w w := ⟨rfl, rfl, rfl, Nat.le_refl _, fun _ _ _ _ _ => rfl⟩
theorem Aside.trans {g gc gb2 gc' : Nat} {w w1 w2 : World} (h : Aside g gc gb2 w w1) (k : Aside g gc' gb2 w1 w2) (hc : gc' = gc ∨ w.heap.size ≤ gc') : Aside g gc gb2 w w2 :=
  ⟨k.os.trans h.os, k.tape.trans h.tape, k.output.trans h.output, Nat.le_trans h.size k.size, fun i hi h1 h2 h3 =>
    (k.block i (Nat.lt_of_lt_of_le hi h.size) h1 (by rcases hc with rfl | hc; exact h2; omega) h3).trans (h.block i hi h1 h2 h3)⟩
theorem Aside.of_below {g gc gb2 : Nat} {w w' : World} (h : Below w.heap.size w w') : Aside g gc gb2 w w' := ⟨h.os, h.tape, h.output, h.size, fun k hk _ _ _ => h.block k hk⟩
theorem Aside.below {g gc gb2 B : Nat} {w w' : World} (h : Aside g gc gb2 w w') (hB : B ≤ w.heap.size) (h1 : B ≤ g) (h2 : B ≤ gc) (h3 : B ≤ gb2) : Below B w w' :=
  ⟨h.os, h.tape, h.output, h.size, fun k hk => h.block k (by omega) (by omega) (by omega) (by omega)⟩
theorem Aside.of_grown {g gc gb2 : Nat} {w w' : World} (h : w.grownBy w' (some gc)) : Aside g gc gb2 w w' :=
  ⟨h.os, h.tape, h.output, h.size, fun k hk _ h2 _ => h.block k hk (by simpa using h2)⟩
theorem Aside.set_g {g gc gb2 : Nat} (w : World) (k : Nat) (v : Value) : Aside g gc gb2 w (w.setCell ⟨g, k, none⟩ v) :=
  ⟨rfl, rfl, rfl, by simp [World.setCell], fun i _ h1 _ _ => Below.heap_setCell _ _ _ i h1⟩
theorem Aside.set_c {g gc gb2 : Nat} (w : World) (k : Nat) (v : Value) : Aside g gc gb2 w (w.setCell ⟨gc, k, none⟩ v) :=
  ⟨rfl, rfl, rfl, by simp [World.setCell], fun i _ _ h2 _ => Below.heap_setCell _ _ _ i h2⟩
theorem Aside.row {g gc gb2 : Nat} (w : World) (cs : Array Value) : Aside g gc gb2 w (w.setRow gc cs) :=
  ⟨rfl, rfl, rfl, by simp [World.setRow], fun i _ _ h2 _ => setRow_other w gc i cs h2⟩
section
variable {w w' : World} {base g gc cap gb gb2 size last : Nat} {L ws : List Nat}
theorem HeapAt.drew (h : HeapAt w base g gc cap gb gb2 size last L ws) : HeapAt w.drew base g gc cap gb gb2 size last L ws := h.at_ rfl rfl rfl rfl
/-- one cell of it -/
theorem HeapAt.put (h : HeapAt w base g gc cap gb gb2 size last L ws) (k x : Nat) (hx : x < 18446744073709551616) : HeapAt (w.setCell ⟨gc, k, none⟩ (.int .u64 (x : Int))) base g gc cap gb gb2 size last (L.set k x) ws := by
  obtain ⟨a1, a2, a3, a4, a5, a6⟩ := h.apart
  refine ⟨?_, ?_, h.bits.at_ (Below.heap_setCell _ _ _ _ (fun e => a4 e.symm)) (Below.heap_setCell _ _ _ _ (fun e => a5 e.symm)), h.bg, h.bb, h.bb2, by rw [List.length_set]; exact h.two, by rw [List.length_set]; exact h.room, fun y hy => ?_⟩
  · rw [List.length_set]; exact (Below.heap_setCell _ _ _ _ a1).trans h.hd
  · have := (World.ownsRow.stored h.own k (.int .u64 (x : Int))).1
    unfold OwnH
    rw [List.length_set]
    have e : cw (L.set k x) = (cw L).set k (.int .u64 (x : Int)) := by unfold cw; rw [List.map_set]
    rw [e]; exact this
  · rcases List.mem_or_eq_of_mem_set hy with h1 | rfl
    · exact h.lt y h1
    · exact hx
/-- cells of it, from a place on -/
theorem HeapAt.splice (h : HeapAt w base g gc cap gb gb2 size last L ws) {cur : Array Value} (hcur : w.heap[gc]? = some (.cells cur 38 (0, 0))) (off : Nat) (ys : List Nat) (hoff : off + ys.length ≤ L.length) (hy : ∀ x ∈ ys, x < 18446744073709551616) :
    HeapAt (w.setRow gc (cur.toList.take off ++ (cw ys ++ cur.toList.drop (off + (cw ys).length))).toArray) base g gc cap gb gb2 size last (L.take off ++ (ys ++ L.drop (off + ys.length))) ws := by
  obtain ⟨a1, a2, a3, a4, a5, a6⟩ := h.apart
  have hlen : (L.take off ++ (ys ++ L.drop (off + ys.length))).length = L.length := by simp; omega
  obtain ⟨cur', hg, hb, hn, hm, hs, ht⟩ := h.row
  rw [hcur] at hg
  injection hg with hg
  injection hg with hg _ _
  subst hg
  refine ⟨?_, ⟨?_, .inr ⟨gc, cap, _, ?_, hb, setRow_heap w gc cur _ 38 _ hcur, by rw [hlen]; exact hn, hm, ?_, ?_⟩⟩, h.bits.at_ (setRow_other _ _ _ _ (fun e => a4 e.symm)) (setRow_other _ _ _ _ (fun e => a5 e.symm)), h.bg, h.bb, h.bb2, by rw [hlen]; exact h.two, by rw [hlen]; exact h.room, fun y hy' => ?_⟩
  · rw [hlen]; exact (setRow_other _ _ _ _ a1).trans h.hd
  · rw [cw_len, Nat.mul_one]
  · rw [hlen]
  · simp [cw_len]; omega
  · rw [Nat.mul_one, hlen]
    apply List.ext_getElem?
    intro i
    have hti : ∀ j, j < L.length → cur.toList[j]? = (cw L)[j]? := by
      intro j hj
      rw [← ht, List.getElem?_take, if_pos hj]
    rw [List.getElem?_take]
    have e : cw (L.take off ++ (ys ++ L.drop (off + ys.length))) = (cw L).take off ++ (cw ys ++ (cw L).drop (off + ys.length)) := by simp [cw]
    rw [e]
    by_cases hi : i < L.length
    · rw [if_pos hi]
      have hcl : (cw L).length = L.length := cw_len L
      have hcy : (cw ys).length = ys.length := cw_len ys
      have hct : (cur.toList.take off).length = off := by rw [List.length_take]; simp; omega
      have hwt : ((cw L).take off).length = off := by rw [List.length_take]; omega
      simp only [List.getElem?_append, hct, hwt]
      by_cases h1 : i < off
      · rw [if_pos h1, if_pos h1, List.getElem?_take, List.getElem?_take, if_pos h1, if_pos h1, hti i hi]
      · rw [if_neg h1, if_neg h1]
        by_cases h2 : i - off < (cw ys).length
        · rw [if_pos h2, if_pos h2]
        · rw [if_neg h2, if_neg h2, List.getElem?_drop, List.getElem?_drop, hcy, hti _ (by omega)]
    · rw [if_neg hi]
      symm
      apply List.getElem?_eq_none
      simp [cw_len]; omega
  · simp only [List.mem_append] at hy'
    rcases hy' with h1 | h1 | h1
    · exact h.lt y (List.mem_of_mem_take h1)
    · exact hy y h1
    · exact h.lt y (List.mem_of_mem_drop h1)
/-- its row has grown -/
theorem HeapAt.grown (h : HeapAt w base g gc cap gb gb2 size last L ws) {gc' cap' : Nat} {L' : List Nat} (hg : w.grownBy w' (some gc)) (hO : OwnH w' base (.slice (some ⟨gc', 0, none⟩) L'.length cap') L') (h2 : L.length ≤ L'.length) (h3 : L'.length ≤ size) (hl : ∀ x ∈ L', x < 18446744073709551616) :
    HeapAt (w'.setCell ⟨g, 1, none⟩ (.slice (some ⟨gc', 0, none⟩) L'.length cap')) base g gc' cap' gb gb2 size last L' ws := by
  obtain ⟨a1, a2, a3, a4, a5, a6⟩ := h.apart
  obtain ⟨l1, l2, l3, l4⟩ := h.gl
  have hh := (hg.block g l1 (by simpa using a1)).trans h.hd
  have hB := h.bits.at_ (hg.block gb l3 (by simpa using fun e => a4 e.symm)) (hg.block gb2 l4 (by simpa using fun e => a5 e.symm))
  obtain ⟨cur, hcg, hbc⟩ : ∃ cur : Array Value, w'.heap[gc']? = some (.cells cur 38 (0, 0)) ∧ (base ≤ gc' ∧ L'.length ≤ cap' ∧ cap' ≤ maxLen ∧ cur.size = cap' ∧ cur.toList.take L'.length = cw L') := by
    rcases hO.2 with ⟨e, _⟩ | ⟨g', cap', cur, e, hb, hg, hn, hm, hs, ht⟩
    · cases e
    · injection e with e1 _ e3
      injection e1 with e1
      injection e1 with e1
      subst e1 e3
      exact ⟨cur, hg, hb, hn, hm, by omega, by rw [Nat.mul_one] at ht; exact ht⟩
  have hne : g ≠ gc' := other_type hh hcg (by decide)
  refine ⟨?_, ⟨by rw [cw_len, Nat.mul_one], .inr ⟨gc', cap', cur, rfl, hbc.1, (Below.heap_setCell _ _ _ _ (fun e => hne e.symm)).trans hcg, hbc.2.1, hbc.2.2.1, by rw [Nat.mul_one]; exact hbc.2.2.2.1, by rw [Nat.mul_one]; exact hbc.2.2.2.2⟩⟩, hB.at_ (Below.heap_setCell _ _ _ _ (fun e => a2 e.symm)) (Below.heap_setCell _ _ _ _ (fun e => a3 e.symm)), h.bg, h.bb, h.bb2, Nat.le_trans h.two h2, h3, hl⟩
  exact heap_setCell_same w' g 1 _ _ _ hh
/-- a place more in the set -/
theorem HeapAt.bit (h : HeapAt w base g gc cap gb gb2 size last L ws) {ws' : List Nat} (hB : BitsAt w' gb gb2 size ws') (hk : ∀ k, k ≠ gb2 → w'.heap[k]? = w.heap[k]?) : HeapAt w' base g gc cap gb gb2 size last L ws' := by
  obtain ⟨a1, a2, a3, a4, a5, a6⟩ := h.apart
  obtain ⟨cur, hg, hb, hn, hm, hs, ht⟩ := h.row
  exact ⟨(hk g a3).trans h.hd, ⟨h.own.1, .inr ⟨gc, cap, cur, rfl, hb, (hk gc a5).trans hg, hn, hm, by omega, by rw [Nat.mul_one]; exact ht⟩⟩, hB, h.bg, h.bb, h.bb2, h.two, h.room, h.lt⟩
end
end Go.Proofs.YtahmljjjdoaahaaDoor.Fl
