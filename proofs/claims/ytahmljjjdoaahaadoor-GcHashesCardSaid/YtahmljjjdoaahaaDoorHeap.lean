/-
  Memory as cells: what a heap is in the program's memory; New, and how much there is.
-/
import Derived.Test.YtahmljjjdoaahaaDoorHeadC
import Derived.Test.YtahmljjjdoaahaaDoorPMem
import Derived.Test.YtahmljjjdoaahaaDoorPPut
import Derived.Deep.RegionWith
namespace Go.Proofs.YtahmljjjdoaahaaDoor.Fl
open Go.RowKit

/-- words in memory of the heap's own -/
def OwnH (w : World) (base : Nat) (v : Value) (L : List Nat) : Prop := w.ownsRow base 38 1 v L.length (cw L)
structure HeapAt (w : World) (base g gc cap gb gb2 size last : Nat) (L ws : List Nat) : Prop where
  hd : w.heap[g]? = some (.cells #[.int .i64 (size : Int), .slice (some ⟨gc, 0, none⟩) L.length cap, .pointer (some ⟨gb, 0, none⟩), .int .u32 (last : Int)] 74 (0, 0))
  own : OwnH w base (.slice (some ⟨gc, 0, none⟩) L.length cap) L
  bits : BitsAt w gb gb2 size ws
  bg : base ≤ g
  bb : base ≤ gb
  bb2 : base ≤ gb2
  two : 2 ≤ L.length
  room : L.length ≤ size
  lt : ∀ x ∈ L, x < 18446744073709551616
section
variable {w w' : World} {base g gc cap gb gb2 size last : Nat} {L ws : List Nat}
theorem HeapAt.small (h : HeapAt w base g gc cap gb gb2 size last L ws) : size ≤ 16777216 := h.bits.small
theorem HeapAt.row (h : HeapAt w base g gc cap gb gb2 size last L ws) : ∃ cur : Array Value, w.heap[gc]? = some (.cells cur 38 (0, 0)) ∧ base ≤ gc ∧ L.length ≤ cap ∧ cap ≤ maxLen ∧ cur.size = cap ∧ cur.toList.take L.length = cw L := by
  rcases h.own.2 with ⟨e, _⟩ | ⟨g', cap', cur, e, hb, hg, hn, hm, hs, ht⟩
  · cases e
  · injection e with e1 _ e3
    injection e1 with e1
    injection e1 with e1
    subst e1 e3
    exact ⟨cur, hg, hb, hn, hm, by omega, by rw [Nat.mul_one] at ht; exact ht⟩
theorem HeapAt.c0 (h : HeapAt w base g gc cap gb gb2 size last L ws) : w.cell? ⟨g, 0, none⟩ = some (.int .i64 (size : Int)) := cell_of_row _ _ _ _ _ _ h.hd
theorem HeapAt.c1 (h : HeapAt w base g gc cap gb gb2 size last L ws) : w.cell? ⟨g, 1, none⟩ = some (.slice (some ⟨gc, 0, none⟩) L.length cap) := cell_of_row _ _ _ _ _ _ h.hd
theorem HeapAt.c2 (h : HeapAt w base g gc cap gb gb2 size last L ws) : w.cell? ⟨g, 2, none⟩ = some (.pointer (some ⟨gb, 0, none⟩)) := cell_of_row _ _ _ _ _ _ h.hd
theorem HeapAt.c3 (h : HeapAt w base g gc cap gb gb2 size last L ws) : w.cell? ⟨g, 3, none⟩ = some (.int .u32 (last : Int)) := cell_of_row _ _ _ _ _ _ h.hd
theorem HeapAt.free (h : HeapAt w base g gc cap gb gb2 size last L ws) (k : Nat) : w.frozen? ⟨g, k, none⟩ = false := frozen_of_row _ _ _ _ _ h.hd
theorem HeapAt.cell (h : HeapAt w base g gc cap gb gb2 size last L ws) {k : Nat} (hk : k < L.length) : w.cell? ⟨gc, k, none⟩ = some (.int .u64 (L[k] : Int)) := by
  obtain ⟨cur, hg, _, _, _, _, ht⟩ := h.row
  rw [cell_of_row _ gc k _ _ _ hg, ← cw_at L k hk, ← ht, List.getElem?_take, if_pos hk]; simp
theorem HeapAt.cfree (h : HeapAt w base g gc cap gb gb2 size last L ws) (k : Nat) : w.frozen? ⟨gc, k, none⟩ = false := by
  obtain ⟨cur, hg, _⟩ := h.row
  exact frozen_of_row _ _ _ _ _ hg
theorem lt_of_block {w : World} {k : Nat} {o : Obj} (h : w.heap[k]? = some o) : k < w.heap.size := by
  rcases Nat.lt_or_ge k w.heap.size with h1 | h1
  · exact h1
  · rw [Array.getElem?_eq_none h1] at h; cases h
theorem HeapAt.gl (h : HeapAt w base g gc cap gb gb2 size last L ws) : g < w.heap.size ∧ gc < w.heap.size ∧ gb < w.heap.size ∧ gb2 < w.heap.size := by
  obtain ⟨cur, hg, _⟩ := h.row
  exact ⟨lt_of_block h.hd, lt_of_block hg, h.bits.gl, h.bits.gl2⟩
theorem other_type {w : World} {a b : Nat} {c1 c2 : Array Value} {t1 t2 : TypeId} (h1 : w.heap[a]? = some (.cells c1 t1 (0, 0))) (h2 : w.heap[b]? = some (.cells c2 t2 (0, 0))) (ht : t1 ≠ t2) : a ≠ b := by
  rintro rfl
  rw [h1] at h2
  injection h2 with h2
  injection h2 with _ h2 _
  exact ht h2
theorem HeapAt.apart (h : HeapAt w base g gc cap gb gb2 size last L ws) : g ≠ gc ∧ g ≠ gb ∧ g ≠ gb2 ∧ gc ≠ gb ∧ gc ≠ gb2 ∧ gb ≠ gb2 := by
  obtain ⟨cur, hg, _⟩ := h.row
  obtain ⟨c, hb⟩ := h.bits.hd
  obtain ⟨cu, hb2, _⟩ := h.bits.wd
  exact ⟨other_type h.hd hg (by decide), other_type h.hd hb (by decide), other_type h.hd hb2 (by decide), other_type hg hb (by decide), other_type hg hb2 (by decide), other_type hb hb2 (by decide)⟩
theorem HeapAt.at_ (h : HeapAt w base g gc cap gb gb2 size last L ws) (h1 : w'.heap[g]? = w.heap[g]?) (h2 : w'.heap[gc]? = w.heap[gc]?) (h3 : w'.heap[gb]? = w.heap[gb]?) (h4 : w'.heap[gb2]? = w.heap[gb2]?) : HeapAt w' base g gc cap gb gb2 size last L ws := by
  refine ⟨h1.trans h.hd, ?_, h.bits.at_ h3 h4, h.bg, h.bb, h.bb2, h.two, h.room, h.lt⟩
  obtain ⟨cur, hg, hb, hn, hm, hs, ht⟩ := h.row
  exact ⟨h.own.1, .inr ⟨gc, cap, cur, rfl, hb, h2.trans hg, hn, hm, by omega, by rw [Nat.mul_one]; exact ht⟩⟩
theorem HeapAt.below (h : HeapAt w base g gc cap gb gb2 size last L ws) (hb : Below w.heap.size w w') : HeapAt w' base g gc cap gb gb2 size last L ws :=
  h.at_ (hb.block _ h.gl.1) (hb.block _ h.gl.2.1) (hb.block _ h.gl.2.2.1) (hb.block _ h.gl.2.2.2)
end
theorem there_any (g : Nat) (w : World) :
    Calls Tryd.prog 25 #[.pointer (some ⟨g, 0, none⟩)] w fun e w' => e = .returned (.pointer (some ⟨g, 0, none⟩)) ∧ w = w' := by
  go_enter Tryd.func25, Tryd.ntmps25
  go_wp2
  go_ret
  exact ⟨rfl, rfl⟩
section
variable {base g gc cap gb gb2 size last : Nat} {L ws : List Nat}
theorem cellsH_any (w : World) (h : HeapAt w base g gc cap gb gb2 size last L ws) :
    Calls Tryd.prog 29 #[.pointer (some ⟨g, 0, none⟩)] w fun e w' => e = .returned (.int .i64 (size : Int)) ∧ w = w' := by
  have c0 := h.c0
  go_enter Tryd.func29, Tryd.ntmps29
  go_wp2_with (go_at_call 25; (with_reducible refine (there_any _ _).mono ?_); rintro e w' ⟨rfl, rfl⟩)
  go_ret
  exact ⟨rfl, rfl⟩
theorem used_any (w : World) (h : HeapAt w base g gc cap gb gb2 size last L ws) :
    Calls Tryd.prog 14 #[.pointer (some ⟨g, 0, none⟩)] w fun e w' => e = .returned (.int .i64 (L.length : Int)) ∧ w = w' := by
  have c1 := h.c1
  go_enter Tryd.func14, Tryd.ntmps14
  go_wp2_with (go_at_call 25; (with_reducible refine (there_any _ _).mono ?_); rintro e w' ⟨rfl, rfl⟩)
  go_ret
  exact ⟨rfl, rfl⟩
theorem free_any (w : World) (h : HeapAt w base g gc cap gb gb2 size last L ws) :
    Calls Tryd.prog 36 #[.pointer (some ⟨g, 0, none⟩)] w fun e w' => e = .returned (.int .i64 ((size - L.length : Nat) : Int)) ∧ w = w' := by
  have h1 := h.room
  have h2 := h.small
  have HE := Lib.hid (show (size : Int) - (L.length : Int) = ((size - L.length : Nat) : Int) by omega)
  go_enter Tryd.func36, Tryd.ntmps36
  go_wp2_with (first
    | (go_at_call 29; (with_reducible refine (cellsH_any _ h).mono ?_); rintro e w' ⟨rfl, rfl⟩)
    | (go_at_call 14; (with_reducible refine (used_any _ h).mono ?_); rintro e w' ⟨rfl, rfl⟩))
  go_ret
  exact ⟨by rw [← HE.out]; rfl, rfl⟩
end
theorem wordinfo : (Tryd.prog.info? 38).map (fun i => (i.zero, i.size, i.bytes)) = some (some (.int .u64 0), 1, 8) := by kernel_rfl
theorem make_two (w : World) : (Instr.makeSlice 44 (.int .i64 2) (.int .i64 2)).run Tryd.prog w = .ok (.slice (some ⟨w.heap.size, 0, none⟩) 2 2) (w.alloc (.cells #[.int .u64 0, .int .u64 0] 38)) := by
  have hmk := run_make_row' (P := Tryd.prog) 44 38 (.int .u64 0) 8 Tryd.underlying44 wordinfo rfl .i64 .i64 2 (by omega) (by omega) w
  rw [made_eq 2] at hmk
  exact hmk
theorem new_bad (n : Int) (w : World) (h : n < 16 ∨ 16777216 < n) :
    Calls Tryd.prog 12 #[.int .i64 n] w fun e w' => e = .returned (.tuple #[.pointer none, .int .i64 2]) ∧ w = w' := by
  rcases h with h | h
  · go_enter Tryd.func12, Tryd.ntmps12
    go_wp2
    go_ret2
    exact ⟨rfl, rfl⟩
  · have h1 : 16 ≤ n := by omega
    go_enter Tryd.func12, Tryd.ntmps12
    go_wp2
    go_ret2
    exact ⟨rfl, rfl⟩
def NewHPost (w : World) (n : Nat) (e : Ending) (w' : World) : Prop := ∃ g gc gb gb2 : Nat, e = .returned (.tuple #[.pointer (some ⟨g, 0, none⟩), .int .i64 0]) ∧ HeapAt w' w.heap.size g gc 2 gb gb2 n 0 [0, 0] (List.replicate ((n + 63) / 64) 0) ∧ Below w.heap.size w w'
theorem heap_mk {w : World} {base gc gb gb2 n G : Nat} (h0 : 16 ≤ n) (hG : w.heap.size = G) (hg : w.heap[gc]? = some (.cells #[.int .u64 0, .int .u64 0] 38 (0, 0))) (hB : BitsAt w gb gb2 n (List.replicate ((n + 63) / 64) 0)) (b1 : base ≤ gc) (b2 : base ≤ gb) (b3 : base ≤ gb2) (b4 : base ≤ w.heap.size) :
    HeapAt (w.alloc (.cells #[.int .i64 (n : Int), .slice (some ⟨gc, 0, none⟩) 2 2, .pointer (some ⟨gb, 0, none⟩), .int .u32 0] 74)) base G gc 2 gb gb2 n 0 [0, 0] (List.replicate ((n + 63) / 64) 0) := by
  subst hG
  refine ⟨heap_alloc_new w _, ⟨rfl, .inr ⟨gc, 2, _, rfl, b1, (heap_alloc_old _ _ (lt_of_block hg)).trans hg, by decide, by unfold maxLen; omega, rfl, rfl⟩⟩, hB.at_ (heap_alloc_old _ _ hB.gl) (heap_alloc_old _ _ hB.gl2), b4, b2, b3, by decide, by simp; omega, ?_⟩
  intro x hx
  simp at hx
  omega
set_option maxHeartbeats 2000000 in
theorem new_ok (n : Nat) (w : World) (h0 : 16 ≤ n) (h1 : n ≤ 16777216) :
    Calls Tryd.prog 12 #[.int .i64 (n : Int)] w (NewHPost w n) := by
  have hmk := make_two
  have hnb := fun w' => newBits_nat n h1 w'
  go_enter Tryd.func12, Tryd.ntmps12
  go_wp2_with fail
  go_region_with ((go_at_call 33; refine (hnb _).mono ?_; rintro e w' ⟨g, g2, rfl, hg, hg2, hB, hb⟩))
  · have HB := Lib.hid hB
    have hs := hb.size
    have hgc := (hb.block w.heap.size (by show w.heap.size < (w.alloc _).heap.size; simp)).trans (by first | exact heap_alloc_new w _ | exact heap_alloc_new w.drew _)
    have hbw : Below w.heap.size w w' := (((Below.refl _ _).drew).alloc (Nat.le_refl _) _).trans (hb.mono (by show w.heap.size ≤ (w.alloc _).heap.size; simp))
    have HG := Lib.hid hgc
    have hsw := hbw.size
    clear hgc hB
    go_wp2_with fail
    go_ret2
    refine ⟨_, _, _, _, rfl, heap_mk h0 rfl HG.out HB.out (Nat.le_refl _) ?_ ?_ hsw, hbw.alloc hsw _⟩
    · have h : (w.alloc (.cells #[.int .u64 0, .int .u64 0] 38)).heap.size ≤ g := hg
      simp at h; omega
    · have h : (w.alloc (.cells #[.int .u64 0, .int .u64 0] 38)).heap.size ≤ g2 := hg2
      simp at h; omega
  · have HB := Lib.hid hB
    have hs := hb.size
    have hbw : Below w.heap.size w w' := ((Below.refl _ _).drew).trans hb
    have hsw := hbw.size
    have HB2 := Lib.hid (HB.out.below ((Below.refl w'.heap.size w').alloc (Nat.le_refl _) (.cells #[.int .u64 0, .int .u64 0] 38)) HB.out.gl HB.out.gl2)
    have HG := Lib.hid (heap_alloc_new w' (.cells #[.int .u64 0, .int .u64 0] 38))
    clear hB HB
    go_wp2_with fail
    go_ret2
    refine ⟨_, _, _, _, rfl, heap_mk h0 (by simp) HG.out HB2.out hsw hg hg2 (by simp; omega), (hbw.alloc hsw _).alloc (by simp; omega) _⟩
end Go.Proofs.YtahmljjjdoaahaaDoor.Fl
