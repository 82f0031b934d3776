/-
  Memory as cells: what turns it: its row grows, a cell, a row of cells, a place more in the set.
-/
import Derived.Test.YthklbpcpmmpfmaaHeapC
import Derived.Laws.CopyOwn
namespace Go.Proofs.Ythklbpcpmmpfmaa.Fl
open Go.RowKit

/-- nothing but these three blocks has changed of what was there -/
structure Aside (g gc gb2 : Nat) (w w' : World) : Prop where
  os : w'.os = w.os
  tape : w'.tape = w.tape
  output : w'.output = w.output
  size : w.heap.size ≤ w'.heap.size
  block : ∀ k, k < w.heap.size → k ≠ g → k ≠ gc → k ≠ gb2 → w'.heap[k]? = w.heap[k]?
theorem Aside.refl (g gc gb2 : Nat) (w : World) : Aside g gc gb2 w w := ⟨rfl, rfl, rfl, Nat.le_refl _, fun _ _ _ _ _ => rfl⟩
theorem Aside.trans {g gc gb2 gc' : Nat} {w w1 w2 : World} (h : Aside g gc gb2 w w1) (k : Aside g gc' gb2 w1 w2) (hc : gc' = gc ∨ w.heap.size ≤ gc') : Aside g gc gb2 w w2 :=
  ⟨k.os.trans h.os, k.tape.trans h.tape, k.output.trans h.output, Nat.le_trans h.size k.size, fun i hi h1 h2 h3 =>
    (k.block i (Nat.lt_of_lt_of_le hi h.size) h1 (by rcases hc with rfl | hc; exact h2; omega) h3).trans (h.block i hi h1 h2 h3)⟩
theorem Aside.of_below {g gc gb2 : Nat} {w w' : World} (h : Below w.heap.size w w') : Aside g gc gb2 w w' := ⟨h.os, h.tape, h.output, h.size, fun k hk _ _ _ => h.block k hk⟩
theorem Aside.below {g gc gb2 B : Nat} {w w' : World} (h : Aside g gc gb2 w w') (hB : B ≤ w.heap.size) (h1 : B ≤ g) (h2 : B ≤ gc) (h3 : B ≤ gb2) : Below B w w' :=
  ⟨h.os, h.tape, h.output, h.size, fun k hk => h.block k (by omega) (by omega) (by omega) (by omega)⟩
theorem Aside.of_grown {g gc gb2 : Nat} {w w' : World} (h : w.grownBy w' (some gc)) : Aside g gc gb2 w w' :=
  ⟨h.os, h.tape, h.output, h.size, fun k hk _ h2 _ => h.block k hk (by simpa using h2)⟩
theorem Aside.set_g {g gc gb2 : Nat} (w : World) (k : Nat) (v : Value) : Aside g gc gb2 w (w.setCell ⟨g, k, none⟩ v) :=
  ⟨rfl, rfl, rfl, by simp [World.setCell], fun i _ h1 _ _ => Below.heap_setCell _ _ _ i h1⟩
theorem Aside.set_c {g gc gb2 : Nat} (w : World) (k : Nat) (v : Value) : Aside g gc gb2 w (w.setCell ⟨gc, k, none⟩ v) :=
  ⟨rfl, rfl, rfl, by simp [World.setCell], fun i _ _ h2 _ => Below.heap_setCell _ _ _ i h2⟩
theorem Aside.row {g gc gb2 : Nat} (w : World) (cs : Array Value) : Aside g gc gb2 w (w.setRow gc cs) :=
  ⟨rfl, rfl, rfl, by simp [World.setRow], fun i _ _ h2 _ => setRow_other w gc i cs h2⟩
section
variable {w w' : World} {base g gc cap gb gb2 size last : Nat} {L ws : List Nat}
theorem HeapAt.drew (h : HeapAt w base g gc cap gb gb2 size last L ws) : HeapAt w.drew base g gc cap gb gb2 size last L ws := h.at_ rfl rfl rfl rfl
/-- one cell of it -/
theorem HeapAt.put (h : HeapAt w base g gc cap gb gb2 size last L ws) (k x : Nat) (hx : x < 18446744073709551616) : HeapAt (w.setCell ⟨gc, k, none⟩ (.int .u64 (x : Int))) base g gc cap gb gb2 size last (L.set k x) ws := by
  obtain ⟨a1, a2, a3, a4, a5, a6⟩ := h.apart
  refine ⟨?_, ?_, h.bits.at_ (Below.heap_setCell _ _ _ _ (fun e => a4 e.symm)) (Below.heap_setCell _ _ _ _ (fun e => a5 e.symm)), h.bg, h.bb, h.bb2, by rw [List.length_set]; exact h.two, by rw [List.length_set]; exact h.room, fun y hy => ?_⟩
  · rw [List.length_set]; exact (Below.heap_setCell _ _ _ _ a1).trans h.hd
  · have := (World.ownsRow.stored h.own k (.int .u64 (x : Int))).1
    unfold OwnH
    rw [List.length_set]
    have e : cw (L.set k x) = (cw L).set k (.int .u64 (x : Int)) := by unfold cw; rw [List.map_set]
    rw [e]; exact this
  · rcases List.mem_or_eq_of_mem_set hy with h1 | rfl
    · exact h.lt y h1
    · exact hx
/-- cells of it, from a place on -/
theorem HeapAt.splice (h : HeapAt w base g gc cap gb gb2 size last L ws) {cur : Array Value} (hcur : w.heap[gc]? = some (.cells cur 28 (0, 0))) (off : Nat) (ys : List Nat) (hoff : off + ys.length ≤ L.length) (hy : ∀ x ∈ ys, x < 18446744073709551616) :
    HeapAt (w.setRow gc (cur.toList.take off ++ (cw ys ++ cur.toList.drop (off + (cw ys).length))).toArray) base g gc cap gb gb2 size last (L.take off ++ (ys ++ L.drop (off + ys.length))) ws := by
  obtain ⟨a1, a2, a3, a4, a5, a6⟩ := h.apart
  have hlen : (L.take off ++ (ys ++ L.drop (off + ys.length))).length = L.length := by simp; omega
  obtain ⟨cur', hg, hb, hn, hm, hs, ht⟩ := h.row
  rw [hcur] at hg
  injection hg with hg
  injection hg with hg _ _
  subst hg
  refine ⟨?_, ⟨?_, .inr ⟨gc, cap, _, ?_, hb, setRow_heap w gc cur _ 28 _ hcur, by rw [hlen]; exact hn, hm, ?_, ?_⟩⟩, h.bits.at_ (setRow_other _ _ _ _ (fun e => a4 e.symm)) (setRow_other _ _ _ _ (fun e => a5 e.symm)), h.bg, h.bb, h.bb2, by rw [hlen]; exact h.two, by rw [hlen]; exact h.room, fun y hy' => ?_⟩
  · rw [hlen]; exact (setRow_other _ _ _ _ a1).trans h.hd
  · rw [cw_len, Nat.mul_one]
  · rw [hlen]
  · simp [cw_len]; omega
  · rw [Nat.mul_one, hlen]
    apply List.ext_getElem?
    intro i
    have hti : ∀ j, j < L.length → cur.toList[j]? = (cw L)[j]? := by
      intro j hj
      rw [← ht, List.getElem?_take, if_pos hj]
    rw [List.getElem?_take]
    have e : cw (L.take off ++ (ys ++ L.drop (off + ys.length))) = (cw L).take off ++ (cw ys ++ (cw L).drop (off + ys.length)) := by simp [cw]
    rw [e]
    by_cases hi : i < L.length
    · rw [if_pos hi]
      have hcl : (cw L).length = L.length := cw_len L
      have hcy : (cw ys).length = ys.length := cw_len ys
      have hct : (cur.toList.take off).length = off := by rw [List.length_take]; simp; omega
      have hwt : ((cw L).take off).length = off := by rw [List.length_take]; omega
      simp only [List.getElem?_append, hct, hwt]
      by_cases h1 : i < off
      · rw [if_pos h1, if_pos h1, List.getElem?_take, List.getElem?_take, if_pos h1, if_pos h1, hti i hi]
      · rw [if_neg h1, if_neg h1]
        by_cases h2 : i - off < (cw ys).length
        · rw [if_pos h2, if_pos h2]
        · rw [if_neg h2, if_neg h2, List.getElem?_drop, List.getElem?_drop, hcy, hti _ (by omega)]
    · rw [if_neg hi]
      symm
      apply List.getElem?_eq_none
      simp [cw_len]; omega
  · simp only [List.mem_append] at hy'
    rcases hy' with h1 | h1 | h1
    · exact h.lt y (List.mem_of_mem_take h1)
    · exact hy y h1
    · exact h.lt y (List.mem_of_mem_drop h1)
/-- its row has grown -/
theorem HeapAt.grown (h : HeapAt w base g gc cap gb gb2 size last L ws) {gc' cap' : Nat} {L' : List Nat} (hg : w.grownBy w' (some gc)) (hO : OwnH w' base (.slice (some ⟨gc', 0, none⟩) L'.length cap') L') (h2 : L.length ≤ L'.length) (h3 : L'.length ≤ size) (hl : ∀ x ∈ L', x < 18446744073709551616) :
    HeapAt (w'.setCell ⟨g, 1, none⟩ (.slice (some ⟨gc', 0, none⟩) L'.length cap')) base g gc' cap' gb gb2 size last L' ws := by
  obtain ⟨a1, a2, a3, a4, a5, a6⟩ := h.apart
  obtain ⟨l1, l2, l3, l4⟩ := h.gl
  have hh := (hg.block g l1 (by simpa using a1)).trans h.hd
  have hB := h.bits.at_ (hg.block gb l3 (by simpa using fun e => a4 e.symm)) (hg.block gb2 l4 (by simpa using fun e => a5 e.symm))
  obtain ⟨cur, hcg, hbc⟩ : ∃ cur : Array Value, w'.heap[gc']? = some (.cells cur 28 (0, 0)) ∧ (base ≤ gc' ∧ L'.length ≤ cap' ∧ cap' ≤ maxLen ∧ cur.size = cap' ∧ cur.toList.take L'.length = cw L') := by
    rcases hO.2 with ⟨e, _⟩ | ⟨g', cap', cur, e, hb, hg, hn, hm, hs, ht⟩
    · cases e
    · injection e with e1 _ e3
      injection e1 with e1
      injection e1 with e1
      subst e1 e3
      exact ⟨cur, hg, hb, hn, hm, by omega, by rw [Nat.mul_one] at ht; exact ht⟩
  have hne : g ≠ gc' := other_type hh hcg (by decide)
  refine ⟨?_, ⟨by rw [cw_len, Nat.mul_one], .inr ⟨gc', cap', cur, rfl, hbc.1, (Below.heap_setCell _ _ _ _ (fun e => hne e.symm)).trans hcg, hbc.2.1, hbc.2.2.1, by rw [Nat.mul_one]; exact hbc.2.2.2.1, by rw [Nat.mul_one]; exact hbc.2.2.2.2⟩⟩, hB.at_ (Below.heap_setCell _ _ _ _ (fun e => a2 e.symm)) (Below.heap_setCell _ _ _ _ (fun e => a3 e.symm)), h.bg, h.bb, h.bb2, Nat.le_trans h.two h2, h3, hl⟩
  exact heap_setCell_same w' g 1 _ _ _ hh
/-- a place more in the set -/
theorem HeapAt.bit (h : HeapAt w base g gc cap gb gb2 size last L ws) {ws' : List Nat} (hB : BitsAt w' gb gb2 size ws') (hk : ∀ k, k ≠ gb2 → w'.heap[k]? = w.heap[k]?) : HeapAt w' base g gc cap gb gb2 size last L ws' := by
  obtain ⟨a1, a2, a3, a4, a5, a6⟩ := h.apart
  obtain ⟨cur, hg, hb, hn, hm, hs, ht⟩ := h.row
  exact ⟨(hk g a3).trans h.hd, ⟨h.own.1, .inr ⟨gc, cap, cur, rfl, hb, (hk gc a5).trans hg, hn, hm, by omega, by rw [Nat.mul_one]; exact ht⟩⟩, hB, h.bg, h.bb, h.bb2, h.two, h.room, h.lt⟩
end
end Go.Proofs.Ythklbpcpmmpfmaa.Fl
