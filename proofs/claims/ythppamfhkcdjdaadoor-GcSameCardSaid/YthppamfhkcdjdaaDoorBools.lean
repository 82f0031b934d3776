/-
  Lists of truths in memory of the call's own; sets as lists of truths; counting.
-/
import Derived.Test.YthppamfhkcdjdaaDoorPPut
namespace Go.Proofs.YthppamfhkcdjdaaDoor.Fl
open Go.RowKit

def bl (l : List Bool) : List Value := l.map Value.bool
theorem bl_len (l : List Bool) : (bl l).length = l.length := by simp [bl]
/-- a block of truths -/
def LAt (w : World) (G : Nat) (l : List Bool) : Prop := w.heap[G]? = some (.cells (bl l).toArray 4 (0, 0))
theorem LAt.cell {w : World} {G : Nat} {l : List Bool} (h : LAt w G l) {k : Nat} (hk : k < l.length) : w.cell? ⟨G, k, none⟩ = some (.bool l[k]) := by
  rw [cell_of_row _ G k _ _ _ h]; simp [bl, hk]
theorem LAt.free {w : World} {G : Nat} {l : List Bool} (h : LAt w G l) (k : Nat) : w.frozen? ⟨G, k, none⟩ = false := frozen_of_row _ _ _ _ _ h
theorem LAt.at_ {w w' : World} {G : Nat} {l : List Bool} (h : LAt w G l) (e : w'.heap[G]? = w.heap[G]?) : LAt w' G l := e.trans h
theorem LAt.lt {w : World} {G : Nat} {l : List Bool} (h : LAt w G l) : G < w.heap.size := by
  rcases Nat.lt_or_ge G w.heap.size with h1 | h1
  · exact h1
  · unfold LAt at h; rw [Array.getElem?_eq_none h1] at h; cases h
theorem LAt.set {w : World} {G : Nat} {l : List Bool} (h : LAt w G l) (k : Nat) (b : Bool) : LAt (w.setCell ⟨G, k, none⟩ (.bool b)) G (l.set k b) := by
  unfold LAt at h ⊢
  simp [World.setCell, Array.getElem?_modify, h]
  simp [bl, List.map_set]
theorem boolinfo : (Tryd.prog.info? 4).map (fun i => (i.zero, i.size, i.bytes)) = some (some (.bool false), 1, 1) := by kernel_rfl
theorem made_bools (m : Nat) : madeCells #[Value.bool false] m = (bl (List.replicate m false)).toArray := by
  apply Array.ext
  · rw [size_madeCells]; simp [bl]
  · intro i h1 h2
    simp [madeCells, bl, Nat.mod_one]
theorem make_bools (N : Nat) (h : N ≤ 16777216) (w : World) :
    (Instr.makeSlice 92 (.int .i64 (N : Int)) (.int .i64 (N : Int))).run Tryd.prog w = .ok (.slice (some ⟨w.heap.size, 0, none⟩) N N) (w.alloc (.cells (bl (List.replicate N false)).toArray 4)) := by
  have hmk := run_make_row' (P := Tryd.prog) 92 4 (.bool false) 1 Tryd.underlying92 boolinfo rfl .i64 .i64 N (by omega) (by omega) w
  rw [hmk, made_bools]

/-- a set's truths -/
def inl (ws : List Nat) (N : Nat) : List Bool := (List.range N).map (bitAt ws)
theorem inl_len (ws : List Nat) (N : Nat) : (inl ws N).length = N := by simp [inl]
theorem inl_at (ws : List Nat) {N k : Nat} (h : k < N) : (inl ws N)[k]'(by rw [inl_len]; exact h) = bitAt ws k := by simp [inl]
theorem inl_zero (m N : Nat) : inl (List.replicate m 0) N = List.replicate N false := by
  apply List.ext_getElem (by simp [inl])
  intro i h1 h2
  simp [inl, bitAt_zero]
theorem inl_flip {ws : List Nat} {N i : Nat} (hi : i / 64 < ws.length) (h : bitAt ws i = false) : (inl ws N).set i true = inl (flip ws i) N := by
  apply List.ext_getElem (by simp [inl])
  intro k h1 h2
  have hk : k < N := by simpa [inl] using h2
  rw [List.getElem_set, inl_at _ hk, inl_at _ hk, bitAt_flip hi]
  by_cases e : k = i
  · subst e; simp [h]
  · rw [if_neg (fun h => e h.symm), if_neg e]
theorem inl_flip_off {ws : List Nat} {N i : Nat} (hi : i / 64 < ws.length) (h : bitAt ws i = true) : (inl ws N).set i false = inl (flip ws i) N := by
  apply List.ext_getElem (by simp [inl])
  intro k h1 h2
  have hk : k < N := by simpa [inl] using h2
  rw [List.getElem_set, inl_at _ hk, inl_at _ hk, bitAt_flip hi]
  by_cases e : k = i
  · subst e; simp [h]
  · rw [if_neg (fun h => e h.symm), if_neg e]
theorem cnt_flip {ws : List Nat} {i N : Nat} (hi : i / 64 < ws.length) (h : bitAt ws i = false) (hN : i < N) : cnt (bitAt (flip ws i)) N = cnt (bitAt ws) N + 1 := by
  obtain ⟨m, rfl⟩ : ∃ m, N = i + (1 + m) := ⟨N - i - 1, by omega⟩
  have a1 := cnt_add (bitAt (flip ws i)) i (1 + m)
  have a2 := cnt_add (fun j => bitAt (flip ws i) (i + j)) 1 m
  have a3 := cnt_add (bitAt ws) i (1 + m)
  have a4 := cnt_add (fun j => bitAt ws (i + j)) 1 m
  have e1 : cnt (bitAt (flip ws i)) i = cnt (bitAt ws) i := cnt_congr i fun j hj => by rw [bitAt_flip hi, if_neg (by omega)]
  have e2 : cnt (fun j => bitAt (flip ws i) (i + j)) 1 = 1 := by
    rw [show (1 : Nat) = 0 + 1 from rfl, cnt_front]
    simp only [Nat.add_zero, bitAt_flip hi, if_pos, h, cnt_zero]; rfl
  have e3 : cnt (fun j => bitAt ws (i + j)) 1 = 0 := by
    rw [show (1 : Nat) = 0 + 1 from rfl, cnt_front]
    simp only [Nat.add_zero, h, cnt_zero]; rfl
  have e4 : cnt (fun j => bitAt (flip ws i) (i + (1 + j))) m = cnt (fun j => bitAt ws (i + (1 + j))) m := cnt_congr m fun j hj => by rw [bitAt_flip hi, if_neg (by omega)]
  rw [a1, a2, a3, a4, e1, e2, e3, e4]; omega
theorem cnt_skip {f : Nat → Bool} {a b : Nat} (hab : a ≤ b) (h : ∀ j, a ≤ j → j < b → f j = false) : cnt f b = cnt f a := by
  obtain ⟨m, rfl⟩ : ∃ m, b = a + m := ⟨b - a, by omega⟩
  rw [cnt_add, cnt_congr (g := fun _ => false) m (fun j hj => h _ (by omega) (by omega)), cnt_none]; rfl
theorem cnt_zero_iff {f : Nat → Bool} {n : Nat} : cnt f n = 0 ↔ ∀ j, j < n → f j = false := by
  constructor
  · intro h j hj
    induction n with
    | zero => omega
    | succ n ih =>
      rw [show n + 1 = n + (0 + 1) from rfl, cnt_add, cnt_front, cnt_zero] at h
      simp only [Nat.add_zero] at h
      by_cases e : j = n
      · subst e
        cases hf : f j with
        | false => rfl
        | true => rw [hf] at h; simp at h
      · exact ih (by omega) (by omega)
  · intro h
    rw [cnt_congr (g := fun _ => false) n h, cnt_none]
theorem cnt_succ (f : Nat → Bool) (n : Nat) (h : f n = true) : cnt f (n + 1) = cnt f n + 1 := by
  rw [show n + 1 = n + (0 + 1) from rfl, cnt_add, cnt_front, cnt_zero]
  simp [h]
end Go.Proofs.YthppamfhkcdjdaaDoor.Fl
