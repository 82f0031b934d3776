/-
  What can be reached: a way through memory, what it is in the program's memory; one word.
-/
import Derived.Test.YtkmlclhkkklmeaaHeapF
namespace Go.Proofs.Ytkmlclhkkklmeaa.Fl
open Go.RowKit

set_option maxHeartbeats 2000000 in
theorem head_yes {base g gc cap gb gb2 size last : Nat} {L ws : List Nat} (i cl kind sz hash : Nat) (mark : Bool) (w : World) (h : HeapAt w base g gc cap gb gb2 size last L ws) (hi : HeadIn L i cl kind sz hash mark) (hb : bitAt ws i = true) (h1 : 1 ≤ i) :
    Calls Try.prog 84 #[.pointer (some ⟨g, 0, none⟩), .int .u64 ((i : Int) * 2)] w fun e w' => e = .returned (.tuple #[.agg #[.int .u64 (cl : Int), .int .i64 (kind : Int), .int .i64 (sz : Int), .int .u32 (hash : Int), .bool mark], .int .i64 0]) ∧ Below w.heap.size w w' := by
  have ho := fun w' (hw' : HeapAt w' base g gc cap gb gb2 size last L ws) => object_yes i cl kind sz hash mark w' hw' hi hb h1
  have HA := Lib.hid (h.below ((Below.refl w.heap.size w).alloc (Nat.le_refl _) (.cells #[.int .u64 0, .int .i64 0, .int .i64 0, .int .u32 0, .bool false] 113)))
  clear h hi hb
  go_enter Try.func84, Try.ntmps84
  go_wp2_with fail
  refine (ho _ HA.out).mono ?_
  rintro e w1 ⟨rfl, hb1⟩
  have s1 := hb1.size
  simp at s1
  have B2 : w1.heap[w.heap.size]? = some (.cells #[.int .u64 0, .int .i64 0, .int .i64 0, .int .u32 0, .bool false] 113 (0, 0)) := by
    rw [hb1.block _ (by simp)]; exact heap_alloc_new w _
  have hbw : Below w.heap.size w w1 := ((Below.refl _ _).alloc (Nat.le_refl _) _).trans (hb1.mono (by simp))
  have l0 : w.heap.size < w1.heap.size := by omega
  have f2 := cells5 B2
  have r2 := fun k => frozen_of_row w1 w.heap.size k _ _ B2
  clear HA ho hb1
  go_wp2_with fail
  have hR := set5 (v := .int .u64 (cl : Int)) (v1 := .int .i64 (kind : Int)) (v2 := .int .i64 (sz : Int)) (v3 := .int .u32 (hash : Int)) (v4 := .bool mark) B2
  have hB : Below w.heap.size w (((((w1.setCell ⟨w.heap.size, 0, none⟩ (.int .u64 (cl : Int))).setCell ⟨w.heap.size, 1, none⟩ (.int .i64 (kind : Int))).setCell ⟨w.heap.size, 2, none⟩ (.int .i64 (sz : Int))).setCell ⟨w.heap.size, 3, none⟩ (.int .u32 (hash : Int))).setCell ⟨w.heap.size, 4, none⟩ (.bool mark)) :=
    ((((hbw.setCell (by simp) _).setCell (by simp) _).setCell (by simp) _).setCell (by simp) _).setCell (by simp) _
  have hl : w.heap.size < (((((w1.setCell ⟨w.heap.size, 0, none⟩ (.int .u64 (cl : Int))).setCell ⟨w.heap.size, 1, none⟩ (.int .i64 (kind : Int))).setCell ⟨w.heap.size, 2, none⟩ (.int .i64 (sz : Int))).setCell ⟨w.heap.size, 3, none⟩ (.int .u32 (hash : Int))).setCell ⟨w.heap.size, 4, none⟩ (.bool mark)).heap.size := by simp [World.setCell]; exact l0
  change (((((w1.setCell ⟨w.heap.size, 0, none⟩ (.int .u64 (cl : Int))).setCell ⟨w.heap.size, 1, none⟩ (.int .i64 (kind : Int))).setCell ⟨w.heap.size, 2, none⟩ (.int .i64 (sz : Int))).setCell ⟨w.heap.size, 3, none⟩ (.int .u32 (hash : Int))).setCell ⟨w.heap.size, 4, none⟩ (.bool mark)).heap[w.heap.size]? = _ at hR
  clear f2 r2
  generalize (((((w1.setCell ⟨w.heap.size, 0, none⟩ (.int .u64 (cl : Int))).setCell ⟨w.heap.size, 1, none⟩ (.int .i64 (kind : Int))).setCell ⟨w.heap.size, 2, none⟩ (.int .i64 (sz : Int))).setCell ⟨w.heap.size, 3, none⟩ (.int .u32 (hash : Int))).setCell ⟨w.heap.size, 4, none⟩ (.bool mark)) = wf at hR hB hl ⊢
  obtain ⟨wz, hwz⟩ : ∃ wz, wf.alloc (.cells #[.int .u64 (cl : Int), .int .i64 (kind : Int), .int .i64 (sz : Int), .int .u32 (hash : Int), .bool mark] 113) = wz := ⟨_, rfl⟩
  have hz := (congrArg (fun z : World => z.heap[w.heap.size]?) hwz.symm).trans ((heap_alloc_old _ _ hl).trans hR)
  have hbz : Below w.heap.size w wz := by rw [← hwz]; exact hB.alloc (by omega) _
  rw [hwz]
  obtain ⟨q0, q1, q2, q3, q4⟩ := cells5 hz
  exact bodyPost_ret (v := .tuple #[.agg #[.int .u64 (cl : Int), .int .i64 (kind : Int), .int .i64 (sz : Int), .int .u32 (hash : Int), .bool mark], .int .i64 0]) (by simp [results, Try.results84, go_sem, q0, q1, q2, q3, q4]) rfl ⟨rfl, hbz⟩

/-- is it a pointer to an object? -/
def isP (ws : List Nat) (x : Nat) : Prop := x % 2 = 0 ∧ 2 ≤ x ∧ x < 33554432 ∧ bitAt ws (x / 2) = true
instance (ws : List Nat) (x : Nat) : Decidable (isP ws x) := by unfold isP; infer_instance
/-- what is found with one word more; none: it is loose -/
def find1 (ws fs : List Nat) (x : Nat) : Option (List Nat) :=
  if x = 0 ∨ x % 2 = 1 then some fs else if isP ws x then (if x ∈ fs then some fs else some (fs ++ [x])) else none
section
variable {w w' : World} {base g gc cap gb gb2 size last LB lk sb sb2 : Nat} {L ws fs : List Nat} {k : Nat}
theorem isP.lt (h : HeapAt w base g gc cap gb gb2 size last L ws) {p : Nat} (hp : isP ws p) : p / 2 < size := by
  rcases Nat.lt_or_ge (p / 2) size with h1 | h1
  · exact h1
  · have := h.bits.top _ h1
    rw [hp.2.2.2] at this; cases this
theorem len_le : ∀ (n : Nat) (l : List Nat), l.Nodup → (∀ x ∈ l, x < n) → l.length ≤ n
  | 0, l, _, h => by
    cases l with
    | nil => exact Nat.le_refl _
    | cons a t => exact absurd (h a (by simp)) (by omega)
  | n + 1, l, hn, h => by
    have := len_le n (l.erase n) (hn.erase n) (fun x hx => by
      have hx := hn.mem_erase_iff.1 hx
      have := h x hx.2
      omega)
    have := List.le_length_erase (l := l) (a := n)
    omega
end
end Go.Proofs.Ytkmlclhkkklmeaa.Fl
