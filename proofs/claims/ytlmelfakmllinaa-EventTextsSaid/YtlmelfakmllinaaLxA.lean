/-
  The lexer: its reader in memory; a byte ahead, bytes as long as they are such, giving up.
-/
import Derived.Test.YtlmelfakmllinaaPMem
import Derived.Test.YtlmelfakmllinaaChecked
namespace Go.Proofs.Ytlmelfakmllinaa.Fl
open Go.RowKit

theorem lt_of_blk {w : World} {k : Nat} {o : Obj} (h : w.heap[k]? = some o) : k < w.heap.size := by
  rcases Nat.lt_or_ge k w.heap.size with h1 | h1
  · exact h1
  · rw [Array.getElem?_eq_none h1] at h; cases h
/-- what stands in memory beside one block has not changed -/
structure Ov (R : Nat) (w w' : World) : Prop where
  os : w'.os = w.os
  tape : w'.tape = w.tape
  output : w'.output = w.output
  size : w.heap.size ≤ w'.heap.size
  block : ∀ k, k < w.heap.size → k ≠ R → w'.heap[k]? = w.heap[k]?
theorem Ov.refl (R : Nat) (w : World) : Ov R w w := ⟨rfl, rfl, rfl, Nat.le_refl _, fun _ _ _ => rfl⟩
theorem Ov.trans {R : Nat} {w w1 w2 : World} (h : Ov R w w1) (k : Ov R w1 w2) : Ov R w w2 :=
  ⟨k.os.trans h.os, k.tape.trans h.tape, k.output.trans h.output, Nat.le_trans h.size k.size, fun j hj hn => (k.block j (Nat.lt_of_lt_of_le hj h.size) hn).trans (h.block j hj hn)⟩
theorem Ov.of_below {R : Nat} {w w' : World} (h : Below w.heap.size w w') : Ov R w w' := ⟨h.os, h.tape, h.output, h.size, fun k hk _ => h.block k hk⟩
theorem Ov.set {R : Nat} (w : World) (k : Nat) (v : Value) : Ov R w (w.setCell ⟨R, k, none⟩ v) :=
  ⟨rfl, rfl, rfl, Nat.le_of_eq (by simp [World.setCell]), fun j _ hn => Below.heap_setCell _ _ _ _ hn⟩
theorem Ov.below {R B : Nat} {w w' : World} (h : Ov R w w') (hB : B ≤ w.heap.size) (hR : B ≤ R) : Below B w w' :=
  ⟨h.os, h.tape, h.output, h.size, fun k hk => h.block k (by omega) (by omega)⟩
abbrev sb (s : ByteArray) : List UInt8 := s.data.toList
theorem sb_len (s : ByteArray) : (sb s).length = s.size := by simp [sb]
theorem sb_extract (s : ByteArray) (a b : Nat) : sb (s.extract a b) = ((sb s).take b).drop a := by
  simp [sb, List.extract_eq_drop_take']
theorem sb_tail (s : ByteArray) (a : Nat) : sb (s.extract a s.size) = (sb s).drop a := by
  rw [sb_extract, List.take_of_length_le (by rw [sb_len]; exact Nat.le_refl _)]
/-- the byte at a place; 0 behind the end -/
def lookB (s : ByteArray) (p : Nat) : Nat := if h : p < s.size then s[p].toNat else 0
def blankN (c : Nat) : Bool := c == 32 || c == 9 || c == 10 || c == 13
def letterN (c : Nat) : Bool := (decide (97 ≤ c) && decide (c ≤ 122)) || (decide (65 ≤ c) && decide (c ≤ 90))
def digitN (c : Nat) : Bool := decide (48 ≤ c) && decide (c ≤ 57)
def partN (c : Nat) : Bool := letterN c || digitN c
/-- the place behind bytes that are such -/
def runE (f : Nat → Bool) (s : ByteArray) (p : Nat) : Nat := p + (((sb s).drop p).takeWhile fun c => f c.toNat).length
theorem runE_step {f : Nat → Bool} {s : ByteArray} {p : Nat} (h : p < s.size) (hf : f s[p].toNat = true) : runE f s p = runE f s (p + 1) := by
  unfold runE
  have : (sb s).drop p = s[p] :: (sb s).drop (p + 1) := by
    rw [List.drop_eq_getElem_cons (by rw [sb_len]; exact h)]; rfl
  rw [this, List.takeWhile_cons, if_pos hf, List.length_cons]; omega
theorem runE_stop {f : Nat → Bool} {s : ByteArray} {p : Nat} (h : p < s.size) (hf : f s[p].toNat = false) : runE f s p = p := by
  unfold runE
  have : (sb s).drop p = s[p] :: (sb s).drop (p + 1) := by
    rw [List.drop_eq_getElem_cons (by rw [sb_len]; exact h)]; rfl
  rw [this, List.takeWhile_cons, if_neg (by rw [hf]; simp)]; rfl
theorem runE_end {f : Nat → Bool} {s : ByteArray} : runE f s s.size = s.size := by
  unfold runE
  rw [List.drop_of_length_le (by rw [sb_len]; exact Nat.le_refl _)]; rfl
theorem runE_le {f : Nat → Bool} {s : ByteArray} {p : Nat} (h : p ≤ s.size) : p ≤ runE f s p ∧ runE f s p ≤ s.size := by
  unfold runE
  have h1 := (List.takeWhile_sublist (fun c : UInt8 => f c.toNat) (l := (sb s).drop p)).length_le
  rw [List.length_drop, sb_len] at h1
  omega
/-- where the reader is -/
def atOf (R : Nat) (w : World) : Nat := match w.cell? ⟨R, 1, none⟩ with
  | some (.int _ z) => z.toNat
  | _ => 0
end Go.Proofs.Ytlmelfakmllinaa.Fl
