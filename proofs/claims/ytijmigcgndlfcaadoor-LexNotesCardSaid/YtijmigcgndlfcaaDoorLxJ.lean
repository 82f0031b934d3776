/-
  The lexer: what a text says behind another is what it says alone.
-/
import Derived.Test.YtijmigcgndlfcaaDoorLxL
namespace Go.Proofs.YtijmigcgndlfcaaDoor.Fl
open Go.RowKit

/-- from d on, s is b -/
structure Tail (s b : ByteArray) (d : Nat) : Prop where
  size : s.size = d + b.size
  drop : ∀ j, (sb s).drop (d + j) = (sb b).drop j
theorem lookB_drop (s : ByteArray) (p : Nat) : lookB s p = (((sb s).drop p).head?.map UInt8.toNat).getD 0 := by
  unfold lookB
  split
  · next h => rw [drop_at h]; rfl
  · next h => rw [List.drop_of_length_le (by rw [sb_len]; omega)]; rfl
theorem Tail.look {s b : ByteArray} {d : Nat} (h : Tail s b d) (j : Nat) : lookB s (d + j) = lookB b j := by
  rw [lookB_drop, lookB_drop, h.drop]
theorem Tail.run {s b : ByteArray} {d : Nat} (h : Tail s b d) (f : Nat → Bool) (j : Nat) : runE f s (d + j) = d + runE f b j := by
  unfold runE
  rw [h.drop, Nat.add_assoc]
theorem Tail.mid {s b : ByteArray} {d : Nat} (h : Tail s b d) (i j : Nat) : midL s (d + i) (d + j) = midL b i j := by
  unfold midL
  rw [List.drop_take, List.drop_take, h.drop, show d + j - (d + i) = j - i by omega]
theorem Tail.named {s b : ByteArray} {d : Nat} (h : Tail s b d) (j : Nat) : namedR s (d + j) = ((namedR b j).1, d + (namedR b j).2) := by
  unfold namedR
  rw [h.run, h.look, Nat.add_assoc, h.look]
  split <;> rfl
theorem Tail.joinW {s b : ByteArray} {d : Nat} (h : Tail s b d) (j : Nat) : joinW s (d + j) = d + joinW b j := by
  obtain ⟨n, hn⟩ : ∃ n, b.size - j = n := ⟨_, rfl⟩
  induction n using Nat.strongRecOn generalizing j with
  | _ n ih =>
    rw [Fl.joinW.eq_def s (d + j), Fl.joinW.eq_def b j, h.look, h.named, h.size]
    by_cases hc : (letterN (lookB b j) = true ∧ (namedR b j).1 = 2) ∧ j < (namedR b j).2 ∧ (namedR b j).2 ≤ b.size
    · rw [dif_pos hc, dif_pos (by refine ⟨hc.1, ?_, ?_⟩ <;> simp only [] <;> omega)]
      exact ih _ (by omega) _ rfl
    · rw [dif_neg hc, dif_neg]
      intro hd
      exact hc ⟨hd.1, by have := hd.2; simp only [] at this; omega, by have := hd.2; simp only [] at this; omega⟩
theorem Tail.joinR {s b : ByteArray} {d : Nat} (h : Tail s b d) (j : Nat) : joinR s (d + j) = d + joinR b j := by
  unfold Fl.joinR
  rw [h.named]
  simp only []
  split
  · rw [h.joinW]
  · rfl
theorem quoA_shift (d : Nat) : ∀ (n : Nat) (l : List UInt8) (p : Nat), l.length ≤ n → quoA (d + p) l = (quoA p l).map (d + ·)
  | _, [], _, _ => rfl
  | _, [c], p, _ => by
    unfold quoA
    split <;> rfl
  | 0, _ :: _ :: _, _, hn => by simp at hn
  | n + 1, c :: e :: l, p, hn => by
    simp only [List.length_cons] at hn
    unfold quoA
    split
    · split
      · exact quoA_shift d n l (p + 2) (by omega)
      · rfl
    · exact quoA_shift d n (e :: l) (p + 1) (by simp only [List.length_cons]; omega)
def shiftS (d : Nat) : Nat ⊕ Nat → Nat ⊕ Nat
  | .inl q => .inl (d + q)
  | .inr q => .inr (d + q)
theorem skipA_shift (d : Nat) : ∀ (l : List UInt8) (m : Option Nat) (p : Nat), skipA (m.map (d + ·)) (d + p) l = shiftS d (skipA m p l)
  | [], m, p => by cases m <;> rfl
  | c :: l, none, p => by
    show skipA none (d + p) (c :: l) = _
    unfold skipA
    simp only []
    split
    · exact skipA_shift d l none (p + 1)
    · split
      · exact skipA_shift d l (some p) (p + 1)
      · rfl
  | c :: l, some b, p => by
    show skipA (some (d + b)) (d + p) (c :: l) = _
    unfold skipA
    simp only []
    split
    · exact skipA_shift d l none (p + 1)
    · exact skipA_shift d l (some b) (p + 1)
theorem Tail.op {s b : ByteArray} {d : Nat} (h : Tail s b d) (j : Nat) : ∀ k, opF s (d + j) k = opF b j k
  | 0 => rfl
  | k + 1 => by
    unfold opF
    rw [show d + j + (k + 1) = d + (j + (k + 1)) by omega, h.mid, h.size, h.op j k]
    have e : (d + (j + (k + 1)) ≤ d + b.size) = (j + (k + 1) ≤ b.size) := propext ⟨fun x => by omega, fun x => by omega⟩
    simp only [e]
def shiftK (d : Nat) : (Nat × List UInt8 × Nat) ⊕ Int → (Nat × List UInt8 × Nat) ⊕ Int
  | .inl (k, t, p) => .inl (k, t, d + p)
  | .inr n => .inr n
theorem Tail.hash {s b : ByteArray} {d : Nat} (h : Tail s b d) (j : Nat) : hashR s (d + j) = shiftK d (hashR b j) := by
  unfold hashR
  rw [show d + j + 1 = d + (j + 1) by omega, show d + j + 2 = d + (j + 2) by omega, h.look, h.drop, quoA_shift d _ _ _ (Nat.le_refl _), h.joinR, h.mid, h.op, show d + (j + 1) + opF b (j + 1) 2 = d + (j + 1 + opF b (j + 1) 2) by omega, h.mid]
  split
  · rfl
  split
  · cases hq : quoA (j + 2) ((sb b).drop (j + 2)) with
    | none => rfl
    | some q =>
      have := quoA_lt _ _ _ _ (Nat.le_refl _) hq
      simp only [Option.map_some]
      rw [show d + q - 1 = d + (q - 1) by omega, h.mid]
      split <;> rfl
  split
  · split <;> rfl
  · split <;> rfl
theorem Tail.mark {s b : ByteArray} {d : Nat} (h : Tail s b d) (j : Nat) : markR s (d + j) = shiftK d (markR b j) := by
  unfold markR
  rw [h.op, show d + j + opF b j 2 = d + (j + opF b j 2) by omega, h.mid, h.look, show d + j + 1 = d + (j + 1) by omega, h.look, show d + j + 2 = d + (j + 2) by omega]
  split
  · rfl
  split
  · rfl
  split
  · rfl
  split <;> rfl
def shiftT (d : Nat) : TokR → TokR
  | .inl (k, t, n, q, p) => .inl (k, t, n, d + q, d + p)
  | .inr (n, q) => .inr (n, d + q)
theorem ofKw_shift (d q : Nat) (r : (Nat × List UInt8 × Nat) ⊕ Int) : ofKw (d + q) (shiftK d r) = shiftT d (ofKw q r) := by
  cases r with
  | inl x => obtain ⟨a, b, c⟩ := x; rfl
  | inr x => rfl
theorem Tail.tokAt {s b : ByteArray} {d : Nat} (h : Tail s b d) (j : Nat) : tokAt s (d + j) = shiftT d (tokAt b j) := by
  unfold Fl.tokAt
  have e : (d + j = s.size) = (j = b.size) := propext ⟨fun x => by have := h.size; omega, fun x => by have := h.size; omega⟩
  have e1 : (d + j + 1 = s.size) = (j + 1 = b.size) := propext ⟨fun x => by have := h.size; omega, fun x => by have := h.size; omega⟩
  simp only [e]
  rw [h.look, h.named, h.run, h.mid, h.hash, h.mark, ofKw_shift, ofKw_shift]
  simp only [e1]
  rw [h.mid, show d + j + 1 = d + (j + 1) by omega, show d + j + 2 = d + (j + 2) by omega, h.look, h.drop, quoA_shift d _ _ _ (Nat.le_refl _)]
  split
  · rfl
  split
  · split <;> rfl
  split
  · split <;> rfl
  split
  · split <;> rfl
  split
  · cases hq : quoA (j + 1) ((sb b).drop (j + 1)) with
    | none => rfl
    | some q =>
      have := quoA_lt _ _ _ _ (Nat.le_refl _) hq
      simp only [Option.map_some]
      rw [show d + q - 1 = d + (q - 1) by omega, h.mid]
      split <;> rfl
  split <;> rfl
theorem Tail.tokR {s b : ByteArray} {d : Nat} (h : Tail s b d) (j : Nat) : tokR s (d + j) = shiftT d (tokR b j) := by
  unfold Fl.tokR
  rw [h.drop, show skipA none (d + j) ((sb b).drop j) = shiftS d (skipA none j ((sb b).drop j)) from skipA_shift d _ none j]
  cases skipA none j ((sb b).drop j) with
  | inl q => exact h.tokAt q
  | inr q => rfl
def atK (d : Nat) (x : Tok) : Tok := (x.1, x.2.1, x.2.2.1, d + x.2.2.2)
def shiftW (d : Nat) : List Tok ⊕ (Int × Nat) → List Tok ⊕ (Int × Nat)
  | .inl l => .inl (l.map (atK d))
  | .inr (n, q) => .inr (n, d + q)
theorem Tail.allW {s b : ByteArray} {d : Nat} (h : Tail s b d) (j : Nat) : allW s (d + j) = shiftW d (allW b j) := by
  obtain ⟨n, hn⟩ : ∃ n, b.size - j = n := ⟨_, rfl⟩
  induction n using Nat.strongRecOn generalizing j with
  | _ n ih =>
    rw [Fl.allW.eq_def s (d + j), Fl.allW.eq_def b j, h.tokR]
    cases Fl.tokR b j with
    | inr e => rfl
    | inl x =>
      obtain ⟨k, t, m, q, p'⟩ := x
      simp only [shiftT]
      by_cases hk : k = 0
      · rw [if_pos hk, if_pos hk]; rfl
      · rw [if_neg hk, if_neg hk]
        by_cases hc : j < p' ∧ p' ≤ b.size
        · rw [dif_pos hc, dif_pos (by have := h.size; omega), ih _ (by omega) _ rfl]
          cases Fl.allW b p' <;> rfl
        · rw [dif_neg hc, dif_neg (by have := h.size; omega)]; rfl
end Go.Proofs.YtijmigcgndlfcaaDoor.Fl
