/-
  The lexer: what a text says with a blank behind it is what it says alone.
-/
import Derived.Test.YtijmigcgndlfcaaDoorLxJ
namespace Go.Proofs.YtijmigcgndlfcaaDoor.Fl
open Go.RowKit

theorem quoA_le : ∀ (n : Nat) (l : List UInt8) (p q : Nat), l.length ≤ n → quoA p l = some q → q ≤ p + l.length
  | _, [], p, q, _, h => by cases h
  | _, [c], p, q, _, h => by
    unfold quoA at h
    split at h
    · injection h with h; simp; omega
    · cases h
  | 0, _ :: _ :: _, _, _, hn, _ => by simp at hn
  | n + 1, c :: d :: l, p, q, hn, h => by
    unfold quoA at h
    simp only [List.length_cons] at hn ⊢
    split at h
    · split at h
      · have := quoA_le n l _ _ (by omega) h; omega
      · injection h with h; omega
    · have := quoA_le n (d :: l) _ _ (by simp only [List.length_cons]; omega) h; simp only [List.length_cons] at this; omega
theorem quoA_in {s : ByteArray} {p q : Nat} (hp : p ≤ s.size) (h : quoA p ((sb s).drop p) = some q) : q ≤ s.size := by
  have := quoA_le _ _ _ _ (Nat.le_refl _) h
  rw [List.length_drop, sb_len] at this
  omega
theorem look_in {s : ByteArray} {p : Nat} (h : lookB s p ≠ 0) : p < s.size := by
  rcases Nat.lt_or_ge p s.size with h1 | h1
  · exact h1
  · exact absurd (by unfold lookB; rw [dif_neg (by omega)]) h
theorem hashR_in {s : ByteArray} {q k p : Nat} {t : List UInt8} (hq : q < s.size) (h : hashR s q = .inl (k, t, p)) : p ≤ s.size := by
  unfold hashR at h
  split at h
  · next h0 =>
    simp only [Sum.inl.injEq, Prod.mk.injEq] at h
    have := look_in (s := s) (p := q + 1) (by omega)
    omega
  split at h
  · next h0 =>
    have h1 := look_in (s := s) (p := q + 1) (by omega)
    split at h
    · cases h
    · next x hx =>
      split at h
      · cases h
      · simp only [Sum.inl.injEq, Prod.mk.injEq] at h
        have := quoA_in (by omega) hx
        omega
  split at h
  · split at h
    · cases h
    · simp only [Sum.inl.injEq, Prod.mk.injEq] at h
      have := joinR_le (s := s) (p := q + 1) hq
      omega
  split at h
  · cases h
  · simp only [Sum.inl.injEq, Prod.mk.injEq] at h
    have := opF_le s (q + 1) hq 2
    omega
theorem markR_in {s : ByteArray} {q k p : Nat} {t : List UInt8} (hq : q < s.size) (h : markR s q = .inl (k, t, p)) : p ≤ s.size := by
  unfold markR at h
  split at h
  · simp only [Sum.inl.injEq, Prod.mk.injEq] at h
    have := opF_le s q (Nat.le_of_lt hq) 2
    omega
  split at h
  · simp only [Sum.inl.injEq, Prod.mk.injEq] at h
    omega
  split at h
  · cases h
  split at h
  · simp only [Sum.inl.injEq, Prod.mk.injEq] at h
    omega
  · next h0 =>
    simp only [Sum.inl.injEq, Prod.mk.injEq] at h
    have := look_in (s := s) (p := q + 1) (by omega)
    omega
theorem tokAt_in {s : ByteArray} {q k q0 p : Nat} {t : List UInt8} {n : Int} (hq : q ≤ s.size) (h : tokAt s q = .inl (k, t, n, q0, p)) : p ≤ s.size := by
  unfold tokAt at h
  split at h
  · simp only [Sum.inl.injEq, Prod.mk.injEq] at h
    omega
  split at h
  · split at h
    · cases h
    · simp only [Sum.inl.injEq, Prod.mk.injEq] at h
      have := namedR_le hq
      omega
  split at h
  · split at h
    · simp only [Sum.inl.injEq, Prod.mk.injEq] at h
      have := runE_le (f := digitN) hq
      omega
    · cases h
  split at h
  · split at h
    · cases h
    · simp only [Sum.inl.injEq, Prod.mk.injEq] at h
      omega
  split at h
  · split at h
    · cases h
    · next x hx =>
      split at h
      · cases h
      · simp only [Sum.inl.injEq, Prod.mk.injEq] at h
        have := quoA_in (by omega) hx
        omega
  split at h
  · obtain ⟨h1, _, rfl⟩ := ofKw_inl h
    exact hashR_in (by omega) h1
  · obtain ⟨h1, _, rfl⟩ := ofKw_inl h
    exact markR_in (by omega) h1
theorem tokR_in {s : ByteArray} {p k q p' : Nat} {t : List UInt8} {n : Int} (hp : p ≤ s.size) (h : tokR s p = .inl (k, t, n, q, p')) : p' ≤ s.size := by
  unfold tokR at h
  split at h
  · next x hx =>
    refine tokAt_in ?_ h
    have := skipA_end _ _ _ _ hx
    rw [List.length_drop, sb_len] at this
    omega
  · cases h
/-- s begins with a, and a blank -/
structure Pre (s a : ByteArray) (r : List UInt8) : Prop where
  eq : sb s = sb a ++ 32 :: r
theorem Pre.size {s a : ByteArray} {r : List UInt8} (h : Pre s a r) : s.size = a.size + 1 + r.length := by
  have := congrArg List.length h.eq
  rw [List.length_append, sb_len, sb_len, List.length_cons] at this
  omega
theorem Pre.drop {s a : ByteArray} {r : List UInt8} (h : Pre s a r) {j : Nat} (hj : j ≤ a.size) : (sb s).drop j = (sb a).drop j ++ 32 :: r := by
  rw [h.eq, List.drop_append_of_le_length (by rw [sb_len]; exact hj)]
theorem Pre.look {s a : ByteArray} {r : List UInt8} (h : Pre s a r) {j : Nat} (hj : j < a.size) : lookB s j = lookB a j := by
  rw [lookB_drop, lookB_drop, h.drop (Nat.le_of_lt hj), drop_at hj]
  rfl
theorem Pre.end_ {s a : ByteArray} {r : List UInt8} (h : Pre s a r) : lookB s a.size = 32 := by
  rw [lookB_drop, h.drop (Nat.le_refl _), List.drop_of_length_le (by rw [sb_len]; exact Nat.le_refl _)]
  rfl
theorem look_end (a : ByteArray) : lookB a a.size = 0 := by unfold lookB; rw [dif_neg (Nat.lt_irrefl _)]
theorem Pre.lookF {s a : ByteArray} {r : List UInt8} (h : Pre s a r) {α : Type} (f : Nat → α) (hf : f 32 = f 0) {j : Nat} (hj : j ≤ a.size) : f (lookB s j) = f (lookB a j) := by
  rcases Nat.lt_or_eq_of_le hj with h1 | rfl
  · rw [h.look h1]
  · rw [h.end_, look_end, hf]
theorem Pre.lookE {s a : ByteArray} {r : List UInt8} (h : Pre s a r) (c : Nat) (h1 : 32 ≠ c) (h2 : 0 ≠ c) {j : Nat} (hj : j ≤ a.size) : (lookB s j = c) = (lookB a j = c) :=
  h.lookF (fun x => x = c) (by simp [h1, h2]) hj
theorem Pre.run {s a : ByteArray} {r : List UInt8} (h : Pre s a r) (f : Nat → Bool) (hf : f 32 = false) {j : Nat} (hj : j ≤ a.size) : runE f s j = runE f a j := by
  unfold runE
  rw [h.drop hj]
  congr 2
  generalize (sb a).drop j = l
  induction l with
  | nil => rw [List.nil_append, List.takeWhile_cons, if_neg (by rw [show (32 : UInt8).toNat = 32 from rfl, hf]; simp)]; rfl
  | cons c l ih =>
    rw [List.cons_append, List.takeWhile_cons, List.takeWhile_cons, ih]
theorem Pre.mid {s a : ByteArray} {r : List UInt8} (h : Pre s a r) (i : Nat) {j : Nat} (hj : j ≤ a.size) : midL s i j = midL a i j := by
  unfold midL
  rw [h.eq, List.take_append_of_le_length (by rw [sb_len]; exact hj)]
theorem Pre.named {s a : ByteArray} {r : List UInt8} (h : Pre s a r) {j : Nat} (hj : j ≤ a.size) : namedR s j = namedR a j := by
  have hle := (runE_le (f := partN) hj).2
  unfold namedR
  rw [h.run partN (by decide) hj]
  have e1 := h.lookE 58 (by decide) (by decide) hle
  by_cases hc : lookB a (runE partN a j) = 58
  · have h1 := look_in (s := a) (p := runE partN a j) (by omega)
    have e2 := h.lookE 61 (by decide) (by decide) (show runE partN a j + 1 ≤ a.size from h1)
    simp only [ne_eq, e1, e2]
  · simp only [e1, hc, false_and]
theorem Pre.joinW {s a : ByteArray} {r : List UInt8} (h : Pre s a r) {j : Nat} (hj : j ≤ a.size) : joinW s j = joinW a j := by
  obtain ⟨n, hn⟩ : ∃ n, a.size - j = n := ⟨_, rfl⟩
  induction n using Nat.strongRecOn generalizing j with
  | _ n ih =>
    have hl := h.lookF letterN (by decide) hj
    have hle := namedR_le hj
    rw [Fl.joinW.eq_def s j, Fl.joinW.eq_def a j, hl, h.named hj]
    have hz := h.size
    by_cases hc : (letterN (lookB a j) = true ∧ (namedR a j).1 = 2) ∧ j < (namedR a j).2 ∧ (namedR a j).2 ≤ a.size
    · rw [dif_pos hc, dif_pos ⟨hc.1, hc.2.1, by omega⟩]
      exact ih _ (by omega) hle.2 rfl
    · rw [dif_neg hc, dif_neg]
      exact fun hd => hc ⟨hd.1, hd.2.1, hle.2⟩
theorem Pre.joinR {s a : ByteArray} {r : List UInt8} (h : Pre s a r) {j : Nat} (hj : j ≤ a.size) : joinR s j = joinR a j := by
  unfold Fl.joinR
  rw [h.named hj, h.joinW (namedR_le hj).2]
theorem quoA_pre (r : List UInt8) : ∀ (n : Nat) (l : List UInt8) (p q : Nat), l.length ≤ n → quoA p l = some q → quoA p (l ++ 32 :: r) = some q
  | _, [], p, q, _, h => by cases h
  | _, [c], p, q, _, h => by
    unfold quoA at h
    split at h
    · next hc =>
      show quoA p (c :: 32 :: r) = _
      unfold quoA
      rw [if_pos hc, if_neg (by decide)]
      exact h
    · cases h
  | 0, _ :: _ :: _, _, _, hn, _ => by simp at hn
  | n + 1, c :: d :: l, p, q, hn, h => by
    unfold quoA at h
    simp only [List.length_cons] at hn
    show quoA p (c :: d :: (l ++ 32 :: r)) = _
    unfold quoA
    split at h
    · next hc =>
      rw [if_pos hc]
      split at h
      · next hd => rw [if_pos hd]; exact quoA_pre r n l _ _ (by omega) h
      · next hd => rw [if_neg hd]; exact h
    · next hc =>
      rw [if_neg hc]
      exact quoA_pre r n (d :: l) _ _ (by simp only [List.length_cons]; omega) h
theorem Pre.quo {s a : ByteArray} {r : List UInt8} (h : Pre s a r) {p q : Nat} (hp : p ≤ a.size) (hq : quoA p ((sb a).drop p) = some q) : quoA p ((sb s).drop p) = some q := by
  rw [h.drop hp]
  exact quoA_pre r _ _ _ _ (Nat.le_refl _) hq
theorem isOpL_blank {l : List UInt8} (h : (32 : UInt8) ∈ l) : isOpL l = false := by
  unfold isOpL
  rw [if_neg]
  · rw [beq_eq_false_iff_ne]
    rintro rfl
    simp at h
  · rw [List.all_eq_true]
    intro hc
    exact absurd (hc _ h) (by decide)
theorem Pre.op {s a : ByteArray} {r : List UInt8} (h : Pre s a r) {j : Nat} (hj : j ≤ a.size) : ∀ k, opF s j k = opF a j k
  | 0 => rfl
  | k + 1 => by
    have hz := h.size
    unfold opF
    rw [h.op hj k]
    rcases Nat.lt_or_ge a.size (j + (k + 1)) with h1 | h1
    · rw [if_neg (show ¬(j + (k + 1) ≤ a.size ∧ _) from fun x => by omega), if_neg]
      rintro ⟨h2, h3⟩
      rw [isOpL_blank] at h3
      · cases h3
      · unfold midL
        rw [h.eq, List.take_append, List.take_of_length_le (by rw [sb_len]; omega), sb_len, show j + (k + 1) - a.size = (j + k - a.size) + 1 by omega, List.take_succ_cons, List.drop_append_of_le_length (by rw [sb_len]; exact hj)]
        simp
    · rw [h.mid j h1]
      have e : (j + (k + 1) ≤ s.size) = (j + (k + 1) ≤ a.size) := propext ⟨fun _ => h1, fun _ => by omega⟩
      simp only [e]
end Go.Proofs.YtijmigcgndlfcaaDoor.Fl
