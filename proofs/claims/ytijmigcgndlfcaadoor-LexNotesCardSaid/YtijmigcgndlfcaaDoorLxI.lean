/-
  The lexer: two texts with a blank between.
-/
import Derived.Test.YtijmigcgndlfcaaDoorLxK
namespace Go.Proofs.YtijmigcgndlfcaaDoor.Fl
open Go.RowKit

theorem Pre.hash {s a : ByteArray} {r : List UInt8} (h : Pre s a r) {q : Nat} (hq : q < a.size) {x : Nat × List UInt8 × Nat} (hx : hashR a q = .inl x) : hashR s q = .inl x := by
  have hj := joinR_le (s := a) (p := q + 1) hq
  have ho := opF_le a (q + 1) hq 2
  have e1 := h.lookE 40 (by decide) (by decide) (show q + 1 ≤ a.size from hq)
  have e2 := h.lookE 39 (by decide) (by decide) (show q + 1 ≤ a.size from hq)
  unfold hashR at hx ⊢
  simp only [e1, e2, h.lookF letterN (by decide) (show q + 1 ≤ a.size from hq), h.joinR (show q + 1 ≤ a.size from hq), h.op (show q + 1 ≤ a.size from hq), h.mid (q + 1) hj.2, h.mid (q + 1) ho.1]
  split at hx
  · next h0 => rw [if_pos h0]; exact hx
  next h0 =>
  rw [if_neg h0]
  split at hx
  · next h1 =>
    rw [if_pos h1]
    have hin := look_in (s := a) (p := q + 1) (by omega)
    split at hx
    · cases hx
    · next y hy =>
      rw [h.quo (by omega) hy]
      have hyl := quoA_in (by omega) hy
      simp only []
      rw [h.mid (q + 2) (show y - 1 ≤ a.size by omega)]
      exact hx
  next h1 =>
  rw [if_neg h1]
  exact hx
theorem Pre.mark {s a : ByteArray} {r : List UInt8} (h : Pre s a r) {q : Nat} (hq : q < a.size) : markR s q = markR a q := by
  have ho := opF_le a q (Nat.le_of_lt hq) 2
  have e2 := h.lookE 61 (by decide) (by decide) (show q + 1 ≤ a.size from hq)
  unfold markR
  simp only [ne_eq, e2, h.look hq, h.op (Nat.le_of_lt hq), h.mid q ho.1]
theorem Pre.tokAt {s a : ByteArray} {r : List UInt8} (h : Pre s a r) {q : Nat} (hq : q < a.size) {x : Nat × List UInt8 × Int × Nat × Nat} (hx : tokAt a q = .inl x) : tokAt s q = .inl x := by
  have hz := h.size
  have hn := namedR_le (Nat.le_of_lt hq)
  have hd := runE_le (f := digitN) (Nat.le_of_lt hq)
  unfold Fl.tokAt at hx ⊢
  rw [if_neg (by omega)] at hx
  rw [if_neg (by omega)]
  simp only [h.look hq, h.named (Nat.le_of_lt hq), h.run digitN (by decide) (Nat.le_of_lt hq), h.mid q hn.2, h.mid q hd.2, h.mark hq]
  split at hx
  · next h0 => rw [if_pos h0]; exact hx
  next h0 =>
  rw [if_neg h0]
  split at hx
  · next h1 => rw [if_pos h1]; exact hx
  next h1 =>
  rw [if_neg h1]
  split at hx
  · next h2 =>
    rw [if_pos h2]
    split at hx
    · cases hx
    · next h3 =>
      rw [if_neg (by omega), h.look (by omega)]
      exact hx
  next h2 =>
  rw [if_neg h2]
  split at hx
  · next h3 =>
    rw [if_pos h3]
    split at hx
    · cases hx
    · next y hy =>
      rw [h.quo (by omega) hy]
      have hyl := quoA_in (by omega) hy
      simp only []
      rw [h.mid (q + 1) (show y - 1 ≤ a.size by omega)]
      exact hx
  next h3 =>
  rw [if_neg h3]
  split at hx
  · next h4 =>
    rw [if_pos h4]
    cases hh : hashR a q with
    | inl y => rw [h.hash hq hh, ← hh]; exact hx
    | inr m => rw [hh] at hx; cases hx
  next h4 =>
  rw [if_neg h4]
  exact hx
theorem skipA_pre (r : List UInt8) : ∀ (l : List UInt8) (m : Option Nat) (p q : Nat), skipA m p l = .inl q → skipA m p (l ++ 32 :: r) = if q = p + l.length then skipA none (p + l.length + 1) r else .inl q
  | [], m, p, q, h => by
    unfold skipA at h
    split at h
    · injection h with h
      rw [if_pos (by simp; omega)]
      show skipA none p (32 :: r) = _
      rw [skipA]
      rfl
    · cases h
  | c :: l, none, p, q, h => by
    show skipA none p (c :: (l ++ 32 :: r)) = _
    rw [skipA] at h ⊢
    try simp only [] at h
    try simp only []
    rw [List.length_cons, show p + (l.length + 1) = p + 1 + l.length by omega]
    split at h
    · next h0 => rw [if_pos h0]; exact skipA_pre r l none (p + 1) q h
    · next h0 =>
      rw [if_neg h0]
      split at h
      · next h1 => rw [if_pos h1]; exact skipA_pre r l (some p) (p + 1) q h
      · next h1 =>
        rw [if_neg h1]
        injection h with h
        rw [if_neg (by omega), h]
  | c :: l, some b, p, q, h => by
    show skipA (some b) p (c :: (l ++ 32 :: r)) = _
    rw [skipA] at h ⊢
    try simp only [] at h
    try simp only []
    rw [List.length_cons, show p + (l.length + 1) = p + 1 + l.length by omega]
    split at h
    · next h0 => rw [if_pos h0]; exact skipA_pre r l none (p + 1) q h
    · next h0 => rw [if_neg h0]; exact skipA_pre r l (some b) (p + 1) q h
theorem Pre.behind {s a : ByteArray} {r : List UInt8} (h : Pre s a r) : (sb s).drop (a.size + 1) = r := by
  rw [h.eq, List.drop_append, List.drop_of_length_le (by rw [sb_len]; omega), sb_len, show a.size + 1 - a.size = 1 by omega]
  rfl
theorem Pre.skip {s a : ByteArray} {r : List UInt8} (h : Pre s a r) {p q : Nat} (hp : p ≤ a.size) (hq : skipA none p ((sb a).drop p) = .inl q) : skipA none p ((sb s).drop p) = if q = a.size then skipA none (a.size + 1) ((sb s).drop (a.size + 1)) else .inl q := by
  rw [h.drop hp, skipA_pre r _ _ _ _ hq, List.length_drop, sb_len, show p + (a.size - p) = a.size by omega, h.behind]
/-- a token of the first text -/
theorem Pre.tokR {s a : ByteArray} {r : List UInt8} (h : Pre s a r) {p k q p' : Nat} {t : List UInt8} {n : Int} (hp : p ≤ a.size) (hx : tokR a p = .inl (k, t, n, q, p')) : tokR s p = if k = 0 then Fl.tokR s (a.size + 1) else .inl (k, t, n, q, p') := by
  have hgo := tokR_go hp hx
  unfold Fl.tokR at hx ⊢
  cases hs : skipA none p ((sb a).drop p) with
  | inr b => rw [hs] at hx; cases hx
  | inl q0 =>
    rw [hs] at hx
    simp only [] at hx
    have hq0 : q0 ≤ a.size := by
      have := skipA_end _ _ _ _ hs
      rw [List.length_drop, sb_len] at this
      omega
    obtain ⟨rfl, h2⟩ := tokAt_lt hq0 hx
    rw [h.skip hp hs]
    by_cases hk : k = 0
    · have hqa : q = a.size := by rcases h2 with h2 | h2; exact h2.2.1; exact absurd hk h2.1
      rw [if_pos hk, if_pos hqa]
    · have hqa : q < a.size := by
        rcases h2 with h2 | h2
        · exact absurd h2.1 hk
        · have := tokAt_in hq0 hx; omega
      rw [if_neg hk, if_neg (by omega)]
      exact h.tokAt hqa hx
theorem preW_pre (xs ys : List Tok) (r : List Tok ⊕ (Int × Nat)) : preW xs (preW ys r) = preW (xs ++ ys) r := by
  cases r <;> simp [preW]
theorem preW_nil (r : List Tok ⊕ (Int × Nat)) : preW [] r = r := by cases r <;> rfl
theorem allW_of {s : ByteArray} {p p0 : Nat} (h : p ≤ p0) (hp : p0 ≤ s.size) (ht : Fl.tokR s p = Fl.tokR s p0) : allW s p = allW s p0 := by
  rw [Fl.allW.eq_def s p, Fl.allW.eq_def s p0, ht]
  cases hx : Fl.tokR s p0 with
  | inr e => rfl
  | inl x =>
    obtain ⟨k, t, m, q, p'⟩ := x
    simp only []
    by_cases hk : k = 0
    · rw [if_pos hk, if_pos hk]
    · have h1 := tokR_go hp hx
      have h2 := tokR_in hp hx
      have h3 : p0 < p' := by rcases h1.2 with h3 | h3; exact absurd h3.1 hk; omega
      rw [if_neg hk, if_neg hk, dif_pos (show p < p' ∧ p' ≤ s.size from ⟨by omega, h2⟩), dif_pos ⟨h3, h2⟩]
theorem Pre.allW {s a : ByteArray} {r : List UInt8} (h : Pre s a r) {p : Nat} (hp : p ≤ a.size) {x : List Tok} (hx : allW a p = .inl x) :
    ∃ x' t m, x = x' ++ [(0, t, m, a.size)] ∧ allW s p = preW x' (Fl.allW s (a.size + 1)) := by
  obtain ⟨n, hn⟩ : ∃ n, a.size - p = n := ⟨_, rfl⟩
  induction n using Nat.strongRecOn generalizing p x with
  | _ n ih =>
    have hz := h.size
    cases ht : Fl.tokR a p with
    | inr e => rw [allW_no ht] at hx; cases hx
    | inl y =>
      obtain ⟨k, t, m, q, p'⟩ := y
      have hgo := tokR_go hp ht
      have hin := tokR_in hp ht
      have hs := h.tokR hp ht
      by_cases hk : k = 0
      · subst hk
        rw [allW_end ht] at hx
        injection hx with hx
        have hq : q = a.size := by rcases hgo.2 with h2 | h2; exact h2.2.1; exact absurd rfl h2.1
        rw [if_pos rfl] at hs
        exact ⟨[], t, m, by rw [← hx, hq]; rfl, by rw [preW_nil]; exact allW_of (by omega) (by omega) hs⟩
      · rw [if_neg hk] at hs
        have h1 := allW_go hp hin ht hk []
        have h2 := allW_go (s := s) (by omega) (by omega) hs hk []
        rw [preW_nil, hx] at h1
        rw [preW_nil] at h2
        cases hy : Fl.allW a p' with
        | inr e => rw [hy] at h1; cases h1.2
        | inl l =>
          rw [hy] at h1
          obtain ⟨x', t', m', he, hs'⟩ := ih (a.size - p') (by have := h1.1; omega) hin hy rfl
          have h3 : x = (k, t, m, q) :: l := by
            have := h1.2
            injection this
          exact ⟨(k, t, m, q) :: x', t', m', by rw [h3, he]; rfl, by rw [h2.2, hs', preW_pre]; rfl⟩
/-- two texts with a blank between -/
theorem joins {s a b : ByteArray} (h : sb s = sb a ++ 32 :: sb b) {x : List Tok} (hx : allW a 0 = .inl x) :
    ∃ x' t m, x = x' ++ [(0, t, m, a.size)] ∧ allW s 0 = preW x' (shiftW (a.size + 1) (allW b 0)) := by
  have hP : Pre s a (sb b) := ⟨h⟩
  have hz := hP.size
  rw [sb_len] at hz
  have hT : Tail s b (a.size + 1) := ⟨by omega, fun j => by rw [← List.drop_drop, hP.behind]⟩
  obtain ⟨x', t, m, he, hs⟩ := hP.allW (Nat.zero_le _) hx
  exact ⟨x', t, m, he, by rw [hs, ← hT.allW 0]⟩
end Go.Proofs.YtijmigcgndlfcaaDoor.Fl
