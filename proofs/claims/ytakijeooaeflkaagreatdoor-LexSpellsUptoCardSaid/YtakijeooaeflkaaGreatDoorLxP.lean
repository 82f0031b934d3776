/-
  The lexer: a token goes on.
-/
import Derived.Test.YtakijeooaeflkaaGreatDoorLxY
namespace Go.Proofs.YtakijeooaeflkaaGreatDoor.Fl
open Go.RowKit

theorem skipA_le : ∀ (l : List UInt8) (m : Option Nat) (p q : Nat), skipA m p l = .inl q → p ≤ q
  | [], m, p, q, h => by
    unfold skipA at h
    split at h
    · injection h with h; omega
    · cases h
  | c :: l, m, p, q, h => by
    unfold skipA at h
    split at h
    · split at h
      · have := skipA_le l _ _ _ h; omega
      · split at h
        · have := skipA_le l _ _ _ h; omega
        · injection h with h; omega
    · split at h
      · have := skipA_le l _ _ _ h; omega
      · have := skipA_le l _ _ _ h; omega
theorem quoA_lt : ∀ (n : Nat) (l : List UInt8) (p q : Nat), l.length ≤ n → quoA p l = some q → p < q
  | _, [], p, q, _, h => by cases h
  | _, [c], p, q, _, h => by
    unfold quoA at h
    split at h
    · injection h with h; omega
    · cases h
  | 0, _ :: _ :: _, _, _, hn, _ => by simp at hn
  | n + 1, c :: d :: l, p, q, hn, h => by
    unfold quoA at h
    simp only [List.length_cons] at hn
    split at h
    · split at h
      · have := quoA_lt n l _ _ (by omega) h; omega
      · injection h with h; omega
    · have := quoA_lt n (d :: l) _ _ (by simp only [List.length_cons]; omega) h; omega
theorem namedR_kind (s : ByteArray) (p : Nat) : (namedR s p).1 ≠ 0 := by
  unfold namedR
  split <;> simp
theorem ofKw_inl {q : Nat} {r : (Nat × List UInt8 × Nat) ⊕ Int} {k : Nat} {t : List UInt8} {n : Int} {q0 p : Nat} (h : ofKw q r = .inl (k, t, n, q0, p)) : r = .inl (k, t, p) ∧ n = 0 ∧ q0 = q := by
  cases r with
  | inl x =>
    obtain ⟨a, b, c⟩ := x
    simp only [ofKw, Sum.inl.injEq, Prod.mk.injEq] at h
    obtain ⟨rfl, rfl, rfl, rfl, rfl⟩ := h
    exact ⟨rfl, rfl, rfl⟩
  | inr x => cases h
theorem hashR_lt {s : ByteArray} {q k p : Nat} {t : List UInt8} (hq : q < s.size) (h : hashR s q = .inl (k, t, p)) : k ≠ 0 ∧ q < p := by
  unfold hashR at h
  split at h
  · simp only [Sum.inl.injEq, Prod.mk.injEq] at h
    obtain ⟨rfl, _, rfl⟩ := h
    omega
  split at h
  · split at h
    · cases h
    · next x hx =>
      split at h
      · cases h
      · simp only [Sum.inl.injEq, Prod.mk.injEq] at h
        obtain ⟨rfl, _, rfl⟩ := h
        have := quoA_lt _ _ _ _ (Nat.le_refl _) hx
        omega
  split at h
  · split at h
    · cases h
    · simp only [Sum.inl.injEq, Prod.mk.injEq] at h
      obtain ⟨rfl, _, rfl⟩ := h
      have := joinR_le (s := s) (p := q + 1) hq
      omega
  split at h
  · cases h
  · simp only [Sum.inl.injEq, Prod.mk.injEq] at h
    obtain ⟨rfl, _, rfl⟩ := h
    omega
theorem markR_lt {s : ByteArray} {q k p : Nat} {t : List UInt8} (h : markR s q = .inl (k, t, p)) : k ≠ 0 ∧ q < p := by
  unfold markR at h
  split at h
  · next h0 =>
    simp only [Sum.inl.injEq, Prod.mk.injEq] at h
    obtain ⟨rfl, _, rfl⟩ := h
    omega
  split at h
  · simp only [Sum.inl.injEq, Prod.mk.injEq] at h
    obtain ⟨rfl, _, rfl⟩ := h
    omega
  split at h
  · cases h
  split at h
  · simp only [Sum.inl.injEq, Prod.mk.injEq] at h
    obtain ⟨rfl, _, rfl⟩ := h
    omega
  · simp only [Sum.inl.injEq, Prod.mk.injEq] at h
    obtain ⟨rfl, _, rfl⟩ := h
    omega
theorem digit_run {s : ByteArray} {q : Nat} (h : digitN (lookB s q) = true) : q < runE digitN s q := by
  have hp : q < s.size := by
    rcases Nat.lt_or_ge q s.size with h1 | h1
    · exact h1
    · unfold lookB at h
      rw [dif_neg (by omega)] at h
      exact absurd h (by decide)
  have h2 : digitN s[q].toNat = true := by unfold lookB at h; rwa [dif_pos hp] at h
  rw [runE_step hp h2]
  have := (runE_le (f := digitN) (s := s) (p := q + 1) hp).1
  omega
theorem tokAt_lt {s : ByteArray} {q k q0 p : Nat} {t : List UInt8} {n : Int} (hq : q ≤ s.size) (h : tokAt s q = .inl (k, t, n, q0, p)) : q0 = q ∧ ((k = 0 ∧ q = s.size ∧ p = q) ∨ (k ≠ 0 ∧ q < p)) := by
  unfold tokAt at h
  split at h
  · next he =>
    simp only [Sum.inl.injEq, Prod.mk.injEq] at h
    obtain ⟨rfl, _, _, rfl, rfl⟩ := h
    exact ⟨rfl, .inl ⟨rfl, he, rfl⟩⟩
  next he =>
  split at h
  · next hl =>
    split at h
    · cases h
    · simp only [Sum.inl.injEq, Prod.mk.injEq] at h
      obtain ⟨rfl, _, _, rfl, rfl⟩ := h
      exact ⟨rfl, .inr ⟨namedR_kind _ _, namedR_lt hq hl⟩⟩
  split at h
  · next hd =>
    split at h
    · simp only [Sum.inl.injEq, Prod.mk.injEq] at h
      obtain ⟨rfl, _, _, rfl, rfl⟩ := h
      exact ⟨rfl, .inr ⟨by decide, digit_run hd⟩⟩
    · cases h
  split at h
  · split at h
    · cases h
    · simp only [Sum.inl.injEq, Prod.mk.injEq] at h
      obtain ⟨rfl, _, _, rfl, rfl⟩ := h
      exact ⟨rfl, .inr ⟨by decide, by omega⟩⟩
  split at h
  · split at h
    · cases h
    · next x hx =>
      split at h
      · cases h
      · simp only [Sum.inl.injEq, Prod.mk.injEq] at h
        obtain ⟨rfl, _, _, rfl, rfl⟩ := h
        have := quoA_lt _ _ _ _ (Nat.le_refl _) hx
        exact ⟨rfl, .inr ⟨by decide, by omega⟩⟩
  split at h
  · obtain ⟨h1, _, rfl⟩ := ofKw_inl h
    exact ⟨rfl, .inr (hashR_lt (by omega) h1)⟩
  · obtain ⟨h1, _, rfl⟩ := ofKw_inl h
    exact ⟨rfl, .inr (markR_lt h1)⟩
theorem tokR_lt {s : ByteArray} {p k q p' : Nat} {t : List UInt8} {n : Int} (hq : ∀ q, skipA none p ((sb s).drop p) = .inl q → q ≤ s.size) (h : tokR s p = .inl (k, t, n, q, p')) : p ≤ q ∧ ((k = 0 ∧ q = s.size ∧ p' = q) ∨ (k ≠ 0 ∧ q < p')) := by
  unfold tokR at h
  split at h
  · next x hx =>
    obtain ⟨rfl, h2⟩ := tokAt_lt (hq _ hx) h
    exact ⟨skipA_le _ _ _ _ hx, h2⟩
  · cases h
theorem skipA_end : ∀ (l : List UInt8) (m : Option Nat) (p q : Nat), skipA m p l = .inl q → q ≤ p + l.length
  | [], m, p, q, h => by
    unfold skipA at h
    split at h
    · injection h with h; simp; omega
    · cases h
  | c :: l, m, p, q, h => by
    simp only [List.length_cons]
    unfold skipA at h
    split at h
    · split at h
      · have := skipA_end l _ _ _ h; omega
      · split at h
        · have := skipA_end l _ _ _ h; omega
        · injection h with h; omega
    · split at h
      · have := skipA_end l _ _ _ h; omega
      · have := skipA_end l _ _ _ h; omega
theorem tokR_go {s : ByteArray} {p k q p' : Nat} {t : List UInt8} {n : Int} (hp : p ≤ s.size) (h : tokR s p = .inl (k, t, n, q, p')) : p ≤ q ∧ ((k = 0 ∧ q = s.size ∧ p' = q) ∨ (k ≠ 0 ∧ q < p')) :=
  tokR_lt (fun q hq => by
    have := skipA_end _ _ _ _ hq
    rw [List.length_drop, sb_len] at this
    omega) h
end Go.Proofs.YtakijeooaeflkaaGreatDoor.Fl
