/-
  The lexer: where the tokens of a text stand.
-/
import Derived.Test.YtakijeooaeflkaaGreatDoorLxSl
namespace Go.Proofs.YtakijeooaeflkaaGreatDoor.Fl
open Go.RowKit

def plainT (x : Tok) : Bool := x.1 != 3 && x.1 != 5
/-- the place behind a token's text; or behind its first byte -/
def lastT (x : Tok) : Nat := if plainT x = true then x.2.2.2 + (writL x.1 x.2.1 x.2.2.1).length else x.2.2.2 + 1
def PlA (s : ByteArray) : Nat → List Tok → Prop
  | _, [] => True
  | p, x :: l => TokV x.1 x.2.1 x.2.2.1 ∧ p ≤ x.2.2.2 ∧ x.2.2.2 ≤ s.size ∧ (x.1 = 0 ↔ l = []) ∧ (plainT x = true → midL s x.2.2.2 (x.2.2.2 + (writL x.1 x.2.1 x.2.2.1).length) = writL x.1 x.2.1 x.2.2.1 ∧ x.2.2.2 + (writL x.1 x.2.1 x.2.2.1).length ≤ s.size) ∧ PlA s (lastT x) l
theorem tokR_at {s : ByteArray} {p k q p' : Nat} {wd : List UInt8} {n : Int} (hp : p ≤ s.size) (h : tokR s p = .inl (k, wd, n, q, p')) : q ≤ s.size ∧ tokAt s q = .inl (k, wd, n, q, p') := by
  unfold tokR at h
  split at h
  · next q' hq' =>
    have hq := skipA_end _ _ _ _ hq'
    rw [List.length_drop, sb_len] at hq
    have h2 := (tokAt_lt (show q' ≤ s.size by omega) h).1
    subst h2
    exact ⟨by omega, h⟩
  · cases h
theorem allW_ne {s : ByteArray} {p : Nat} (hp : p ≤ s.size) : allW s p ≠ .inl [] := by
  intro h
  cases ht : tokR s p with
  | inr e => rw [allW_no ht] at h; cases h
  | inl x =>
    obtain ⟨k, t, n, q, p'⟩ := x
    by_cases hk : k = 0
    · subst hk
      rw [allW_end ht] at h
      cases h
    · have h1 := (allW_go hp (tokR_in hp ht) ht hk []).2
      rw [preW_nil, h] at h1
      cases hy : allW s p' with
      | inr e => rw [hy] at h1; cases h1
      | inl l' => rw [hy] at h1; cases h1
theorem allW_pl {s : ByteArray} {p p0 : Nat} {l : List Tok} (hp : p ≤ s.size) (h : allW s p = .inl l) (h0 : p0 ≤ p) : PlA s p0 l := by
  obtain ⟨m, hm⟩ : ∃ m, s.size - p = m := ⟨_, rfl⟩
  induction m using Nat.strongRecOn generalizing p p0 l with
  | _ m ih =>
    cases ht : tokR s p with
    | inr e => rw [allW_no ht] at h; cases h
    | inl x =>
      obtain ⟨k, t, n, q, p'⟩ := x
      have hin := tokR_in hp ht
      obtain ⟨hg1, hg2⟩ := tokR_go hp ht
      obtain ⟨hqs, hta⟩ := tokR_at hp ht
      obtain ⟨hv, hmid⟩ := tokAt_v hqs hta
      have hqp : q ≤ p' := by omega
      have hpl : plainT (k, t, n, q) = true → midL s q (q + (writL k t n).length) = writL k t n ∧ q + (writL k t n).length = p' := by
        intro hpt
        unfold plainT at hpt
        simp only [Bool.and_eq_true, bne_iff_ne] at hpt
        have hm2 := hmid hpt.1 hpt.2
        have hl2 := congrArg List.length hm2
        rw [midL_len s hin] at hl2
        have e : q + (writL k t n).length = p' := by omega
        rw [e]
        exact ⟨hm2, rfl⟩
      by_cases hk : k = 0
      · have hl : l = [(k, t, n, q)] := by
          subst hk
          rw [allW_end ht] at h
          injection h with h
          exact h.symm
        subst hl
        exact ⟨hv, by show p0 ≤ q; omega, hqs, ⟨fun _ => rfl, fun _ => hk⟩, fun hpt => ⟨(hpl hpt).1, by have h8 := (hpl hpt).2; show q + (writL k t n).length ≤ s.size; omega⟩, trivial⟩
      · have h1 := allW_go hp hin ht hk []
        rw [preW_nil, h] at h1
        cases hy : allW s p' with
        | inr e => rw [hy] at h1; cases h1.2
        | inl l' =>
          rw [hy] at h1
          have h3 : l = (k, t, n, q) :: l' := by
            have := h1.2
            injection this
          subst h3
          refine ⟨hv, by show p0 ≤ q; omega, hqs, ⟨fun e => absurd e hk, fun e => ?_⟩, fun hpt => ⟨(hpl hpt).1, by have h8 := (hpl hpt).2; show q + (writL k t n).length ≤ s.size; omega⟩, ih (s.size - p') (by have := h1.1; omega) hin hy ?_ rfl⟩
          · subst e; exact absurd hy (allW_ne hin)
          · unfold lastT
            split
            · next hpt => exact Nat.le_of_eq (hpl hpt).2
            · show q + 1 ≤ p'; omega
end Go.Proofs.YtakijeooaeflkaaGreatDoor.Fl
