/-
  One object after another is asked, as the document has it: the same is found, in the same order, as wave by wave.
-/
import Derived.Test.YthppamfhkcdjdaaDoorPGColl
namespace Go.Proofs.YthppamfhkcdjdaaDoor.Fl
open Go.RowKit

/-- what is found behind m objects that were asked -/
inductive Run (ld : Nat → List Nat) (ws f0 : List Nat) : List Nat → Nat → Prop
  | zero : Run ld ws f0 f0 0
  | step {f f' : List Nat} {m : Nat} : Run ld ws f0 f m → (h : m < f.length) → findL ws f (ld f[m]) = some f' → Run ld ws f0 f' (m + 1)
section
variable {ld : Nat → List Nat} {ws f0 : List Nat}
theorem Run.det {f f' : List Nat} {m : Nat} (h : Run ld ws f0 f m) (h' : Run ld ws f0 f' m) : f = f' := by
  induction h generalizing f' with
  | zero => cases h'; rfl
  | step h1 h2 h3 ih =>
    cases h' with
    | step k1 k2 k3 =>
      have e := ih k1
      subst e
      rw [h3] at k3
      injection k3
theorem Run.le {f : List Nat} {m : Nat} (h : Run ld ws f0 f m) : m ≤ f.length := by
  cases h with
  | zero => exact Nat.zero_le _
  | step h1 h2 h3 =>
    obtain ⟨r, hr⟩ := findL_pre h3
    rw [hr, List.length_append]; omega
theorem Run.prev {f : List Nat} {m : Nat} (h : Run ld ws f0 f m) {k : Nat} (hk : k ≤ m) : ∃ f', Run ld ws f0 f' k ∧ (k < m → k < f'.length) := by
  induction h with
  | zero => exact ⟨f0, by rw [Nat.le_zero.1 hk]; exact .zero, fun h => absurd h (by omega)⟩
  | step h1 h2 h3 ih =>
    rename_i f f' m
    rcases Nat.lt_or_ge m k with h4 | h4
    · have e : k = m + 1 := by omega
      subst e
      exact ⟨f', .step h1 h2 h3, fun h => absurd h (by omega)⟩
    · obtain ⟨f'', h5, h6⟩ := ih h4
      refine ⟨f'', h5, fun _ => ?_⟩
      rcases Nat.lt_or_ge k m with h7 | h7
      · exact h6 h7
      · have e : k = m := by omega
        subst e
        rw [← h1.det h5]; exact h2
/-- what is closed is one -/
theorem Run.end_ {f f' : List Nat} (h : Run ld ws f0 f f.length) (h' : Run ld ws f0 f' f'.length) : f = f' := by
  rcases Nat.lt_trichotomy f.length f'.length with h1 | h1 | h1
  · obtain ⟨f'', h2, h3⟩ := h'.prev (Nat.le_of_lt h1)
    have := h3 h1
    rw [← h.det h2] at this; omega
  · rw [h1] at h
    exact h.det h'
  · obtain ⟨f'', h2, h3⟩ := h.prev (Nat.le_of_lt h1)
    have := h3 h1
    rw [← h'.det h2] at this; omega
theorem Run.ask : ∀ {ps f f' : List Nat} {m : Nat}, Run ld ws f0 f m → (∀ i (hi : i < ps.length), f[m + i]? = some ps[i]) → askL ld ws f ps = some f' → Run ld ws f0 f' (m + ps.length)
  | [], f, f', m, h, _, e => by
    rw [askL] at e
    injection e with e
    subst e
    exact h
  | p :: t, f, f', m, h, hp, e => by
    obtain ⟨f1, h1, h2⟩ := askL_cons e
    have h0 := hp 0 (by simp)
    obtain ⟨hl, he⟩ := List.getElem?_eq_some_iff.1 h0
    simp only [Nat.add_zero, List.getElem_cons_zero] at hl he
    have hr := Run.step h hl (by rw [he]; exact h1)
    obtain ⟨r, hr2⟩ := findL_pre h1
    have := hr.ask (ps := t) (fun i hi => by
      have := hp (i + 1) (by simp; omega)
      rw [List.getElem_cons_succ] at this
      obtain ⟨hl2, he2⟩ := List.getElem?_eq_some_iff.1 this
      rw [hr2, List.getElem?_append_left (by omega), ← this]
      congr 1; omega) h2
    rw [List.length_cons]
    rw [show m + (t.length + 1) = m + 1 + t.length by omega]
    exact this
theorem Waves.run {S : Nat → List Nat × Nat} {T : Nat} (h : Waves ld ws f0 S T) : ∀ t, t ≤ T → Run ld ws f0 (S t).1 (S t).2
  | 0, _ => by rw [h.zero]; exact .zero
  | t + 1, ht => by
    obtain ⟨h1, h2, h3⟩ := h.step t (by omega)
    have hr := (h.run t (by omega)).ask (ps := (S t).1.drop (S t).2) (fun i hi => by
      rw [List.getElem_drop, List.getElem?_eq_getElem]) h2
    rw [h3, show (S t).1.length = (S t).2 + ((S t).1.drop (S t).2).length by rw [List.length_drop]; omega]
    exact hr
theorem Run.led {rs f : List Nat} {m : Nat} (h : Run ld ws f0 f m) (h0 : ∀ p ∈ f0, Led ld rs p) (hg : Good ws f0) : (∀ p ∈ f, Led ld rs p) ∧ Good ws f := by
  induction h with
  | zero => exact ⟨h0, hg⟩
  | step h1 h2 h3 ih =>
    obtain ⟨i1, i2⟩ := ih
    obtain ⟨a1, _, _, a4⟩ := findL_good h3 i2
    refine ⟨fun p hp => ?_, a1⟩
    rcases a4 p hp with h5 | ⟨h5, hw⟩
    · exact i1 p h5
    · exact .step (i1 _ (List.getElem_mem h2)) h5 hw
end
/-- the pointers among words -/
def ptrs (xs : List Nat) : List Nat := xs.filter fun x => !(x == 0) && !(x % 2 == 1)
theorem ptrs_isW (x : Nat) : (!(x == 0) && !(x % 2 == 1)) = true ↔ isW x := by
  unfold isW
  simp
theorem findL_ptrs (ws : List Nat) : ∀ (xs fs : List Nat), findL ws fs (ptrs xs) = findL ws fs xs
  | [], _ => rfl
  | x :: t, fs => by
    unfold ptrs
    rw [List.filter_cons]
    by_cases hw : isW x
    · rw [if_pos ((ptrs_isW x).2 hw)]
      show findL ws fs (x :: ptrs t) = _
      rw [findL, findL]
      cases find1 ws fs x with
      | none => rfl
      | some f1 => exact findL_ptrs ws t f1
    · rw [if_neg (fun h => hw ((ptrs_isW x).1 h))]
      have e : find1 ws fs x = some fs := by
        unfold find1
        rw [if_pos (Decidable.not_not.1 hw)]
      show findL ws fs (ptrs t) = _
      rw [findL_ptrs ws t fs, findL, e]
      rfl
end Go.Proofs.YthppamfhkcdjdaaDoor.Fl
