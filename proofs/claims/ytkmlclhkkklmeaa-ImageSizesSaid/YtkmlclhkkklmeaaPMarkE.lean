/-
  What can be reached: all of it.
-/
import Derived.Test.YtkmlclhkkklmeaaMarkD
namespace Go.Proofs.Ytkmlclhkkklmeaa.Fl
open Go.RowKit

/-- the waves from some roots: what is found behind each, and how many of it were asked; T of them -/
structure Waves (ld : Nat → List Nat) (ws fs0 : List Nat) (S : Nat → List Nat × Nat) (T : Nat) : Prop where
  zero : S 0 = (fs0, 0)
  step : ∀ t, t < T → (S t).2 < (S t).1.length ∧ askL ld ws (S t).1 ((S t).1.drop (S t).2) = some (S (t + 1)).1 ∧ (S (t + 1)).2 = (S t).1.length
  stop : (S T).2 = (S T).1.length
theorem askL_pre {ld : Nat → List Nat} {ws : List Nat} : ∀ {ps fs fs' : List Nat}, askL ld ws fs ps = some fs' → ∃ t, fs' = fs ++ t
  | [], fs, fs', h => by rw [askL] at h; injection h with h; exact ⟨[], by simp [h]⟩
  | x :: xs, fs, fs', h => by
    obtain ⟨f1, h1, h2⟩ := askL_cons h
    obtain ⟨t1, rfl⟩ := findL_pre h1
    obtain ⟨t2, rfl⟩ := askL_pre h2
    exact ⟨t1 ++ t2, by simp⟩
theorem Waves.le {ld : Nat → List Nat} {ws fs0 : List Nat} {S : Nat → List Nat × Nat} {T : Nat} (h : Waves ld ws fs0 S T) : ∀ t, t ≤ T → (S t).2 ≤ (S t).1.length
  | 0, _ => by rw [h.zero]; exact Nat.zero_le _
  | t + 1, ht => by
    obtain ⟨_, h2, h3⟩ := h.step t (by omega)
    obtain ⟨r, hr⟩ := askL_pre h2
    rw [h3, hr, List.length_append]; omega
theorem Waves.lt {ld : Nat → List Nat} {ws fs0 : List Nat} {S : Nat → List Nat × Nat} {T : Nat} (h : Waves ld ws fs0 S T) {t : Nat} (ht : t ≤ T) : (S t).2 < (S t).1.length ↔ t < T := by
  constructor
  · intro h1
    rcases Nat.lt_or_ge t T with h2 | h2
    · exact h2
    · have e : t = T := by omega
      subst e
      have := h.stop
      omega
  · exact fun h1 => (h.step t h1).1
/-- the counter of a look in memory -/
def askedOf (w : World) (lk : Nat) : Nat := match w.cell? ⟨lk, 3, none⟩ with | some v => (intOf v).toNat | none => 0
section
variable {w w' : World} {base g gc cap gb gb2 size last LB lk sb sb2 : Nat} {L ws fs : List Nat} {k : Nat}
end
end Go.Proofs.Ytkmlclhkkklmeaa.Fl

/-
  What can be reached: the objects of a heap, and how many cells they have.
-/
namespace Go.Proofs.Ytkmlclhkkklmeaa.Fl
open Go.RowKit

/-- how many cells some objects have, with their heads -/
def sumC (cn : Nat → Nat) : List Nat → Nat
  | [] => 0
  | p :: t => 2 + cn p + sumC cn t
theorem sumC_snoc (cn : Nat → Nat) (l : List Nat) (p : Nat) : sumC cn (l ++ [p]) = sumC cn l + (2 + cn p) := by
  induction l with
  | nil => simp [sumC]
  | cons a t ih => rw [List.cons_append, sumC, ih, sumC]; omega
theorem sumC_le (cn : Nat → Nat) (l : List Nat) (h : ∀ p ∈ l, cn p ≤ 1048576) : sumC cn l ≤ l.length * 1048578 := by
  induction l with
  | nil => simp [sumC]
  | cons a t ih =>
    have h1 := h a (by simp)
    have h2 := ih (fun p hp => h p (by simp [hp]))
    rw [sumC, List.length_cons, Nat.succ_mul]; omega
/-- the objects of a heap, what each leads to, how many cells it has behind its head -/
def Graph (ld : Nat → List Nat) (cn : Nat → Nat) (L ws : List Nat) : Prop := ∀ p, isP ws p → ∃ cl kind sz hash mark xs, ObAt L ws p cl kind sz hash mark xs ∧ ld p = cl :: xs ∧ cellsI cl kind sz hash = (cn p : Int)
theorem Graph.leads {ld : Nat → List Nat} {cn : Nat → Nat} {L ws : List Nat} (h : Graph ld cn L ws) : Leads ld L ws := fun p hp => by
  obtain ⟨cl, kind, sz, hash, mark, xs, h1, h2, _⟩ := h p hp
  exact ⟨cl, kind, sz, hash, mark, xs, h1, h2⟩
theorem cellsI_le {cl kind sz hash : Nat} : cellsI cl kind sz hash ≤ 1048576 := by
  unfold cellsI
  split
  · next h =>
    have := (hErr_ok h).2.1
    split <;> omega
  · omega
theorem Graph.cn_le {ld : Nat → List Nat} {cn : Nat → Nat} {L ws : List Nat} (h : Graph ld cn L ws) {p : Nat} (hp : isP ws p) : cn p ≤ 1048576 := by
  obtain ⟨cl, kind, sz, hash, mark, xs, h1, h2, h3⟩ := h p hp
  have := @cellsI_le cl kind sz hash
  omega
end Go.Proofs.Ytkmlclhkkklmeaa.Fl

/-
  What can be reached: where something is loose.
-/
namespace Go.Proofs.Ytkmlclhkkklmeaa.Fl
open Go.RowKit

section
variable {w w' : World} {base g gc cap gb gb2 size last LB lk sb sb2 : Nat} {L ws fs : List Nat} {k : Nat}
theorem hhas_no (x : Nat) (w : World) (h : HeapAt w base g gc cap gb gb2 size last L ws) (hx : x < 18446744073709551616) (hn : ¬ isP ws x) :
    Calls Try.prog 25 #[.pointer (some ⟨g, 0, none⟩), .int .u64 (x : Int)] w fun e w' => e = .returned (.bool false) ∧ w = w' := by
  by_cases hb : x % 2 = 1 ∨ x = 0 ∨ 33554432 ≤ x
  · have hat := fun w' => at_out (x : Int) w' (by omega) (by omega) (by omega)
    clear h hx hn hb
    go_enter Try.func25, Try.ntmps25
    go_wp2_with (go_at_call 72; (with_reducible refine (hat _).mono ?_); rintro e w' ⟨rfl, rfl⟩)
    go_ret
    exact ⟨rfl, rfl⟩
  · have hbit : bitAt ws (x / 2) = false := by
      cases hc : bitAt ws (x / 2) with
      | false => rfl
      | true => exact absurd ⟨by omega, by omega, by omega, hc⟩ hn
    have := hhas_any (x / 2) w h (by omega) (by omega)
    rw [hbit, show ((x / 2 : Nat) : Int) * 2 = (x : Int) by omega] at this
    exact this
theorem findL_none {x : Nat} {t : List Nat} (h : findL ws fs (x :: t) = none) : find1 ws fs x = none ∨ ∃ f1, find1 ws fs x = some f1 ∧ findL ws f1 t = none := by
  rw [findL] at h
  cases hc : find1 ws fs x with
  | none => exact .inl rfl
  | some f1 => rw [hc] at h; exact .inr ⟨f1, rfl, h⟩
end
end Go.Proofs.Ytkmlclhkkklmeaa.Fl

/-
  What can be reached: the waves come to an end, or something is loose; what they find is led to, and closed.
-/
namespace Go.Proofs.Ytkmlclhkkklmeaa.Fl
open Go.RowKit

/-- a list of objects, each once -/
def Good (ws fs : List Nat) : Prop := fs.Nodup ∧ ∀ p ∈ fs, isP ws p
/-- a word that is to lead somewhere -/
def isW (x : Nat) : Prop := ¬ (x = 0 ∨ x % 2 = 1)
section
variable {ld : Nat → List Nat} {ws : List Nat}
theorem find1_good {fs fs' : List Nat} {x : Nat} (h : find1 ws fs x = some fs') (hg : Good ws fs) : Good ws fs' ∧ (isW x → isP ws x ∧ x ∈ fs') ∧ (∀ p ∈ fs, p ∈ fs') ∧ ∀ p ∈ fs', p ∈ fs ∨ (p = x ∧ isW x) := by
  unfold find1 at h
  split at h
  · next h0 =>
    injection h with h; subst h
    exact ⟨hg, fun hw => absurd h0 hw, fun p hp => hp, fun p hp => .inl hp⟩
  · next h0 =>
    split at h
    · next h1 =>
      split at h
      · next h2 =>
        injection h with h; subst h
        exact ⟨hg, fun _ => ⟨h1, h2⟩, fun p hp => hp, fun p hp => .inl hp⟩
      · next h2 =>
        injection h with h; subst h
        refine ⟨⟨?_, ?_⟩, fun _ => ⟨h1, by simp⟩, fun p hp => by simp [hp], fun p hp => ?_⟩
        · rw [List.nodup_append]
          refine ⟨hg.1, by simp, fun a ha b hb e => ?_⟩
          rw [List.mem_singleton] at hb
          subst hb e
          exact h2 ha
        · intro p hp
          rcases List.mem_append.1 hp with hp | hp
          · exact hg.2 p hp
          · rw [List.mem_singleton] at hp; subst hp; exact h1
        · rcases List.mem_append.1 hp with hp | hp
          · exact .inl hp
          · rw [List.mem_singleton] at hp; exact .inr ⟨hp, h0⟩
    · cases h
theorem find1_loose {fs : List Nat} {x : Nat} (h : find1 ws fs x = none) : isW x ∧ ¬ isP ws x := by
  unfold find1 at h
  split at h
  · cases h
  · next h0 =>
    split at h
    · split at h <;> cases h
    · next h1 => exact ⟨h0, h1⟩
theorem findL_good : ∀ {xs fs fs' : List Nat}, findL ws fs xs = some fs' → Good ws fs → Good ws fs' ∧ (∀ x ∈ xs, isW x → isP ws x ∧ x ∈ fs') ∧ (∀ p ∈ fs, p ∈ fs') ∧ ∀ p ∈ fs', p ∈ fs ∨ (p ∈ xs ∧ isW p)
  | [], fs, fs', h, hg => by
    rw [findL] at h; injection h with h; subst h
    exact ⟨hg, fun x hx => (by cases hx), fun p hp => hp, fun p hp => .inl hp⟩
  | x :: xs, fs, fs', h, hg => by
    obtain ⟨f1, h1, h2⟩ := findL_cons h
    obtain ⟨a1, a2, a3, a4⟩ := find1_good h1 hg
    obtain ⟨b1, b2, b3, b4⟩ := findL_good h2 a1
    refine ⟨b1, fun y hy hw => ?_, fun p hp => b3 p (a3 p hp), fun p hp => ?_⟩
    · rcases List.mem_cons.1 hy with rfl | hy
      · exact ⟨(a2 hw).1, b3 _ (a2 hw).2⟩
      · exact b2 y hy hw
    · rcases b4 p hp with h | ⟨h, hw⟩
      · rcases a4 p h with h | ⟨rfl, hw⟩
        · exact .inl h
        · exact .inr ⟨by simp, hw⟩
      · exact .inr ⟨by simp [h], hw⟩
theorem findL_loose : ∀ {xs fs : List Nat}, findL ws fs xs = none → ∃ x ∈ xs, isW x ∧ ¬ isP ws x
  | [], fs, h => by rw [findL] at h; cases h
  | x :: xs, fs, h => by
    rw [findL] at h
    cases hc : find1 ws fs x with
    | none => exact ⟨x, by simp, find1_loose hc⟩
    | some f1 =>
      rw [hc] at h
      obtain ⟨y, hy, h2⟩ := findL_loose h
      exact ⟨y, by simp [hy], h2⟩
theorem askL_good : ∀ {ps fs fs' : List Nat}, askL ld ws fs ps = some fs' → Good ws fs → Good ws fs' ∧ (∀ p ∈ ps, ∀ x ∈ ld p, isW x → isP ws x ∧ x ∈ fs') ∧ (∀ p ∈ fs, p ∈ fs') ∧ ∀ q ∈ fs', q ∈ fs ∨ ∃ p ∈ ps, q ∈ ld p ∧ isW q
  | [], fs, fs', h, hg => by
    rw [askL] at h; injection h with h; subst h
    exact ⟨hg, fun x hx => (by cases hx), fun p hp => hp, fun p hp => .inl hp⟩
  | p :: ps, fs, fs', h, hg => by
    obtain ⟨f1, h1, h2⟩ := askL_cons h
    obtain ⟨a1, a2, a3, a4⟩ := findL_good h1 hg
    obtain ⟨b1, b2, b3, b4⟩ := askL_good h2 a1
    refine ⟨b1, fun y hy x hx hw => ?_, fun q hq => b3 q (a3 q hq), fun q hq => ?_⟩
    · rcases List.mem_cons.1 hy with rfl | hy
      · exact ⟨(a2 x hx hw).1, b3 _ (a2 x hx hw).2⟩
      · exact b2 y hy x hx hw
    · rcases b4 q hq with h | ⟨p', hp', h, hw⟩
      · rcases a4 q h with h | ⟨h, hw⟩
        · exact .inl h
        · exact .inr ⟨p, by simp, h, hw⟩
      · exact .inr ⟨p', by simp [hp'], h, hw⟩
theorem askL_loose : ∀ {ps fs : List Nat}, askL ld ws fs ps = none → ∃ p ∈ ps, ∃ x ∈ ld p, isW x ∧ ¬ isP ws x
  | [], fs, h => by rw [askL] at h; cases h
  | p :: ps, fs, h => by
    rw [askL] at h
    cases hc : findL ws fs (ld p) with
    | none =>
      obtain ⟨x, hx, h2⟩ := findL_loose hc
      exact ⟨p, by simp, x, hx, h2⟩
    | some f1 =>
      rw [hc] at h
      obtain ⟨q, hq, h2⟩ := askL_loose h
      exact ⟨q, by simp [hq], h2⟩
/-- the waves, up to one in which something is loose -/
structure WavesNo (ld : Nat → List Nat) (ws fs0 : List Nat) (S : Nat → List Nat × Nat) (T : Nat) : Prop where
  zero : S 0 = (fs0, 0)
  step : ∀ t, t < T → (S t).2 < (S t).1.length ∧ askL ld ws (S t).1 ((S t).1.drop (S t).2) = some (S (t + 1)).1 ∧ (S (t + 1)).2 = (S t).1.length
  last : (S T).2 < (S T).1.length ∧ askL ld ws (S T).1 ((S T).1.drop (S T).2) = none
/-- one wave after another -/
def wvS (ld : Nat → List Nat) (ws fs0 : List Nat) : Nat → List Nat × Nat
  | 0 => (fs0, 0)
  | t + 1 => ((askL ld ws (wvS ld ws fs0 t).1 ((wvS ld ws fs0 t).1.drop (wvS ld ws fs0 t).2)).getD [], (wvS ld ws fs0 t).1.length)
theorem waves_total {fs0 : List Nat} {size : Nat} (hs : ∀ fs, Good ws fs → fs.length ≤ size) (h0 : Good ws fs0) :
    (∃ T, Waves ld ws fs0 (wvS ld ws fs0) T) ∨ ∃ T, WavesNo ld ws fs0 (wvS ld ws fs0) T := by
  have key : ∀ d t, size - (wvS ld ws fs0 t).2 ≤ d → Good ws (wvS ld ws fs0 t).1 → (wvS ld ws fs0 t).2 ≤ (wvS ld ws fs0 t).1.length →
      (∀ u, u < t → (wvS ld ws fs0 u).2 < (wvS ld ws fs0 u).1.length ∧ askL ld ws (wvS ld ws fs0 u).1 ((wvS ld ws fs0 u).1.drop (wvS ld ws fs0 u).2) = some (wvS ld ws fs0 (u + 1)).1 ∧ (wvS ld ws fs0 (u + 1)).2 = (wvS ld ws fs0 u).1.length) →
      (∃ T, Waves ld ws fs0 (wvS ld ws fs0) T) ∨ ∃ T, WavesNo ld ws fs0 (wvS ld ws fs0) T := by
    intro d
    induction d with
    | zero =>
      intro t hd hg hle hst
      have := hs _ hg
      exact .inl ⟨t, rfl, hst, by omega⟩
    | succ d ih =>
      intro t hd hg hle hst
      by_cases he : (wvS ld ws fs0 t).2 = (wvS ld ws fs0 t).1.length
      · exact .inl ⟨t, rfl, hst, he⟩
      · have hlt : (wvS ld ws fs0 t).2 < (wvS ld ws fs0 t).1.length := by omega
        cases hc : askL ld ws (wvS ld ws fs0 t).1 ((wvS ld ws fs0 t).1.drop (wvS ld ws fs0 t).2) with
        | none => exact .inr ⟨t, rfl, hst, hlt, hc⟩
        | some f1 =>
          have e1 : (wvS ld ws fs0 (t + 1)).1 = f1 := by rw [wvS, hc]; rfl
          have e2 : (wvS ld ws fs0 (t + 1)).2 = (wvS ld ws fs0 t).1.length := rfl
          have hg1 := (askL_good hc hg).1
          obtain ⟨r, hr⟩ := askL_pre hc
          have hl := hs _ hg
          refine ih (t + 1) (by rw [e2]; omega) (by rw [e1]; exact hg1) (by rw [e1, e2, hr, List.length_append]; omega) (fun u hu => ?_)
          by_cases e : u = t
          · subst e; exact ⟨hlt, by rw [e1]; exact hc, e2⟩
          · exact hst u (by omega)
  exact key size 0 (by omega) h0 (Nat.zero_le _) (fun u hu => by omega)
/-- what the waves have found: each once, closed, and nothing but what is led to -/
theorem Waves.found {fs0 : List Nat} {S : Nat → List Nat × Nat} {T : Nat} (h : Waves ld ws fs0 S T) (h0 : Good ws fs0) : Good ws (S T).1 ∧ (∀ p ∈ fs0, p ∈ (S T).1) ∧ (∀ p ∈ (S T).1, ∀ x ∈ ld p, isW x → isP ws x ∧ x ∈ (S T).1) ∧
    ∀ C : Nat → Prop, (∀ p ∈ fs0, C p) → (∀ p, C p → ∀ x ∈ ld p, isW x → C x) → ∀ p ∈ (S T).1, C p := by
  have key : ∀ t, t ≤ T → Good ws (S t).1 ∧ (∀ p ∈ fs0, p ∈ (S t).1) ∧ (∀ p ∈ (S t).1.take (S t).2, ∀ x ∈ ld p, isW x → isP ws x ∧ x ∈ (S t).1) ∧
      ∀ C : Nat → Prop, (∀ p ∈ fs0, C p) → (∀ p, C p → ∀ x ∈ ld p, isW x → C x) → ∀ p ∈ (S t).1, C p := by
    intro t
    induction t with
    | zero =>
      intro _
      rw [h.zero]
      exact ⟨h0, fun p hp => hp, fun p hp => by simp at hp, fun C hC _ => hC⟩
    | succ t ih =>
      intro ht
      obtain ⟨i1, i2, i3, i4⟩ := ih (by omega)
      obtain ⟨s1, s2, s3⟩ := h.step t (by omega)
      obtain ⟨a1, a2, a3, a4⟩ := askL_good s2 i1
      obtain ⟨r, hr⟩ := askL_pre s2
      refine ⟨a1, fun p hp => a3 p (i2 p hp), fun p hp x hx hw => ?_, fun C hC hCC p hp => ?_⟩
      · rw [s3, hr, List.take_left'  rfl] at hp
        rw [← List.take_append_drop (S t).2 (S t).1] at hp
        rcases List.mem_append.1 hp with hp | hp
        · have := i3 p hp x hx hw
          exact ⟨this.1, a3 x this.2⟩
        · exact a2 p hp x hx hw
      · rcases a4 p hp with h5 | ⟨q, hq, h6, hw⟩
        · exact i4 C hC hCC p h5
        · exact hCC q (i4 C hC hCC q (List.mem_of_mem_drop hq)) p h6 hw
  obtain ⟨k1, k2, k3, k4⟩ := key T (Nat.le_refl _)
  rw [h.stop, List.take_length] at k3
  exact ⟨k1, k2, k3, k4⟩
end
end Go.Proofs.Ytkmlclhkkklmeaa.Fl
