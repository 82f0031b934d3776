/-
  What is asked to the end is all that is led to.
-/
import Derived.Test.YthppamfhkcdjdaaDoorGOrd
namespace Go.Proofs.YthppamfhkcdjdaaDoor.Fl
open Go.RowKit

section
variable {ld : Nat → List Nat} {ws f0 : List Nat}
theorem Run.good {f : List Nat} {m : Nat} (h : Run ld ws f0 f m) (hg : Good ws f0) : Good ws f := by
  induction h with
  | zero => exact hg
  | step h1 h2 h3 ih => exact (findL_good h3 ih).1
theorem Run.pre {f : List Nat} {m : Nat} (h : Run ld ws f0 f m) : ∀ p ∈ f0, p ∈ f := by
  induction h with
  | zero => exact fun p hp => hp
  | step h1 h2 h3 ih =>
    obtain ⟨r, hr⟩ := findL_pre h3
    exact fun p hp => by rw [hr]; exact List.mem_append_left _ (ih p hp)
theorem Run.shut {f : List Nat} {m : Nat} (h : Run ld ws f0 f m) (hg : Good ws f0) : ∀ j (hj : j < f.length), j < m → ∀ y ∈ ld f[j], isW y → y ∈ f := by
  induction h with
  | zero => exact fun j hj hm => absurd hm (Nat.not_lt_zero _)
  | step h1 h2 h3 ih =>
    rename_i f f' m
    intro j hj hm y hy hw
    obtain ⟨r, hr⟩ := findL_pre h3
    have hjf : j < f.length := by omega
    have e : f'[j] = f[j] := by
      simp only [hr]; rw [List.getElem_append_left hjf]
    rw [e] at hy
    rcases Nat.lt_or_ge j m with h4 | h4
    · rw [hr]; exact List.mem_append_left _ (ih j hjf h4 y hy hw)
    · have e2 : j = m := by omega
      subst e2
      exact ((findL_good h3 (h1.good hg)).2.1 y hy hw).2
theorem run_all {rs f : List Nat} (hf : findL ws [] rs = some f0) (h : Run ld ws f0 f f.length) : ∀ x, Led ld rs x → x ∈ f := by
  have h0 := findL_good hf (good_nil ws)
  intro x hx
  induction hx with
  | root h1 h2 => exact h.pre _ (h0.2.1 _ h1 h2).2
  | step _ hy hw ih =>
    obtain ⟨j, hj, e⟩ := List.mem_iff_getElem.1 ih
    exact h.shut h0.1 j hj hj _ (by rw [e]; exact hy) hw
end
/-- the document's order is the program's -/
theorem order_is {os : List Ob} {ws rs fs0 fs ks : List Nat} {S : Nat → List Nat × Nat} {T : Nat} (hF : Found0 os ws rs fs0 S T fs) (hr : RunTo os ws rs ks.length (PP os ks)) : PP os ks = fs := by
  obtain ⟨f0, h0, hr⟩ := hr
  have e := hF.find
  rw [h0] at e
  injection e with e
  subst e
  have h1 := hF.waves.run T (Nat.le_refl _)
  rw [hF.waves.stop, hF.all] at h1
  rw [← PP_len os ks] at hr
  exact hr.end_ h1
theorem order_led {os : List Ob} {ws rs ks : List Nat} (hr : RunTo os ws rs ks.length (PP os ks)) {x : Nat} (hx : Led (ldOf os) rs x) : isP ws x := by
  obtain ⟨f0, h0, hr⟩ := hr
  have hg := hr.good (findL_good h0 (good_nil ws)).1
  rw [← PP_len os ks] at hr
  exact hg.2 x (run_all h0 hr x hx)
end Go.Proofs.YthppamfhkcdjdaaDoor.Fl
