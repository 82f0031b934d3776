/-
  What can be reached: a wave, and whether something is left to be asked; the roots.
-/
import Derived.Test.YtkmlclhkkklmeaaPMarkB
namespace Go.Proofs.Ytkmlclhkkklmeaa.Fl
open Go.RowKit

/-- what is found with what some objects lead to -/
def askL (ld : Nat → List Nat) (ws : List Nat) : List Nat → List Nat → Option (List Nat)
  | fs, [] => some fs
  | fs, p :: t => (findL ws fs (ld p)).bind fun f => askL ld ws f t
theorem askL_cons {ld : Nat → List Nat} {ws fs fs' : List Nat} {p : Nat} {t : List Nat} (h : askL ld ws fs (p :: t) = some fs') : ∃ f1, findL ws fs (ld p) = some f1 ∧ askL ld ws f1 t = some fs' := by
  rw [askL] at h
  cases hc : findL ws fs (ld p) with
  | none => rw [hc] at h; cases h
  | some f1 => rw [hc] at h; exact ⟨f1, rfl, h⟩
theorem find1_pre {ws fs fs' : List Nat} {x : Nat} (h : find1 ws fs x = some fs') : ∃ t, fs' = fs ++ t := by
  unfold find1 at h
  split at h
  · injection h with h; exact ⟨[], by simp [h]⟩
  · split at h
    · split at h
      · injection h with h; exact ⟨[], by simp [h]⟩
      · injection h with h; exact ⟨[x], h.symm⟩
    · cases h
theorem findL_pre {ws : List Nat} : ∀ {xs fs fs' : List Nat}, findL ws fs xs = some fs' → ∃ t, fs' = fs ++ t
  | [], fs, fs', h => by rw [findL] at h; injection h with h; exact ⟨[], by simp [h]⟩
  | x :: xs, fs, fs', h => by
    obtain ⟨f1, h1, h2⟩ := findL_cons h
    obtain ⟨t1, rfl⟩ := find1_pre h1
    obtain ⟨t2, rfl⟩ := findL_pre h2
    exact ⟨t1 ++ t2, by simp⟩
/-- the objects of a heap, and what each leads to -/
def Leads (ld : Nat → List Nat) (L ws : List Nat) : Prop := ∀ p, isP ws p → ∃ cl kind sz hash mark xs, ObAt L ws p cl kind sz hash mark xs ∧ ld p = cl :: xs
section
variable {w w' : World} {base g gc cap gb gb2 size last LB lk sb sb2 : Nat} {L ws fs : List Nat} {k : Nat}
theorem own_cellW {w : World} {B : Nat} {v : Value} {fs : List Nat} (h : OwnH w B v fs) {j : Nat} (hj : j < fs.length) : ∃ f c, v = .slice (some ⟨f, 0, none⟩) fs.length c ∧ w.cell? ⟨f, j, none⟩ = some (.int .u64 (fs[j] : Int)) := by
  rcases h.2 with ⟨_, e⟩ | ⟨g', cap', cur, e, hb', hg, _, _, _, ht⟩
  · omega
  · refine ⟨g', cap', e, ?_⟩
    rw [cell_of_row _ g' j _ _ _ hg, ← cw_at fs j hj]
    rw [Nat.mul_one] at ht
    rw [← ht, List.getElem?_take, if_pos hj]; simp
theorem own_len {w : World} {B : Nat} {v : Value} {fs : List Nat} (h : OwnH w B v fs) : ∃ A c, v = .slice A fs.length c := by
  rcases h.2 with ⟨e, e2⟩ | ⟨g', cap', cur, e, _⟩
  · rw [e2]; exact ⟨_, _, e⟩
  · exact ⟨_, _, e⟩
theorem rdh_at {w : World} {B : Nat} {A : Option Addr} {ws : List Nat} (h : Rd w B A (cw ws)) {k : Nat} (hk : k < ws.length) :
    ∃ b off, A = some ⟨b, off, none⟩ ∧ b < B ∧ w.cell? ⟨b, off + k, none⟩ = some (.int .u64 (ws[k] : Int)) := by
  obtain ⟨b, off, hA, hb, hc⟩ := h.at_ (k := k) (by rw [cw_len]; exact hk)
  refine ⟨b, off, hA, hb, ?_⟩
  rw [hc]; simp [cw]
end
end Go.Proofs.Ytkmlclhkkklmeaa.Fl
