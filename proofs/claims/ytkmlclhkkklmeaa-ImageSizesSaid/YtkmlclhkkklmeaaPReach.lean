/-
  What can be reached: nothing is told where something is loose.
-/
import Derived.Test.YtkmlclhkkklmeaaMarkM
import Derived.Test.YtkmlclhkkklmeaaPMarkE
import Derived.Deep.RegionHeld3
namespace Go.Proofs.Ytkmlclhkkklmeaa.Fl
open Go.RowKit

theorem WavesNo.le {ld : Nat → List Nat} {ws fs0 : List Nat} {S : Nat → List Nat × Nat} {T : Nat} (h : WavesNo ld ws fs0 S T) : ∀ t, t ≤ T → (S t).2 ≤ (S t).1.length
  | 0, _ => by rw [h.zero]; exact Nat.zero_le _
  | t + 1, ht => by
    obtain ⟨_, h2, h3⟩ := h.step t (by omega)
    obtain ⟨r, hr⟩ := askL_pre h2
    rw [h3, hr, List.length_append]; omega
section
variable {w w' : World} {base g gc cap gb gb2 size last LB lk sb sb2 : Nat} {L ws fs : List Nat} {k : Nat}
def NoPost (w : World) (e : Ending) (w' : World) : Prop := e = .returned (.tuple #[.pointer none, .int .i64 13]) ∧ Below w.heap.size w w'
end
end Go.Proofs.Ytkmlclhkkklmeaa.Fl

/-
  What can be reached: Reach, and how many cells that are.
-/
namespace Go.Proofs.Ytkmlclhkkklmeaa.Fl
open Go.RowKit

section
variable {w w' : World} {base g gc cap gb gb2 size last LB lk sb sb2 : Nat} {L ws fs : List Nat} {k : Nat}
theorem cells_after {x w' : World} {v0 v1 v2 v3 v4 : Value} {T : TypeId} (hb : Below (x.alloc (.cells #[v0, v1, v2, v3, v4] T)).drew.heap.size (x.alloc (.cells #[v0, v1, v2, v3, v4] T)).drew w') :
    (w'.cell? ⟨x.heap.size, 0, none⟩ = some v0 ∧ w'.cell? ⟨x.heap.size, 1, none⟩ = some v1 ∧ w'.cell? ⟨x.heap.size, 2, none⟩ = some v2 ∧ w'.cell? ⟨x.heap.size, 3, none⟩ = some v3 ∧ w'.cell? ⟨x.heap.size, 4, none⟩ = some v4) ∧ (∀ k, w'.frozen? ⟨x.heap.size, k, none⟩ = false) ∧ w'.heap[x.heap.size]? = some (.cells #[v0, v1, v2, v3, v4] T (0, 0)) := by
  have h : w'.heap[x.heap.size]? = some (.cells #[v0, v1, v2, v3, v4] T (0, 0)) := by rw [hb.block _ (by show x.heap.size < (x.alloc _).heap.size; simp)]; exact heap_alloc_new x _
  exact ⟨cells5 h, fun k => frozen_of_row _ _ _ _ _ h, h⟩
theorem set5n {w : World} {g : Nat} {a0 a1 a2 a3 a4 v v1 v2 v3 v4 : Value} {T : TypeId} (h : w.heap[g]? = some (.cells #[a0, a1, a2, a3, a4] T (0, 0))) :
    (((((w.setCell ⟨g, 0, none⟩ v).setCell ⟨g, 1, none⟩ v1).setCell ⟨g, 2, none⟩ v2).setCell ⟨g, 3, none⟩ v3).setCell ⟨g, 4, none⟩ v4).heap[g]? = some (.cells #[v, v1, v2, v3, v4] T (0, 0)) := by
  have := set5 (v := v) (v1 := v1) (v2 := v2) (v3 := v3) (v4 := v4) h
  generalize (((((w.setCell ⟨g, 0, none⟩ v).setCell ⟨g, 1, none⟩ v1).setCell ⟨g, 2, none⟩ v2).setCell ⟨g, 3, none⟩ v3).setCell ⟨g, 4, none⟩ v4) = z at *
  exact this
theorem fin_alloc {wr w2 : World} {cs : Array Value} {T : TypeId} (hb : Below wr.heap.size wr w2) :
    ∃ b : Nat, Value.pointer (some ⟨w2.heap.size, 0, none⟩) = .pointer (some ⟨b, 0, none⟩) ∧ Value.int .i64 0 = .int .i64 0 ∧ Hid ((w2.alloc (.cells cs T)).heap[b]? = some (.cells cs T (0, 0))) ∧ Hid (Below wr.heap.size wr (w2.alloc (.cells cs T))) :=
  ⟨_, rfl, rfl, Lib.hid (heap_alloc_new w2 _), Lib.hid (hb.alloc hb.size _)⟩
theorem fin_set {wr w2 : World} {a0 a1 a2 a3 a4 v0 v1 v2 v3 v4 : Value} {T : TypeId} (h : w2.heap[wr.heap.size]? = some (.cells #[a0, a1, a2, a3, a4] T (0, 0))) (h0 : Below wr.heap.size wr w2) :
    ∃ b : Nat, Value.pointer (some ⟨wr.heap.size, 0, none⟩) = .pointer (some ⟨b, 0, none⟩) ∧ Value.int .i64 0 = .int .i64 0 ∧ Hid ((((((w2.setCell ⟨wr.heap.size, 0, none⟩ v0).setCell ⟨wr.heap.size, 1, none⟩ v1).setCell ⟨wr.heap.size, 2, none⟩ v2).setCell ⟨wr.heap.size, 3, none⟩ v3).setCell ⟨wr.heap.size, 4, none⟩ v4).heap[b]? = some (.cells #[v0, v1, v2, v3, v4] T (0, 0))) ∧ Hid (Below wr.heap.size wr (((((w2.setCell ⟨wr.heap.size, 0, none⟩ v0).setCell ⟨wr.heap.size, 1, none⟩ v1).setCell ⟨wr.heap.size, 2, none⟩ v2).setCell ⟨wr.heap.size, 3, none⟩ v3).setCell ⟨wr.heap.size, 4, none⟩ v4)) := by
  exact ⟨_, rfl, rfl, Lib.hid (set5n h), Lib.hid (((((h0.setCell (by simp) _).setCell (by simp) _).setCell (by simp) _).setCell (by simp) _).setCell (by simp) _)⟩
section
variable {wr w2 : World} {o : Obj}
theorem k1 : Below wr.heap.size wr wr.drew := (Below.refl _ _).drew
theorem k2 : Below wr.heap.size wr (wr.alloc o).drew := ((Below.refl _ _).alloc (Nat.le_refl _) _).drew
theorem k2' : Below wr.heap.size wr (wr.drew.alloc o) := (Below.refl wr.heap.size wr).drew.alloc (Nat.le_refl _) _
theorem k3 (hb : Below wr.drew.heap.size wr.drew w2) : Below wr.heap.size wr w2 := (Below.refl _ wr).drew.trans hb
theorem k3' (hb : Below (wr.alloc o).drew.heap.size (wr.alloc o).drew w2) : Below wr.heap.size wr w2 :=
  ((Below.refl _ wr).alloc (Nat.le_refl _) o).drew.trans (hb.mono (by show wr.heap.size ≤ (wr.alloc o).heap.size; simp))
theorem kS {v0 v1 v2 v3 v4 : Value} (hb : Below wr.heap.size wr w2) : Below wr.heap.size wr (((((w2.setCell ⟨wr.heap.size, 0, none⟩ v0).setCell ⟨wr.heap.size, 1, none⟩ v1).setCell ⟨wr.heap.size, 2, none⟩ v2).setCell ⟨wr.heap.size, 3, none⟩ v3).setCell ⟨wr.heap.size, 4, none⟩ v4) :=
  (((((hb.setCell (by simp) _).setCell (by simp) _).setCell (by simp) _).setCell (by simp) _).setCell (by simp) _)
theorem kA (hb : Below wr.heap.size wr w2) : Below wr.heap.size wr (w2.alloc o) := hb.alloc hb.size _
end
def ReachPost (w : World) (size n : Nat) (ws fs : List Nat) (e : Ending) (w' : World) : Prop :=
  ∃ sb sb2 bs, e = .returned (.tuple #[.pointer (some ⟨sb, 0, none⟩), .int .i64 (n : Int), .int .i64 0]) ∧ w.heap.size ≤ sb ∧ w.heap.size ≤ sb2 ∧ BitsAt w' sb sb2 size bs ∧ (∀ i, bitAt bs i = true ↔ 2 * i ∈ fs) ∧ (fs.Nodup ∧ ∀ p ∈ fs, isP ws p) ∧ Below w.heap.size w w'
end
end Go.Proofs.Ytkmlclhkkklmeaa.Fl

/-
  What can be reached: Reach of any heap and any roots.
-/
namespace Go.Proofs.Ytkmlclhkkklmeaa.Fl
open Go.RowKit

/-- what some words lead to -/
inductive Led (ld : Nat → List Nat) (rs : List Nat) : Nat → Prop
  | root {x : Nat} : x ∈ rs → isW x → Led ld rs x
  | step {p x : Nat} : Led ld rs p → x ∈ ld p → isW x → Led ld rs x
theorem Led.mono {ld : Nat → List Nat} {rs rs' : List Nat} {x : Nat} (h : Led ld rs x) (hr : ∀ y ∈ rs, isW y → Led ld rs' y) : Led ld rs' x := by
  induction h with
  | root h1 h2 => exact hr _ h1 h2
  | step _ h2 h3 ih => exact .step ih h2 h3
/-- a list of all that some words lead to -/
structure IsLed (ld : Nat → List Nat) (ws rs fs : List Nat) : Prop where
  good : Good ws fs
  mem : ∀ p, p ∈ fs ↔ Led ld rs p
theorem good_nil (ws : List Nat) : Good ws [] := ⟨by simp, by simp⟩
theorem Waves.isLed {ld : Nat → List Nat} {ws rs fs0 : List Nat} {S : Nat → List Nat × Nat} {T : Nat} (hf : findL ws [] rs = some fs0) (h : Waves ld ws fs0 S T) : IsLed ld ws rs (S T).1 := by
  obtain ⟨a1, a2, _, a4⟩ := findL_good hf (good_nil ws)
  obtain ⟨b1, b2, b3, b4⟩ := h.found a1
  refine ⟨b1, fun p => ⟨fun hp => b4 (Led ld rs) (fun q hq => ?_) (fun q hq x hx hw => .step hq hx hw) p hp, fun hp => ?_⟩⟩
  · rcases a4 q hq with h | ⟨h, hw⟩
    · cases h
    · exact .root h hw
  · induction hp with
    | root h1 h2 => exact b2 _ (a2 _ h1 h2).2
    | step _ h2 h3 ih => exact (b3 _ ih _ h2 h3).2
theorem WavesNo.loose {ld : Nat → List Nat} {ws rs fs0 : List Nat} {S : Nat → List Nat × Nat} {T : Nat} (hf : findL ws [] rs = some fs0) (h : WavesNo ld ws fs0 S T) : ∃ x, Led ld rs x ∧ ¬ isP ws x := by
  obtain ⟨a1, a2, _, a4⟩ := findL_good hf (good_nil ws)
  have key : ∀ t, t ≤ T → Good ws (S t).1 ∧ ∀ p ∈ (S t).1, Led ld rs p := by
    intro t
    induction t with
    | zero =>
      intro _
      rw [h.zero]
      refine ⟨a1, fun q hq => ?_⟩
      rcases a4 q hq with h | ⟨h, hw⟩
      · cases h
      · exact .root h hw
    | succ t ih =>
      intro ht
      obtain ⟨i1, i2⟩ := ih (by omega)
      obtain ⟨s1, s2, s3⟩ := h.step t (by omega)
      obtain ⟨b1, b2, b3, b4⟩ := askL_good s2 i1
      refine ⟨b1, fun p hp => ?_⟩
      rcases b4 p hp with h5 | ⟨q, hq, h6, hw⟩
      · exact i2 p h5
      · exact .step (i2 q (List.mem_of_mem_drop hq)) h6 hw
  obtain ⟨p, hp, x, hx, hw, hn⟩ := askL_loose h.last.2
  exact ⟨x, .step ((key T (Nat.le_refl _)).2 p (List.mem_of_mem_drop hp)) hx hw, hn⟩
theorem good_len {w : World} {base g gc cap gb gb2 size last : Nat} {L ws : List Nat} (h : HeapAt w base g gc cap gb gb2 size last L ws) {fs : List Nat} (hg : Good ws fs) : fs.length ≤ size := by
  have h1 : (fs.map (· / 2)).Nodup := by
    refine List.pairwise_map.2 (hg.1.imp_of_mem ?_)
    intro x y hx hy hne e
    have := (hg.2 x hx).1
    have := (hg.2 y hy).1
    exact hne (by omega)
  have := len_le size _ h1 (fun x hx => by
    obtain ⟨p, hp, rfl⟩ := List.mem_map.1 hx
    exact (hg.2 p hp).lt h)
  simpa using this
section
variable {w w' : World} {base g gc cap gb gb2 size last : Nat} {L ws : List Nat}
def NoReach (w : World) (e : Ending) (w' : World) : Prop := e = .returned (.tuple #[.pointer none, .int .i64 0, .int .i64 13]) ∧ Below w.heap.size w w'
end
end Go.Proofs.Ytkmlclhkkklmeaa.Fl

/-
  What can be reached: less leads to less; the order of the words does not matter.
-/
namespace Go.Proofs.Ytkmlclhkkklmeaa.Fl
open Go.RowKit

theorem sumC_erase (cn : Nat → Nat) : ∀ (l : List Nat) (x : Nat), x ∈ l → sumC cn l = 2 + cn x + sumC cn (l.erase x)
  | [], x, h => by cases h
  | a :: t, x, h => by
    by_cases e : a = x
    · subst e; rw [List.erase_cons_head, sumC]
    · have hx : x ∈ t := by
        rcases List.mem_cons.1 h with h | h
        · exact absurd h.symm e
        · exact h
      rw [List.erase_cons_tail (by simpa using e), sumC, sumC, sumC_erase cn t x hx]; omega
theorem sumC_sub (cn : Nat → Nat) : ∀ (a b : List Nat), a.Nodup → (∀ x ∈ a, x ∈ b) → sumC cn a ≤ sumC cn b
  | [], b, _, _ => by rw [sumC]; exact Nat.zero_le _
  | x :: t, b, hn, h => by
    have hn' := List.nodup_cons.1 hn
    have := sumC_sub cn t (b.erase x) hn'.2 (fun y hy => (List.mem_erase_of_ne (by rintro rfl; exact hn'.1 hy)).2 (h y (by simp [hy])))
    rw [sumC, sumC_erase cn b x (h x (by simp))]; omega
section
variable {ld : Nat → List Nat} {cn : Nat → Nat} {ws rs rs' fs fs' : List Nat}
theorem IsLed.sub (h : IsLed ld ws rs fs) (h' : IsLed ld ws rs' fs') (hr : ∀ y ∈ rs, isW y → Led ld rs' y) : (∀ x ∈ fs, x ∈ fs') ∧ sumC cn fs ≤ sumC cn fs' := by
  have hs : ∀ x ∈ fs, x ∈ fs' := fun x hx => (h'.mem x).2 (((h.mem x).1 hx).mono hr)
  exact ⟨hs, sumC_sub cn fs fs' h.good.1 hs⟩
/-- what is behind something that is led to is led to -/
theorem IsLed.one (h : IsLed ld ws rs fs) {p : Nat} (hp : p ∈ fs) {fs' : List Nat} (h' : IsLed ld ws [p] fs') : (∀ x ∈ fs', x ∈ fs) ∧ sumC cn fs' ≤ sumC cn fs :=
  h'.sub h (fun y hy _ => by rw [List.mem_singleton] at hy; subst hy; exact (h.mem _).1 hp)
/-- behind something that is led to nothing is loose, if nothing is behind all -/
theorem IsLed.tight (h : IsLed ld ws rs fs) {p : Nat} (hp : p ∈ fs) : ¬ ∃ x, Led ld [p] x ∧ ¬ isP ws x := by
  rintro ⟨x, hx, hn⟩
  have : Led ld rs x := hx.mono (fun y hy _ => by rw [List.mem_singleton] at hy; subst hy; exact (h.mem _).1 hp)
  exact hn (h.good.2 x ((h.mem x).2 this))
/-- roots in another order -/
theorem IsLed.same (h : IsLed ld ws rs fs) (h' : IsLed ld ws rs' fs') (h1 : ∀ y, y ∈ rs ↔ y ∈ rs') : (∀ x, x ∈ fs ↔ x ∈ fs') ∧ sumC cn fs = sumC cn fs' := by
  obtain ⟨a, b⟩ := h.sub (cn := cn) h' (fun y hy hw => .root ((h1 y).1 hy) hw)
  obtain ⟨c, d⟩ := h'.sub (cn := cn) h (fun y hy hw => .root ((h1 y).2 hy) hw)
  exact ⟨fun x => ⟨a x, c x⟩, by omega⟩
theorem IsLed.loose (h : IsLed ld ws rs fs) : ¬ ∃ x, Led ld rs x ∧ ¬ isP ws x := by
  rintro ⟨x, hx, hn⟩
  exact hn (h.good.2 x ((h.mem x).2 hx))
end
end Go.Proofs.Ytkmlclhkkklmeaa.Fl
