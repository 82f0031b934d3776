/-
  First and After: object by object.
-/
import Derived.Test.YthppamfhkcdjdaaDoorPDoc
import Derived.Test.YthppamfhkcdjdaaDoorPHeap
namespace Go.Proofs.YthppamfhkcdjdaaDoor.Fl
open Go.RowKit

section
variable {base g gc cap gb gb2 size last : Nat} {L ws : List Nat}
def standN (L : List Nat) (n : Nat) : Nat := if n < L.length then 2 * n else 0
theorem standing_any (n : Nat) (w : World) (h : HeapAt w base g gc cap gb gb2 size last L ws) (h1 : 1 ≤ n) (h2 : n ≤ 16777216) :
    Calls Tryd.prog 62 #[.pointer (some ⟨g, 0, none⟩), .int .i64 (n : Int)] w fun e w' => e = .returned (.int .u64 (standN L n : Int)) ∧ w = w' := by
  have hrm := h.room
  have hsm := h.small
  have hu := used_any w h
  by_cases hlt : n < L.length
  · have hp := fun w' => hpointer_any n w' h1 (by omega)
    have HE := Lib.hid (show (standN L n : Int) = (n : Int) * 2 by unfold standN; rw [if_pos hlt]; omega)
    have e1 : ¬ ((L.length : Int) ≤ (n : Int)) := by omega
    clear h
    go_enter Tryd.func62, Tryd.ntmps62
    go_wp2_with (first
      | (go_at_call 21; (with_reducible refine hu.mono ?_); rintro e w' ⟨rfl, rfl⟩)
      | (go_at_call 75; (with_reducible refine (hp _).mono ?_); rintro e w' ⟨rfl, rfl⟩))
    go_ret
    exact ⟨by rw [HE.out]; rfl, rfl⟩
  · have HE := Lib.hid (show (standN L n : Int) = 0 by unfold standN; rw [if_neg hlt]; rfl)
    have e1 : (L.length : Int) ≤ (n : Int) := by omega
    clear h
    go_enter Tryd.func62, Tryd.ntmps62
    go_wp2_with (go_at_call 21; (with_reducible refine hu.mono ?_); rintro e w' ⟨rfl, rfl⟩)
    go_ret
    exact ⟨by rw [HE.out]; rfl, rfl⟩
theorem first_any (w : World) (h : HeapAt w base g gc cap gb gb2 size last L ws) :
    Calls Tryd.prog 25 #[.pointer (some ⟨g, 0, none⟩)] w fun e w' => e = .returned (.int .u64 (standN L 2 : Int)) ∧ w = w' := by
  have hs := standing_any 2 w h (by decide) (by decide)
  rw [show ((2 : Nat) : Int) = 2 from rfl] at hs
  clear h
  go_enter Tryd.func25, Tryd.ntmps25
  go_wp2_with (go_at_call 62; (with_reducible refine hs.mono ?_); rintro e w' ⟨rfl, rfl⟩)
  go_ret
  exact ⟨rfl, rfl⟩
end
/-- the pointer to object k, 0 behind the last one -/
def standK (os : List Ob) (k : Nat) : Nat := if k < os.length then 2 * pos os k else 0
theorem standN_pos {os : List Ob} {k : Nat} (h : k ≤ os.length) : standN (Lof os) (pos os k) = standK os k := by
  unfold standN standK
  by_cases hk : k < os.length
  · have := pos_top os hk
    rw [if_pos hk, if_pos (by omega)]
  · have e : k = os.length := by omega
    subst e
    rw [pos_all, if_neg (Nat.lt_irrefl _), if_neg (Nat.lt_irrefl _)]
section
variable {w : World} {base g gc cap gb gb2 size last : Nat} {os : List Ob} {ws : List Nat}
theorem ofirst_any (h : ObsAt w base g gc cap gb gb2 size last os ws) :
    Calls Tryd.prog 25 #[.pointer (some ⟨g, 0, none⟩)] w fun e w' => e = .returned (.int .u64 (standK os 0 : Int)) ∧ w = w' := by
  have h1 := first_any w h.heap
  rw [← pos_zero os, standN_pos (Nat.zero_le _)] at h1
  exact h1
set_option maxHeartbeats 1000000 in
theorem oafter_any {k : Nat} (hk : k < os.length) (_hB : base ≤ w.heap.size) (h : ObsAt w base g gc cap gb gb2 size last os ws) :
    Calls Tryd.prog 26 #[.pointer (some ⟨g, 0, none⟩), .int .u64 ((pos os k : Int) * 2)] w fun e w' => e = .returned (.int .u64 (standK os (k + 1) : Int)) ∧ Below w.heap.size w w' := by
  have hob := object_yes (pos os k) os[k].cl os[k].kind os[k].sz os[k].hash os[k].mark w h.heap (headIn h.ok hk) (h.bit hk) (by have := pos_two os k; omega)
  have hok := h.okAt hk
  have hc := fun w' => cells_any os[k].cl os[k].kind os[k].sz os[k].hash os[k].mark w' (by omega) (by have := hok.lt; omega)
  rw [hok.len] at hc
  have hs := fun w' (hb : Below w.heap.size w w') => standing_any (pos os (k + 1)) w' (h.below hb).heap (by have := pos_two os (k + 1); omega) (by have := pos_top os hk; have := pos_succ os hk; have := h.len; omega)
  rw [standN_pos hk, pos_succ os hk] at hs
  have hpl : pos os k + os[k].xs.length ≤ 16777216 := by have := pos_top os hk; have := h.len; omega
  generalize os[k].xs.length = xl at *
  generalize pos os k = P at *
  generalize os[k].cl = cl at *
  generalize os[k].kind = kind at *
  generalize os[k].sz = sz at *
  generalize os[k].hash = hash at *
  generalize os[k].mark = mark at *
  clear h hok
  go_enter Tryd.func26, Tryd.ntmps26
  have hb3 : ∀ (w1 w2 : World) (o : Obj), Below w.heap.size w w1 → Below (w1.alloc o).heap.size (w1.alloc o) w2 → Below w.heap.size w w2 := fun w1 w2 o b1 b2 => (b1.alloc b1.size o).trans (b2.mono (by have := b1.size; simp; omega))
  have HE := Lib.hid (show (P : Int) + 2 + (xl : Int) = ((P + 2 + xl : Nat) : Int) by omega)
  go_wp2_with (first
    | (go_at_call 48; (with_reducible refine hob.mono ?_); rintro e w1 ⟨rfl, hb1⟩)
    | (go_at_call 55; (with_reducible refine (hc _).mono ?_); rintro e w2 ⟨rfl, hb2⟩)
    | (rw [HE.out]; go_at_call 62; (refine (hs _ (hb3 _ _ _ hb1 hb2)).mono ?_); rintro e w' ⟨rfl, rfl⟩))
  go_ret
  exact ⟨rfl, hb3 _ _ _ hb1 hb2⟩
end
theorem standK_lt {os : List Ob} {k : Nat} (h : k < os.length) : standK os k = 2 * pos os k := if_pos h
theorem standK_end {os : List Ob} {k : Nat} (h : os.length ≤ k) : standK os k = 0 := if_neg (by omega)
/-- how many objects stand from here on -/
def leftZ (os : List Ob) (z : Int) : Nat := if z = 0 then 0 else os.length - idx os z.toNat
def leftK (os : List Ob) (v : Value) : Nat := leftZ os (intOf v)
theorem leftK_lt {os : List Ob} {k : Nat} (h : k < os.length) : leftK os (.int .u64 (standK os k : Int)) = os.length - k := by
  have hp := pos_two os k
  show leftZ os (standK os k : Int) = _
  rw [standK_lt h]
  unfold leftZ
  rw [if_neg (by omega), show ((2 * pos os k : Nat) : Int).toNat = 2 * pos os k by omega, idx_pos os h]
theorem leftK_end {os : List Ob} {k : Nat} (h : os.length ≤ k) : leftK os (.int .u64 (standK os k : Int)) = 0 := by
  show leftZ os (standK os k : Int) = _
  rw [standK_end h]
  exact if_pos rfl
theorem leftK_step {os : List Ob} {k : Nat} (h : k < os.length) : leftK os (.int .u64 (standK os (k + 1) : Int)) < leftK os (.int .u64 (standK os k : Int)) := by
  rw [leftK_lt h]
  by_cases h1 : k + 1 < os.length
  · rw [leftK_lt h1]; omega
  · rw [leftK_end (by omega)]; omega
end Go.Proofs.YthppamfhkcdjdaaDoor.Fl
