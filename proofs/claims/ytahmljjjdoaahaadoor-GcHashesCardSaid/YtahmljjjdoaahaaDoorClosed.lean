/-
  Does all lead to objects? Closed, of any memory.
-/
import Derived.Test.YtahmljjjdoaahaaDoorPDoc
import Derived.Test.YtahmljjjdoaahaaDoorPReach
import Derived.Test.YtahmljjjdoaahaaDoorStand
import Derived.Test.YtahmljjjdoaahaaDoorPHeap
import Derived.Test.YtahmljjjdoaahaaDoorPHead
namespace Go.Proofs.YtahmljjjdoaahaaDoor.Fl
open Go.RowKit

theorem one_cell' {w : World} {g : Nat} {v : Value} {T : TypeId} (h : w.heap[g]? = some (.cells #[v] T (0, 0))) : w.cell? ⟨g, 0, none⟩ = some v ∧ ∀ k, w.frozen? ⟨g, k, none⟩ = false :=
  ⟨cell_of_row _ _ _ _ _ _ h, fun _ => frozen_of_row _ _ _ _ _ h⟩
/-- a word that leads to nothing, or to an object -/
def goodW (ws : List Nat) (x : Nat) : Bool := decide (x = 0 ∨ x % 2 = 1 ∨ isP ws x)
def closedO (ws : List Nat) (o : Ob) : Bool := decide (isP ws o.cl) && (decide (o.kind = 2) || o.xs.all (goodW ws))
def closedB (ws : List Nat) (os : List Ob) : Bool := os.all (closedO ws)
section
variable {w w' : World} {base g gc cap gb gb2 size last : Nat} {L ws : List Nat} {os : List Ob}
theorem hhas_dec (x : Nat) (w : World) (h : HeapAt w base g gc cap gb gb2 size last L ws) (hx : x < 18446744073709551616) :
    Calls Tryd.prog 70 #[.pointer (some ⟨g, 0, none⟩), .int .u64 (x : Int)] w fun e w' => e = .returned (.bool (decide (isP ws x))) ∧ w = w' := by
  by_cases hp : isP ws x
  · have hp' := hp
    obtain ⟨p1, p2, p3, p4⟩ := hp'
    have := hhas_any (x / 2) w h (by omega) (by omega)
    rw [show ((x / 2 : Nat) : Int) * 2 = (x : Int) by omega, p4] at this
    rw [decide_eq_true hp]; exact this
  · rw [decide_eq_false hp]; exact hhas_no x w h hx hp
theorem is_dec (x : Nat) (w : World) (hx : x < 18446744073709551616) :
    Calls Tryd.prog 62 #[.int .u64 (x : Int)] w fun e w' => e = .returned (.bool (decide (x % 2 = 1))) ∧ w = w' := by
  by_cases hp : x % 2 = 1
  · rw [decide_eq_true hp]; exact is_odd _ w (by omega) (by omega) (by omega)
  · rw [decide_eq_false hp]; exact is_even _ w (by omega) (by omega) (by omega)
def ClosedPost (b : Bool) (w : World) (e : Ending) (w' : World) : Prop := e = .returned (.bool b) ∧ Below w.heap.size w w'
def CHead (o : Ob) (w : World) (e : Ending) (w' : World) : Prop := e = .returned (.tuple #[.agg #[.int .u64 (o.cl : Int), .int .i64 (o.kind : Int), .int .i64 (o.sz : Int), .int .u32 (o.hash : Int), .bool o.mark], .int .i64 0]) ∧ Below w.heap.size w w'
theorem ohead_any {k : Nat} (hk : k < os.length) (h : ObsAt w base g gc cap gb gb2 size last os ws) :
    Calls Tryd.prog 10 #[.pointer (some ⟨g, 0, none⟩), .int .u64 (standK os k : Int)] w (CHead os[k] w) := by
  have := head_yes (pos os k) os[k].cl os[k].kind os[k].sz os[k].hash os[k].mark w h.heap (headIn h.ok hk) (h.bit hk) (by have := pos_two os k; omega)
  rw [show (pos os k : Int) * 2 = (standK os k : Int) by unfold standK; rw [if_pos hk]; omega] at this
  exact this
def CGet (x : Nat) (w : World) (e : Ending) (w' : World) : Prop := e = .returned (.tuple #[.int .u64 (x : Int), .int .i64 0]) ∧ Below w.heap.size w w'
theorem oget_any {k j : Nat} (hk : k < os.length) (h : ObsAt w base g gc cap gb gb2 size last os ws) (h2 : os[k].kind ≠ 2) (hj : j < os[k].xs.length) :
    Calls Tryd.prog 71 #[.pointer (some ⟨g, 0, none⟩), .int .u64 (standK os k : Int), .int .i64 (j : Int)] w (CGet os[k].xs[j] w) := by
  have hxs := (h.okAt hk).words h2
  have := get_yes (pos os k) j os[k].cl os[k].kind os[k].sz os[k].hash os[k].xs[j] os[k].mark w h.heap (headIn h.ok hk) (h.bit hk) (by have := pos_two os k; omega) h2 (by omega) (by
    rw [Nat.add_assoc, Lof_at os hk (2 + j) (by omega)]
    show (os[k].cl :: pk _ _ _ _ :: os[k].xs)[2 + j]? = _
    rw [show 2 + j = j + 1 + 1 by omega, List.getElem?_cons_succ, List.getElem?_cons_succ, List.getElem?_eq_getElem hj])
  rw [show (pos os k : Int) * 2 = (standK os k : Int) by unfold standK; rw [if_pos hk]; omega] at this
  exact this
theorem all_take {α : Type} {f : α → Bool} {l : List α} {j : Nat} (hj : j < l.length) : (l.take (j + 1)).all f = ((l.take j).all f && f l[j]) := by
  rw [List.take_succ_eq_append_getElem hj, List.all_append]; simp
theorem all_false {α : Type} {f : α → Bool} {l : List α} {j : Nat} (hj : j < l.length) (h : f l[j] = false) : l.all f = false := by
  rw [List.all_eq_false]
  exact ⟨l[j], List.getElem_mem hj, by simp [h]⟩
end
end Go.Proofs.YtahmljjjdoaahaaDoor.Fl
