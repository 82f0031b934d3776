/-
  Contracts of the document's Spare, Kept, Equal.
-/
import Derived.Test.YthklbpcpmmpfmaaDoorNum
import Derived.Laws.BytesArg
import Derived.Laws.BytesString
namespace Go.Proofs.YthklbpcpmmpfmaaDoor.Fl
open Go.RowKit

/-- what Spare lays at place i -/
def sp (xs : List UInt8) (i : Nat) : UInt8 := if h : i < xs.length then xs[i] else UInt8.ofNat ((190 + i) % 256)
theorem sp_in {xs : List UInt8} {i : Nat} (h : i < xs.length) : sp xs i = xs[i] := dif_pos h
theorem sp_out {xs : List UInt8} {i : Nat} (h : ¬ i < xs.length) : ((sp xs i).toNat : Int) = (190 + (i : Int)) % 256 := by
  unfold sp; rw [dif_neg h, byte_of]; omega
theorem make_whole (w : World) (l : Nat) (h : l + 7 ≤ 200000) :
    (Instr.makeSlice 76 (.int .i64 ((l : Int) + 7)) (.int .i64 ((l : Int) + 7))).run Tryd.prog w = .ok (.slice (some ⟨w.heap.size, 0, none⟩) (l + 7) (l + 7)) (w.alloc (.cells (cb (zb (l + 7))).toArray 5)) := by
  obtain ⟨i0, hi, hz0, hz1, hz2⟩ := info_parts u8info
  have hmk := run_make (P := Tryd.prog) w 76 5 i0 (.int .u8 0) Tryd.underlying76 hi hz0 .i64 .i64 ((l : Int) + 7) ((l : Int) + 7) (by omega) (by omega) (by rw [hz2]; omega) (by omega)
  rw [hmk, hz1, show ((l : Int) + 7).toNat = l + 7 by omega, show (Value.int .u8 0).cells = #[Value.int .u8 0] from rfl, zb_made]
theorem own_zero (w : World) (n : Nat) (h : n ≤ maxLen) : Own (w.alloc (.cells (cb (zb n)).toArray 5)) w.heap.size (.slice (some ⟨w.heap.size, 0, none⟩) n n) (zb n) := by
  have e : (zb n).length = n := by simp [zb]
  unfold Own
  rw [e]
  exact ⟨by simp [cb, zb], .inr ⟨_, _, _, rfl, Nat.le_refl _, heap_alloc_new w _, Nat.le_refl _, h, by simp [cb, zb], by rw [List.take_of_length_le (by simp [cb, zb])]⟩⟩
theorem wpList_make_whole (w : World) {ops : Array Oper} {rest : List Oper} {o : Oper} {a : Act} {Q : Exit → Act → World → Prop} (hg : o.guard = none) (l c : Operand) (hop : o.op = Op.makeSlice 76 l c)
    (L : Nat) (hl : a.eval l = .int .i64 ((L : Int) + 7)) (hc : a.eval c = .int .i64 ((L : Int) + 7)) (h : L + 7 ≤ 200000)
    (hK : ∀ w', Hid (Own w' w.heap.size (.slice (some ⟨w.heap.size, 0, none⟩) (L + 7) (L + 7)) (zb (L + 7))) → Below w.heap.size w w' → w.heap.size < w'.heap.size → wpList Tryd.prog ops Q rest (a.put o.dst (.slice (some ⟨w.heap.size, 0, none⟩) (L + 7) (L + 7))) w') :
    wpList Tryd.prog ops Q (o :: rest) a w :=
  wpList_make_run w _ hg l c _ hop _ _ _ hl hc (make_whole w L h) (hK _ (own_zero w _ (by unfold maxLen; omega)) ((Below.refl _ _).alloc (Nat.le_refl _) _) (by simp))
theorem own_set {w : World} {base g n cap : Nat} {L : List UInt8} (h : Own w base (.slice (some ⟨g, 0, none⟩) n cap) L) (hn : L.length = n) (j : Nat) (c : UInt8) {z : Int} (hz : z = (c.toNat : Int)) : Own (w.setCell ⟨g, j, none⟩ (.int .u8 z)) base (.slice (some ⟨g, 0, none⟩) n cap) (L.set j c) := by
  subst hn
  have := (World.ownsRow.stored h j (.int .u8 z)).1
  unfold Own
  rw [List.length_set]
  have e : cb (L.set j c) = (cb L).set j (.int .u8 z) := by unfold cb; rw [List.map_set, hz]
  rw [e]; exact this
theorem own_cell {w : World} {base g n cap : Nat} {L : List UInt8} (h : Own w base (.slice (some ⟨g, 0, none⟩) n cap) L) (hn : L.length = n) {j : Nat} (hj : j < L.length) : w.cell? ⟨g, j, none⟩ = some (.int .u8 (L[j].toNat : Int)) := by
  subst hn
  rw [World.ownsRow.cellAt h j (by omega), cb_at _ _ hj]
theorem own_free {w : World} {base g n cap : Nat} {L : List UInt8} (h : Own w base (.slice (some ⟨g, 0, none⟩) n cap) L) (hn : L.length = n) (j : Nat) : w.frozen? ⟨g, j, none⟩ = false := by
  subst hn; exact World.ownsRow.frozenAt h j
theorem fill_step {xs L : List UInt8} {k : Nat} (h : ∀ i, i < k → L[i]? = some (sp xs i)) (hk : k < L.length) : ∀ i, i < k + 1 → (L.set k (sp xs k))[i]? = some (sp xs i) := by
  intro i hi
  rw [List.getElem?_set]
  by_cases e : k = i
  · subst e; rw [if_pos rfl, if_pos hk]
  · rw [if_neg e]; exact h i (by omega)
theorem tint_w (k : Nat) : (190 + (k : Int)) % 256 = ((UInt8.ofNat ((190 + k) % 256)).toNat : Int) := by rw [byte_of]; omega
def SparePost (xs : List UInt8) (w : World) (e : Ending) (w' : World) : Prop := ∃ g L, e = .returned (.tuple #[.slice (some ⟨g, 0, none⟩) xs.length (xs.length + 7), .slice (some ⟨g, 0, none⟩) (xs.length + 7) (xs.length + 7)]) ∧ w.heap.size ≤ g ∧ L.length = xs.length + 7 ∧ Own w' w.heap.size (.slice (some ⟨g, 0, none⟩) (xs.length + 7) (xs.length + 7)) L ∧ (∀ i, i < xs.length + 7 → L[i]? = some (sp xs i)) ∧ Below w.heap.size w w'
theorem nums_getD (xs : List UInt8) (i : Nat) (h : i < xs.length) : (xs.map fun c => (c.toNat : Int)).getD i 0 = (xs[i].toNat : Int) := by
  rw [List.getD_eq_getElem?_getD, List.getElem?_map, List.getElem?_eq_getElem h]; rfl
theorem conv_str {w : World} {B : Nat} {A : Option Addr} {xs : List UInt8} (c : Nat) (hr : Rd w B A (cb xs)) : (convert 76 9 (.slice A xs.length c)).run Tryd.prog w = .ok (.string (strOfNums (xs.map fun c => (c.toNat : Int)))) w := by
  rcases Nat.eq_zero_or_pos xs.length with h | h
  · obtain rfl := List.eq_nil_of_length_eq_zero h
    have h0 := run_convert_bytes_string (P := Tryd.prog) w 76 9 5 A 0 c Tryd.underlying76 Tryd.underlying5 Tryd.underlying9
    rw [show ([] : List UInt8).length = 0 from rfl, h0]
    cases A <;> simp [Conv.bytesToString, loadCells] <;> rfl
  · obtain ⟨b, off, rfl, _, _⟩ := rdb_at hr h
    refine run_convert_bytes_arg w 76 5 Tryd.underlying76 Tryd.underlying5 b off xs.length c _ (by simp) (fun i hi => ?_) 9 Tryd.underlying9
    obtain ⟨b', off', e, _, hc⟩ := rdb_at hr hi
    obtain ⟨rfl, rfl⟩ : b = b' ∧ off = off' := by injection e with e; injection e with h1 h2 _; exact ⟨h1, h2⟩
    rw [nums_getD _ _ hi]; exact hc
end Go.Proofs.YthklbpcpmmpfmaaDoor.Fl
