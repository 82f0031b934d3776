/-
  Decode: an image of memory that nothing is wrong with, read back.
-/
import Derived.Test.YtahmljjjdoaahaaDoorLoad
import Derived.Test.YtahmljjjdoaahaaDoorClosed
import Derived.Test.YtahmljjjdoaahaaDoorEnc
namespace Go.Proofs.YtahmljjjdoaahaaDoor.Fl
open Go.RowKit

theorem wpList_append_d {w : World} {base c : Nat} {A : Option Addr} {xs news : List Nat} {v : Value} {ops : Array Oper} {rest : List Oper} {o : Oper} {a : Act} {Q : Exit → Act → World → Prop} (hg : o.guard = none) (s x : Operand) (ho : o.op = .call { callee := .builtin .append, args := #[s, x], argTypes := #[44, 44] })
    (hs : a.eval s = v) (hx : a.eval x = .slice A news.length c) (hown : OwnH w base v xs) (hr : Rd w w.heap.size A (cw news)) (hA : A = none → news.length = 0) (hl : xs.length ≤ 1000000) (hl2 : news.length ≤ 1000000) (hb : base ≤ w.heap.size)
    (h : ∀ A' ts c' w', Hid (ts = xs ++ news) → Hid (OwnH w' base (.slice A' ts.length c') ts) → Hid (Below base w w') → wpList Tryd.prog ops Q rest (a.put o.dst (.slice A' ts.length c')) w') : wpList Tryd.prog ops Q (o :: rest) a w := by
  obtain ⟨i0, hi, hz0, hz1, hz2⟩ := info_parts wordinfo
  refine wpList_append_rd (base := base) (size := 1) (bytes := 8) (n := xs.length) (m := news.length) (c := c) (v := v) (xs := cw xs) (news := cw news) hg s x ho Tryd.underlying44 hi hz0 hz1 hz2 rfl (by decide) hs hx hown hr (by rw [cw_len]; omega) hA (cw_one news) (by unfold maxLen; omega) (by omega) hb ?_
  intro v' w' happ
  obtain ⟨A', c', rfl, _, _⟩ := happ.slice
  have e : xs.length + news.length = (xs ++ news).length := by simp
  have ho := happ.own
  rw [e, show cw xs ++ cw news = cw (xs ++ news) by simp [cw]] at ho
  rw [e]
  exact h A' (xs ++ news) c' w' (Lib.hid rfl) (Lib.hid ho) (Lib.hid ((Below.refl _ _).grown happ.grown hb (fun j hj => (World.ownsRow.lt hown j hj).1)))
theorem zw_made (k : Nat) : madeCells #[Value.int .u64 0] (k * 1) = (cw (List.replicate k 0)).toArray := by
  apply Array.toList_inj.1
  rw [toList_madeCells_one]; simp [cw]
theorem make_wcap (w : World) (n : Nat) (h : n ≤ 200000) :
    (Instr.makeSlice 44 (.int .i64 0) (.int .i64 (n : Int))).run Tryd.prog w = .ok (.slice (some ⟨w.heap.size, 0, none⟩) 0 n) (w.alloc (.cells (cw (List.replicate n 0)).toArray 38)) := by
  obtain ⟨i0, hi, hz0, hz1, hz2⟩ := info_parts wordinfo
  have hmk := run_make (P := Tryd.prog) w 44 38 i0 (.int .u64 0) Tryd.underlying44 hi hz0 .i64 .i64 0 (n : Int) (by omega) (by omega) (by rw [hz2]; omega) (by omega)
  rw [hmk, hz1, Int.toNat_natCast, show (Value.int .u64 0).cells = #[Value.int .u64 0] from rfl, zw_made]
  rfl
theorem wpList_make_wcap (w : World) {ops : Array Oper} {rest : List Oper} {o : Oper} {a : Act} {Q : Exit → Act → World → Prop} (hg : o.guard = none) (l c : Operand) (hop : o.op = Op.makeSlice 44 l c)
    (n : Nat) {z : Int} (hz : z = (n : Int)) (hl : a.eval l = .int .i64 0) (hc : a.eval c = .int .i64 z) (h : n ≤ 20000)
    (hK : ∀ w', Hid (OwnH w' w.heap.size (.slice (some ⟨w.heap.size, 0, none⟩) 0 n) []) → Hid (Below w.heap.size w w') → wpList Tryd.prog ops Q rest (a.put o.dst (.slice (some ⟨w.heap.size, 0, none⟩) 0 n)) w') :
    wpList Tryd.prog ops Q (o :: rest) a w :=
  wpList_make_run w _ hg l c _ hop _ _ _ hl (hz ▸ hc) (make_wcap w n (by omega)) (hK _ (Lib.hid ⟨rfl, .inr ⟨_, _, _, rfl, Nat.le_refl _, heap_alloc_new w _, Nat.zero_le _, by unfold maxLen; omega, by simp [cw], by simp [cw]⟩⟩) (Lib.hid ((Below.refl _ _).alloc (Nat.le_refl _) _)))
theorem closedB_congr {ws ws' : List Nat} {os : List Ob} (h : ∀ p, isP ws p ↔ isP ws' p) : closedB ws os = closedB ws' os := by
  have hd : ∀ p, decide (isP ws p) = decide (isP ws' p) := fun p => decide_eq_decide.2 (h p)
  have hg : goodW ws = goodW ws' := by
    funext x
    unfold goodW
    exact decide_eq_decide.2 (by rw [h x])
  have ho : closedO ws = closedO ws' := by
    funext o
    unfold closedO
    rw [hd, hg]
  unfold closedB
  rw [ho]
/-- the body of an image as words -/
theorem img_mid (root : Nat) (D : List Nat) : ((imgB 0 root D).drop 8).take (24 + 8 * D.length) = wb (D.length :: 0 :: root :: D) := by
  unfold imgB imgBody
  rw [List.append_assoc, List.drop_append_of_le_length (by decide), show imgOpen.drop 8 = [] from rfl, List.nil_append, wb_head, List.take_append_of_le_length (by rw [wb_len]; simp; omega), List.take_of_length_le (by rw [wb_len]; simp; omega)]
def DecPost (os : List Ob) (ws : List Nat) (root size : Nat) (w : World) (e : Ending) (w' : World) : Prop := ∃ (v : Value) (x : Nat) (r : Nat), e = .returned (.tuple #[v, .int .u64 (x : Int), .int .i64 (r : Int)]) ∧ Below w.heap.size w w' ∧
  (size < (Lof os).length → r = 8 ∧ v = .pointer none) ∧ ((Lof os).length ≤ size → closedB ws os = false → r = 13 ∧ v = .pointer none) ∧
  ((Lof os).length ≤ size → closedB ws os = true → r = 0 ∧ x = root ∧ ∃ B g gc cap gb gb2 ws', v = .pointer (some ⟨g, 0, none⟩) ∧ w.heap.size ≤ B ∧ ObsAt w' B g gc cap gb gb2 size 0 os ws')
end Go.Proofs.YtahmljjjdoaahaaDoor.Fl
