/-
  CodeRuns: places of the law's own.
-/
import Derived.Test.YtdfghcbojbbgcaaDoorCeQ
import Derived.Test.YtdfghcbojbbgcaaDoorCdY
namespace Go.Proofs.YtdfghcbojbbgcaaDoor.Fl
open Go.RowKit Go.Maps

abbrev Plc := Int × Int
def cp : List Plc → List Value
  | [] => []
  | x :: l => [.int .i64 x.1, .int .i64 x.2] ++ cp l
theorem cp_len : ∀ l : List Plc, (cp l).length = l.length * 2
  | [] => rfl
  | x :: l => by rw [cp, List.length_append, cp_len l, List.length_cons]; show 2 + l.length * 2 = (l.length + 1) * 2; omega
theorem cp_app : ∀ l m : List Plc, cp (l ++ m) = cp l ++ cp m
  | [], _ => rfl
  | x :: l, m => by rw [List.cons_append, cp, cp, cp_app l m, List.append_assoc]
theorem cp_one : ∀ (l : List Plc), ∀ v ∈ cp l, v.oneCell' = true
  | [], v, h => by cases h
  | x :: l, v, h => by
    rw [cp, List.mem_append] at h
    rcases h with h | h
    · simp only [List.mem_cons, List.not_mem_nil, or_false] at h
      rcases h with rfl | rfl <;> rfl
    · exact cp_one l v h
theorem placeinfo : (Tryd.prog.info? 31).map (fun i => (i.zero, i.size, i.bytes)) = some (some (.agg #[.int .i64 0, .int .i64 0]), 2, 16) := by kernel_rfl
def OwnP (w : World) (base : Nat) (v : Value) (l : List Plc) : Prop := w.ownsRow base 31 2 v l.length (cp l)
theorem OwnP.keep {w w' : World} {base : Nat} {v : Value} {xs : List Plc} (h : OwnP w base v xs) (hb : ∀ j, v.ownBlock = some j → w'.heap[j]? = w.heap[j]?) : OwnP w' base v xs :=
  ⟨h.1, h.2.elim .inl fun ⟨g, cap, cur, hv, hbg, hg, r⟩ => .inr ⟨g, cap, cur, hv, hbg, (hb g (by rw [hv]; rfl)).trans hg, r⟩⟩
theorem OwnP.below {w w' : World} {base : Nat} {v : Value} {xs : List Plc} (h : OwnP w base v xs) (hb : Below w.heap.size w w') : OwnP w' base v xs :=
  h.keep (fun j hj => hb.block j (World.ownsRow.lt h j hj).2)
theorem wpList_append_p {w : World} {base c : Nat} {A : Option Addr} {xs news : List Plc} {v : Value} {ops : Array Oper} {rest : List Oper} {o : Oper} {a : Act} {Q : Exit → Act → World → Prop} (hg : o.guard = none) (s x : Operand) (ho : o.op = .call { callee := .builtin .append, args := #[s, x], argTypes := #[32, 32] })
    (hs : a.eval s = v) (hx : a.eval x = .slice A news.length c) (hown : OwnP w base v xs) (hr : Rd w w.heap.size A (cp news)) (hA : A = none → news.length = 0) (hl : xs.length ≤ 100000000) (hl2 : news.length ≤ 100000000) (hb : base ≤ w.heap.size)
    (h : ∀ A' ts c' w', Hid (ts = xs ++ news) → Hid (OwnP w' base (.slice A' ts.length c') ts) → Hid (Below base w w' ∧ (∀ k, k < w.heap.size → some k ≠ v.ownBlock → w'.heap[k]? = w.heap[k]?) ∧ ((Value.slice A' ts.length c').ownBlock = v.ownBlock ∨ (Value.slice A' ts.length c').ownBlock = some w.heap.size)) → wpList Tryd.prog ops Q rest (a.put o.dst (.slice A' ts.length c')) w') : wpList Tryd.prog ops Q (o :: rest) a w := by
  obtain ⟨i0, hi, hz0, hz1, hz2⟩ := info_parts placeinfo
  refine wpList_append_rd (base := base) (size := 2) (bytes := 16) (n := xs.length) (m := news.length) (c := c) (v := v) (xs := cp xs) (news := cp news) hg s x ho Tryd.underlying32 hi hz0 hz1 hz2 rfl (by decide) hs hx hown hr (cp_len _) hA (cp_one news) (by unfold maxLen; omega) (by omega) hb ?_
  intro v' w' happ
  obtain ⟨A', c', rfl, _, _⟩ := happ.slice
  have e : xs.length + news.length = (xs ++ news).length := by simp
  have ho := happ.own
  have hat := happ.at_
  rw [e, show cp xs ++ cp news = cp (xs ++ news) from (cp_app _ _).symm] at ho
  rw [e] at hat ⊢
  exact h A' (xs ++ news) c' w' (Lib.hid rfl) (Lib.hid ho) (Lib.hid ⟨(Below.refl _ _).grown happ.grown hb (fun j hj => (World.ownsRow.lt hown j hj).1), happ.grown.block, hat⟩)
theorem rd_oneP (w : World) (x y : Int) : Rd (w.alloc (.cells #[.int .i64 x, .int .i64 y] 31)) (w.alloc (.cells #[.int .i64 x, .int .i64 y] 31)).heap.size (some ⟨w.heap.size, 0, none⟩) (cp [(x, y)]) := by
  refine .inr ⟨w.heap.size, 0, rfl, by rw [World.size_alloc]; omega, fun j v hj => ?_⟩
  rw [Nat.zero_add, cell_of_row _ _ _ _ _ _ (heap_alloc_new w _)]
  simpa [cp] using hj
theorem ownP_one (w : World) (base : Nat) (hb : base ≤ w.heap.size) (x y : Int) : OwnP (w.alloc (.cells #[.int .i64 x, .int .i64 y] 31)) base (.slice (some ⟨w.heap.size, 0, none⟩) 1 1) [(x, y)] :=
  ⟨rfl, .inr ⟨w.heap.size, 1, _, rfl, hb, heap_alloc_new w _, Nat.le_refl _, by unfold maxLen; decide, rfl, rfl⟩⟩
theorem OwnP.short {w : World} {base c : Nat} {A : Option Addr} {os : List Plc} {x : Plc} (h : OwnP w base (.slice A (os ++ [x]).length c) (os ++ [x])) : OwnP w base (.slice A os.length c) os := by
  rcases h.2 with ⟨_, e⟩ | ⟨g, cap, cur, e1, hb, hg, hc, hm, hs, ht⟩
  · rw [List.length_append, List.length_singleton] at e; omega
  · injection e1 with e1 e2 e3
    subst e1 e3
    refine ⟨cp_len os, .inr ⟨g, c, cur, rfl, hb, hg, ?_, hm, hs, ?_⟩⟩
    · rw [List.length_append, List.length_singleton] at hc; omega
    · have h9 := congrArg (List.take (os.length * 2)) ht
      rw [List.take_take, cp_app, List.take_left' (by rw [cp_len]), List.length_append, List.length_singleton, Nat.min_eq_left (by omega)] at h9
      exact h9
theorem ownP_cap {w : World} {base n c : Nat} {A : Option Addr} {os : List Plc} (h : OwnP w base (.slice A n c) os) : os.length ≤ c ∧ n = os.length := by
  rcases h.2 with ⟨e1, e⟩ | ⟨g, cap, cur, e1, hb, hg, hc, hm, hs, ht⟩
  · cases e1; omega
  · injection e1 with e1 e2 e3
    omega
theorem ownP_last {w : World} {base n c : Nat} {A : Option Addr} {os : List Plc} {x : Plc} (h : OwnP w base (.slice A n c) (os ++ [x])) : ∃ g, A = some ⟨g, 0, none⟩ ∧ g < w.heap.size ∧ w.cell? ⟨g, os.length * 2, none⟩ = some (.int .i64 x.1) ∧ w.cell? ⟨g, os.length * 2 + 1, none⟩ = some (.int .i64 x.2) := by
  rcases h.2 with ⟨_, e⟩ | ⟨g, cap, cur, e1, hb, hg, hc, _, hs, ht⟩
  · rw [List.length_append, List.length_singleton] at e; omega
  · injection e1 with e1 e2 e3
    have hl : (os ++ [x]).length = os.length + 1 := by rw [List.length_append, List.length_singleton]
    rw [hl, cp_app] at ht
    have h0 : (cp os ++ cp [x])[os.length * 2]? = some (.int .i64 x.1) := by
      rw [List.getElem?_append_right (by rw [cp_len]; exact Nat.le_refl _), cp_len, Nat.sub_self]; rfl
    have h1 : (cp os ++ cp [x])[os.length * 2 + 1]? = some (.int .i64 x.2) := by
      rw [List.getElem?_append_right (by rw [cp_len]; omega), cp_len, Nat.add_sub_cancel_left]; rfl
    rw [← ht, List.getElem?_take, if_pos (by omega)] at h0 h1
    exact ⟨g, e1, lt_of_blkC hg, by rw [cell_of_row w g _ _ _ _ hg]; simpa using h0, by rw [cell_of_row w g _ _ _ _ hg]; simpa using h1⟩
/-- bools that came in -/
def cbo (l : List Bool) : List Value := l.map fun b => .bool b
theorem cbo_at {w : World} {B : Nat} {A : Option Addr} {bs : List Bool} (h : Rd w B A (cbo bs)) {k : Nat} (hk : k < bs.length) : ∃ g off, A = some ⟨g, off, none⟩ ∧ g < B ∧ w.cell? ⟨g, off + k, none⟩ = some (.bool bs[k]) := by
  rcases h with h | ⟨g, off, rfl, hb, hc⟩
  · simp only [cbo, List.map_eq_nil_iff] at h
    subst h
    exact absurd hk (Nat.not_lt_zero _)
  · exact ⟨g, off, rfl, hb, hc k _ (by rw [cbo, List.getElem?_map, List.getElem?_eq_getElem hk]; rfl)⟩
theorem rdB_take2 {w : World} {B : Nat} {A : Option Addr} {xs : List UInt8} (h : Rd w B A (cb xs)) (n : Nat) : Rd w B A (cb (xs.take n)) := by
  have := h.take_ n
  rwa [show (cb xs).take n = cb (xs.take n) by simp [cb, List.map_take]] at this
end Go.Proofs.YtdfghcbojbbgcaaDoor.Fl

