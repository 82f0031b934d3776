/-
  Images: memory as bytes.
-/
import Derived.Test.YtahmljjjdoaahaaDoorPImg
import Derived.Test.YtahmljjjdoaahaaDoorPHeap
import Derived.Test.YtahmljjjdoaahaaDoorPMem
import Derived.Test.YtahmljjjdoaahaaDoorMark
namespace Go.Proofs.YtahmljjjdoaahaaDoor.Fl
open Go.RowKit

theorem ownH_rd {w : World} {base n c : Nat} {A : Option Addr} {xs : List Nat} (h : OwnH w base (.slice A n c) xs) : Rd w w.heap.size A (cw xs) := by
  rcases h.2 with ⟨_, e2⟩ | ⟨g, cap, cur, e1, hb, hg, _, _, _, ht⟩
  · rw [List.eq_nil_of_length_eq_zero e2]; exact .inl rfl
  · injection e1 with e1 _ _
    subst e1
    refine .inr ⟨g, 0, rfl, lt_of_block hg, fun j v hj => ?_⟩
    have hjl : j < xs.length := by
      rcases Nat.lt_or_ge j (cw xs).length with h1 | h1
      · rwa [cw_len] at h1
      · rw [List.getElem?_eq_none h1] at hj; cases hj
    rw [Nat.zero_add, cell_of_row w g j _ _ _ hg, ← hj, ← ht, List.getElem?_take, if_pos (by omega)]
    simp
/-- words in memory of the call's own, as a slice -/
def RowPost (ws : List Nat) (w : World) (e : Ending) (w' : World) : Prop := ∃ A c, e = .returned (.slice A ws.length c) ∧ OwnH w' w.heap.size (.slice A ws.length c) ws ∧ Below w.heap.size w w'
set_option maxHeartbeats 1000000 in
theorem clone_h (ws : List Nat) (c b off : Nat) (w : World) (hr : Rd w w.heap.size (some ⟨b, off, none⟩) (cw ws)) (hl : ws.length ≤ 16777216) :
    Calls Tryd.prog 31 #[.slice (some ⟨b, off, none⟩) ws.length c] w (RowPost ws w) := by
  have HR := Lib.hid ((hr.below ((Below.refl w.heap.size w).alloc (Nat.le_refl _) (.cells #[] 38)) (Nat.le_refl _)).more (B' := (w.alloc (.cells #[] 38)).heap.size) (by simp))
  clear hr
  have q22 : ∀ (w : World) (a : Option Addr) (n c n' c' : Nat), (binOp .eql 44 (.slice a n c) (.slice none n' c')).run Tryd.prog w = .ok (.bool a.isNone) w := fun w a n c n' c' => Lib.run_eql_slice_nil w _ _ a n c n' c' Tryd.underlying44
  obtain ⟨i0, hi, hz0, hz1, hz2⟩ := info_parts wordinfo
  have HI := Lib.hid (And.intro hi (And.intro hz0 (And.intro hz1 hz2)))
  clear hi hz0 hz1 hz2
  have HL := Lib.hid hl
  clear hl
  go_enter Tryd.func31, Tryd.ntmps31
  go_wp2_with (at_builtin; refine wpList_append_rd (base := w.heap.size) (size := 1) (bytes := 8) (n := 0) (m := ws.length) (c := c) (v := .slice (some ⟨w.heap.size, 0, none⟩) 0 0) (xs := []) rfl _ _ rfl Tryd.underlying44 HI.out.1 HI.out.2.1 HI.out.2.2.1 HI.out.2.2.2 rfl (by decide) rfl rfl (own_void w 38 1 w.heap.size (Nat.le_refl _)) HR.out (by rw [cw_len]; omega) (fun h => by cases h) (cw_one ws) (by have := HL.out; unfold maxLen; omega) (by have := HL.out; omega) (by simp) ?_; intro v' w2 happ; obtain ⟨A2, c2, hv, _, _⟩ := happ.slice; subst hv; have HAp := Lib.hid happ; clear happ)
  go_ret
  have h := HAp.out
  rw [Nat.zero_add] at h
  exact ⟨A2, c2, rfl, by have := h.own; rwa [Nat.zero_add, List.nil_append] at this, h.below ((Below.refl _ _).alloc (Nat.le_refl _) _) (fun k hk => by simp [Value.ownBlock] at hk; omega)⟩
set_option maxHeartbeats 1000000 in
theorem hWords_any {base g gc cap gb gb2 size last : Nat} {L ws : List Nat} (w : World) (h : HeapAt w base g gc cap gb gb2 size last L ws) (h2 : 2 < L.length) :
    Calls Tryd.prog 56 #[.pointer (some ⟨g, 0, none⟩)] w (RowPost (L.drop 2) w) := by
  have c1 := h.c1
  have hu := used_any w h
  have hcl := clone_h (L.drop 2) (cap - 2) gc 2 w (by
    refine .inr ⟨gc, 2, rfl, h.gl.2.1, fun j v hj => ?_⟩
    have hjl : j < (L.drop 2).length := by
      rcases Nat.lt_or_ge j (L.drop 2).length with h1 | h1
      · exact h1
      · rw [List.getElem?_eq_none (by rw [cw_len]; exact h1)] at hj; cases hj
    rw [h.cell (k := 2 + j) (by rw [List.length_drop] at hjl; omega), ← hj, cw_at _ j hjl]
    simp) (by have := h.room; have := h.small; simp; omega)
  rw [List.length_drop] at hcl
  have hcap := h.row
  obtain ⟨cur, _, _, hn, _⟩ := hcap
  have h3 : ¬ (cap = 2) := by omega
  clear h
  go_enter Tryd.func56, Tryd.ntmps56
  go_wp2_with (first
    | (go_at_call 14; (with_reducible refine hu.mono ?_); rintro e w' ⟨rfl, rfl⟩)
    | (go_at_call 31; refine hcl.mono ?_; rintro e w' ⟨A, c, rfl, ho, hb⟩))
  go_ret
  unfold RowPost
  rw [List.length_drop] at ho ⊢
  exact ⟨A, c, rfl, ho, hb⟩
theorem lastH_any {base g gc cap gb gb2 size last : Nat} {L ws : List Nat} (w : World) (h : HeapAt w base g gc cap gb gb2 size last L ws) :
    Calls Tryd.prog 9 #[.pointer (some ⟨g, 0, none⟩)] w fun e w' => e = .returned (.int .u32 (last : Int)) ∧ w = w' := by
  have c3 := h.c3
  go_enter Tryd.func9, Tryd.ntmps9
  go_wp2_with (go_at_call 25; (with_reducible refine (there_any _ _).mono ?_); rintro e w' ⟨rfl, rfl⟩)
  go_ret
  exact ⟨rfl, rfl⟩
/-- append of bytes onto a row of the call's own -/
theorem wpList_append_b {w : World} {base c : Nat} {A : Option Addr} {xs news : List UInt8} {v : Value} {ops : Array Oper} {rest : List Oper} {o : Oper} {a : Act} {Q : Exit → Act → World → Prop} (hg : o.guard = none) (s x : Operand) (ho : o.op = .call { callee := .builtin .append, args := #[s, x], argTypes := #[41, 41] })
    (hs : a.eval s = v) (hx : a.eval x = .slice A news.length c) (hown : Own w base v xs) (hr : Rd w w.heap.size A (cb news)) (hA : A = none → news.length = 0) (hl : xs.length ≤ 1000000) (hl2 : news.length ≤ 1000000) (hb : base ≤ w.heap.size)
    (h : ∀ A' ts c' w', Hid (ts = xs ++ news) → Hid (Own w' base (.slice A' ts.length c') ts) → Hid (Below base w w') → wpList Tryd.prog ops Q rest (a.put o.dst (.slice A' ts.length c')) w') : wpList Tryd.prog ops Q (o :: rest) a w := by
  obtain ⟨i0, hi, hz0, hz1, hz2⟩ := info_parts u8info
  refine wpList_append_rd (base := base) (size := 1) (bytes := 1) (n := xs.length) (m := news.length) (c := c) (v := v) (xs := cb xs) (news := cb news) hg s x ho Tryd.underlying41 hi hz0 hz1 hz2 rfl (by decide) hs hx hown hr (by rw [cb_len]; omega) hA (cb_oneCell news) (by unfold maxLen; omega) (by omega) hb ?_
  intro v' w' happ
  obtain ⟨A', c', rfl, _, _⟩ := happ.slice
  have e : xs.length + news.length = (xs ++ news).length := by simp
  have ho := happ.own
  rw [e, ← cb_append] at ho
  rw [e]
  exact h A' (xs ++ news) c' w' (Lib.hid rfl) (Lib.hid ho) (Lib.hid ((Below.refl _ _).grown happ.grown hb (fun j hj => (World.ownsRow.lt hown j hj).1)))
theorem wb_head (x y z : Nat) (l : List Nat) : wb [x, y, z] ++ wb l = wb (x :: y :: z :: l) := by simp [wb]
def EncPost (L : List Nat) (last root : Nat) (w : World) (e : Ending) (w' : World) : Prop :=
  ∃ A c, e = .returned (.tuple #[.slice A (imgB last root (L.drop 2)).length c, .int .i64 0]) ∧ Own w' w.heap.size (.slice A (imgB last root (L.drop 2)).length c) (imgB last root (L.drop 2)) ∧ Below w.heap.size w w'
end Go.Proofs.YtahmljjjdoaahaaDoor.Fl
