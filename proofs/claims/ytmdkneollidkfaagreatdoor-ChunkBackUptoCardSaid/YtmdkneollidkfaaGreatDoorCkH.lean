/-
  What a file has, as the program reads it: rows of its classes and of its texts.
-/
import Derived.Test.YtmdkneollidkfaaGreatDoorCkD
import Derived.Test.YtmdkneollidkfaaGreatDoorLzF
namespace Go.Proofs.YtmdkneollidkfaaGreatDoor.Fl
open Go.RowKit

theorem srcinfoK : (Tryz.prog.info? 73).map (fun i => (i.zero, i.size, i.bytes)) = some (some (.agg #[.string ⟨#[]⟩, .bool false, .string ⟨#[]⟩, .int .i64 0]), 4, 48) := by kernel_rfl
def sk_ (l : List Src) : List Value := l.flatMap fun x => [.string (mkB x.1), .bool x.2.1, .string (mkB x.2.2.1), .int .i64 x.2.2.2]
theorem sk__len (l : List Src) : (sk_ l).length = l.length * 4 := by
  induction l with
  | nil => rfl
  | cons x l ih =>
    show (([.string (mkB x.1), .bool x.2.1, .string (mkB x.2.2.1), .int .i64 x.2.2.2] : List Value) ++ sk_ l).length = _
    rw [List.length_append, ih]; simp; omega
theorem sk__app (l m : List Src) : sk_ (l ++ m) = sk_ l ++ sk_ m := List.flatMap_append
def OwnXk (w : World) (base : Nat) (v : Value) (l : List Src) : Prop := w.ownsRow base 73 4 v l.length (sk_ l)
theorem OwnXk.below {w w' : World} {base : Nat} {v : Value} {xs : List Src} (h : OwnXk w base v xs) (hb : Below w.heap.size w w') : OwnXk w' base v xs :=
  ⟨h.1, h.2.elim .inl fun ⟨g, cap, cur, hv, hbg, hg, r⟩ => .inr ⟨g, cap, cur, hv, hbg, (hb.block g (lt_of_blk hg)).trans hg, r⟩⟩
theorem OwnXk.cell {w : World} {base : Nat} {v : Value} {xs : List Src} (h : OwnXk w base v xs) {P k : Nat} (hP : v.ownBlock ≠ some P) (x : Value) : OwnXk (w.setCell ⟨P, k, none⟩ x) base v xs := ownsRow_setCell_other h (a := ⟨P, k, none⟩) hP x
theorem OwnXk.keep {w w' : World} {base : Nat} {v : Value} {xs : List Src} (h : OwnXk w base v xs) (hb : ∀ j, v.ownBlock = some j → w'.heap[j]? = w.heap[j]?) : OwnXk w' base v xs :=
  ⟨h.1, h.2.elim .inl fun ⟨g, cap, cur, hv, hbg, hg, r⟩ => .inr ⟨g, cap, cur, hv, hbg, (hb g (by rw [hv]; rfl)).trans hg, r⟩⟩
theorem OwnXk.wide {w : World} {base base' : Nat} {v : Value} {xs : List Src} (h : OwnXk w base v xs) (hb : base' ≤ base) : OwnXk w base' v xs :=
  ⟨h.1, h.2.elim .inl fun ⟨g, cap, cur, hv, hbg, hg, r⟩ => .inr ⟨g, cap, cur, hv, Nat.le_trans hb hbg, hg, r⟩⟩
theorem wpList_append_xk {w : World} {base c : Nat} {A : Option Addr} {xs news : List Src} {v : Value} {ops : Array Oper} {rest : List Oper} {o : Oper} {a : Act} {Q : Exit → Act → World → Prop} (hg : o.guard = none) (s x : Operand) (ho : o.op = .call { callee := .builtin .append, args := #[s, x], argTypes := #[51, 51] })
    (hs : a.eval s = v) (hx : a.eval x = .slice A news.length c) (hown : OwnXk w base v xs) (hr : Rd w w.heap.size A (sk_ news)) (hA : A = none → news.length = 0) (hone : ∀ v ∈ sk_ news, v.oneCell' = true) (hl : xs.length ≤ 100000000) (hl2 : news.length ≤ 100000000) (hb : base ≤ w.heap.size)
    (h : ∀ A' ts c' w', Hid (ts = xs ++ news) → Hid (OwnXk w' base (.slice A' ts.length c') ts) → Hid (Below base w w' ∧ (∀ k, k < w.heap.size → some k ≠ v.ownBlock → w'.heap[k]? = w.heap[k]?) ∧ ((Value.slice A' ts.length c').ownBlock = v.ownBlock ∨ (Value.slice A' ts.length c').ownBlock = some w.heap.size)) → wpList Tryz.prog ops Q rest (a.put o.dst (.slice A' ts.length c')) w') : wpList Tryz.prog ops Q (o :: rest) a w := by
  obtain ⟨i0, hi, hz0, hz1, hz2⟩ := info_parts srcinfoK
  refine wpList_append_rd (base := base) (size := 4) (bytes := 48) (n := xs.length) (m := news.length) (c := c) (v := v) (xs := sk_ xs) (news := sk_ news) hg s x ho Tryz.underlying51 hi hz0 hz1 hz2 rfl (by decide) hs hx hown hr (sk__len _) hA hone (by unfold maxLen; omega) (by omega) hb ?_
  intro v' w' happ
  obtain ⟨A', c', rfl, _, _⟩ := happ.slice
  have e : xs.length + news.length = (xs ++ news).length := by simp
  have ho := happ.own
  have hat := happ.at_
  rw [e, show sk_ xs ++ sk_ news = sk_ (xs ++ news) from (sk__app _ _).symm] at ho
  rw [e] at hat ⊢
  exact h A' (xs ++ news) c' w' (Lib.hid rfl) (Lib.hid ho) (Lib.hid ⟨(Below.refl _ _).grown happ.grown hb (fun j hj => (World.ownsRow.lt hown j hj).1), happ.grown.block, hat⟩)
theorem sk__one {w : World} {C : Nat} (x : Src) (h : w.heap[C]? = some (.cells #[.string (mkB x.1), .bool x.2.1, .string (mkB x.2.2.1), .int .i64 x.2.2.2] 73 (0, 0))) : Rd w w.heap.size (some ⟨C, 0, none⟩) (sk_ [x]) := by
  obtain ⟨c0, c1, c2, c3, _⟩ := cells4L h
  refine .inr ⟨C, 0, rfl, lt_of_blk h, fun j v hj => ?_⟩
  have hj' : ([.string (mkB x.1), .bool x.2.1, .string (mkB x.2.2.1), .int .i64 x.2.2.2] : List Value)[j]? = some v := hj
  rw [Nat.zero_add]
  rcases j with _ | _ | _ | _ | j
  · exact c0.trans hj'
  · exact c1.trans hj'
  · exact c2.trans hj'
  · exact c3.trans hj'
  · simp at hj'
theorem clsinfoK : (Tryz.prog.info? 87).map (fun i => (i.zero, i.size, i.bytes)) = some (some (.agg #[.string ⟨#[]⟩, .string ⟨#[]⟩, .slice none 0 0, .int .i64 0]), 4, 64) := by kernel_rfl
def ck_ (l : List (Cls × Value)) : List Value := l.flatMap fun x => [.string (mkB x.1.1), .string (mkB x.1.2.1), x.2, .int .i64 x.1.2.2.2]
theorem ck__len (l : List (Cls × Value)) : (ck_ l).length = l.length * 4 := by
  induction l with
  | nil => rfl
  | cons x l ih =>
    show (([.string (mkB x.1.1), .string (mkB x.1.2.1), x.2, .int .i64 x.1.2.2.2] : List Value) ++ ck_ l).length = _
    rw [List.length_append, ih]; simp; omega
theorem ck__app (l m : List (Cls × Value)) : ck_ (l ++ m) = ck_ l ++ ck_ m := List.flatMap_append
def OwnYk (w : World) (base : Nat) (v : Value) (l : List (Cls × Value)) : Prop := w.ownsRow base 87 4 v l.length (ck_ l)
theorem OwnYk.below {w w' : World} {base : Nat} {v : Value} {xs : List (Cls × Value)} (h : OwnYk w base v xs) (hb : Below w.heap.size w w') : OwnYk w' base v xs :=
  ⟨h.1, h.2.elim .inl fun ⟨g, cap, cur, hv, hbg, hg, r⟩ => .inr ⟨g, cap, cur, hv, hbg, (hb.block g (lt_of_blk hg)).trans hg, r⟩⟩
theorem OwnYk.cell {w : World} {base : Nat} {v : Value} {xs : List (Cls × Value)} (h : OwnYk w base v xs) {P k : Nat} (hP : v.ownBlock ≠ some P) (x : Value) : OwnYk (w.setCell ⟨P, k, none⟩ x) base v xs := ownsRow_setCell_other h (a := ⟨P, k, none⟩) hP x
theorem OwnYk.keep {w w' : World} {base : Nat} {v : Value} {xs : List (Cls × Value)} (h : OwnYk w base v xs) (hb : ∀ j, v.ownBlock = some j → w'.heap[j]? = w.heap[j]?) : OwnYk w' base v xs :=
  ⟨h.1, h.2.elim .inl fun ⟨g, cap, cur, hv, hbg, hg, r⟩ => .inr ⟨g, cap, cur, hv, hbg, (hb g (by rw [hv]; rfl)).trans hg, r⟩⟩
theorem OwnYk.wide {w : World} {base base' : Nat} {v : Value} {xs : List (Cls × Value)} (h : OwnYk w base v xs) (hb : base' ≤ base) : OwnYk w base' v xs :=
  ⟨h.1, h.2.elim .inl fun ⟨g, cap, cur, hv, hbg, hg, r⟩ => .inr ⟨g, cap, cur, hv, Nat.le_trans hb hbg, hg, r⟩⟩
theorem wpList_append_yk {w : World} {base c : Nat} {A : Option Addr} {xs news : List (Cls × Value)} {v : Value} {ops : Array Oper} {rest : List Oper} {o : Oper} {a : Act} {Q : Exit → Act → World → Prop} (hg : o.guard = none) (s x : Operand) (ho : o.op = .call { callee := .builtin .append, args := #[s, x], argTypes := #[50, 50] })
    (hs : a.eval s = v) (hx : a.eval x = .slice A news.length c) (hown : OwnYk w base v xs) (hr : Rd w w.heap.size A (ck_ news)) (hA : A = none → news.length = 0) (hone : ∀ v ∈ ck_ news, v.oneCell' = true) (hl : xs.length ≤ 100000000) (hl2 : news.length ≤ 100000000) (hb : base ≤ w.heap.size)
    (h : ∀ A' ts c' w', Hid (ts = xs ++ news) → Hid (OwnYk w' base (.slice A' ts.length c') ts) → Hid (Below base w w' ∧ (∀ k, k < w.heap.size → some k ≠ v.ownBlock → w'.heap[k]? = w.heap[k]?) ∧ ((Value.slice A' ts.length c').ownBlock = v.ownBlock ∨ (Value.slice A' ts.length c').ownBlock = some w.heap.size)) → wpList Tryz.prog ops Q rest (a.put o.dst (.slice A' ts.length c')) w') : wpList Tryz.prog ops Q (o :: rest) a w := by
  obtain ⟨i0, hi, hz0, hz1, hz2⟩ := info_parts clsinfoK
  refine wpList_append_rd (base := base) (size := 4) (bytes := 64) (n := xs.length) (m := news.length) (c := c) (v := v) (xs := ck_ xs) (news := ck_ news) hg s x ho Tryz.underlying50 hi hz0 hz1 hz2 rfl (by decide) hs hx hown hr (ck__len _) hA hone (by unfold maxLen; omega) (by omega) hb ?_
  intro v' w' happ
  obtain ⟨A', c', rfl, _, _⟩ := happ.slice
  have e : xs.length + news.length = (xs ++ news).length := by simp
  have ho := happ.own
  have hat := happ.at_
  rw [e, show ck_ xs ++ ck_ news = ck_ (xs ++ news) from (ck__app _ _).symm] at ho
  rw [e] at hat ⊢
  exact h A' (xs ++ news) c' w' (Lib.hid rfl) (Lib.hid ho) (Lib.hid ⟨(Below.refl _ _).grown happ.grown hb (fun j hj => (World.ownsRow.lt hown j hj).1), happ.grown.block, hat⟩)
theorem ck__one {w : World} {C : Nat} (x : (Cls × Value)) (h : w.heap[C]? = some (.cells #[.string (mkB x.1.1), .string (mkB x.1.2.1), x.2, .int .i64 x.1.2.2.2] 87 (0, 0))) : Rd w w.heap.size (some ⟨C, 0, none⟩) (ck_ [x]) := by
  obtain ⟨c0, c1, c2, c3, _⟩ := cells4L h
  refine .inr ⟨C, 0, rfl, lt_of_blk h, fun j v hj => ?_⟩
  have hj' : ([.string (mkB x.1.1), .string (mkB x.1.2.1), x.2, .int .i64 x.1.2.2.2] : List Value)[j]? = some v := hj
  rw [Nat.zero_add]
  rcases j with _ | _ | _ | _ | j
  · exact c0.trans hj'
  · exact c1.trans hj'
  · exact c2.trans hj'
  · exact c3.trans hj'
  · simp at hj'
end Go.Proofs.YtmdkneollidkfaaGreatDoor.Fl

/-
  What stands while the program reads a file: its reader.
-/
namespace Go.Proofs.YtmdkneollidkfaaGreatDoor.Fl
open Go.RowKit

structure RkW (w0 w : World) (R : Nat) (s : ByteArray) (p : Nat) (fs : List (Cls × Value)) (ss : List Src) (A1 : Option Addr) (c1 : Nat) (A2 : Option Addr) (c2 : Nat) : Prop where
  rd : w.heap[R]? = some (.cells #[.slice A1 fs.length c1, .slice A2 ss.length c2, .string s, .int .i64 (p : Int)] 99 (0, 0))
  bel : Below w0.heap.size w0 w
  hR : w0.heap.size ≤ R
  ownC : OwnYk w w0.heap.size (.slice A1 fs.length c1) fs
  ownF : ∀ x ∈ fs, ∃ A c, x.2 = .slice A x.1.2.2.1.length c ∧ OwnS w w0.heap.size x.2 x.1.2.2.1
  ownX : OwnXk w w0.heap.size (.slice A2 ss.length c2) ss
theorem RkW.below {w0 w w' : World} {R p : Nat} {s : ByteArray} {fs : List (Cls × Value)} {ss : List Src} {A1 : Option Addr} {c1 : Nat} {A2 : Option Addr} {c2 : Nat} (h : RkW w0 w R s p fs ss A1 c1 A2 c2) (hb : Below w.heap.size w w') : RkW w0 w' R s p fs ss A1 c1 A2 c2 :=
  ⟨(hb.block R (lt_of_blk h.rd)).trans h.rd, h.bel.trans (hb.mono h.bel.size), h.hR, h.ownC.below hb, fun x hx => (h.ownF x hx).imp fun A ⟨c, e, ho⟩ => ⟨c, e, ho.below hb⟩, h.ownX.below hb⟩
/-- one more text -/
theorem RkW.addX {w0 w w1 w2 : World} {R p : Nat} {s : ByteArray} {fs : List (Cls × Value)} {ss ts : List Src} {A1 : Option Addr} {c1 : Nat} {A2 : Option Addr} {c2 : Nat} {A3 : Option Addr} {c3 : Nat} (h0 : RkW w0 w R s p fs ss A1 c1 A2 c2) (hb : Below w.heap.size w w1)
    (ho : OwnXk w2 w0.heap.size (.slice A3 ts.length c3) ts) (hk : Below w0.heap.size w1 w2 ∧ (∀ k, k < w1.heap.size → some k ≠ (Value.slice A2 ss.length c2).ownBlock → w2.heap[k]? = w1.heap[k]?) ∧ ((Value.slice A3 ts.length c3).ownBlock = (Value.slice A2 ss.length c2).ownBlock ∨ (Value.slice A3 ts.length c3).ownBlock = some w1.heap.size)) :
    RkW w0 (w2.setCell ⟨R, 1, none⟩ (.slice A3 ts.length c3)) R s p fs ts A1 c1 A3 c3 := by
  have h := h0.below hb
  obtain ⟨hk1, hk2, _⟩ := hk
  have eR := (hk2 R (lt_of_blk h.rd) (own_ne h.ownX h.rd (by decide)).symm).trans h.rd
  have oC : OwnYk w2 w0.heap.size (.slice A1 fs.length c1) fs := h.ownC.keep fun j hj => hk2 j (World.ownsRow.lt h.ownC _ hj).2 (own_far h.ownC h.ownX (by decide) hj)
  refine ⟨heap_setCell_same _ R 1 _ _ _ eR, (h.bel.trans hk1).setCell (p := ⟨R, 1, none⟩) h.hR _, h.hR, oC.cell (own_ne oC eR (by decide)) _, ?_, ho.cell (own_ne ho eR (by decide)) _⟩
  intro x hx
  obtain ⟨A, c, e, hf⟩ := h.ownF x hx
  have hf2 : OwnS w2 w0.heap.size x.2 x.1.2.2.1 := hf.keep fun j hj => hk2 j (World.ownsRow.lt hf _ hj).2 (own_far hf h.ownX (by decide) hj)
  exact ⟨A, c, e, hf2.cell (own_ne hf2 eR (by decide)) _⟩
/-- one more class -/
theorem RkW.addY {w0 w w1 w2 : World} {R p : Nat} {s : ByteArray} {fs ts : List (Cls × Value)} {ss : List Src} {A1 : Option Addr} {c1 : Nat} {A2 : Option Addr} {c2 : Nat} {A3 : Option Addr} {c3 : Nat} {y : Cls × Value} (h0 : RkW w0 w R s p fs ss A1 c1 A2 c2) (hb : Below w.heap.size w w1) (hy : ∃ A c, y.2 = .slice A y.1.2.2.1.length c ∧ OwnS w1 w0.heap.size y.2 y.1.2.2.1) (hts : ts = fs ++ [y])
    (ho : OwnYk w2 w0.heap.size (.slice A3 ts.length c3) ts) (hk : Below w0.heap.size w1 w2 ∧ (∀ k, k < w1.heap.size → some k ≠ (Value.slice A1 fs.length c1).ownBlock → w2.heap[k]? = w1.heap[k]?) ∧ ((Value.slice A3 ts.length c3).ownBlock = (Value.slice A1 fs.length c1).ownBlock ∨ (Value.slice A3 ts.length c3).ownBlock = some w1.heap.size)) :
    RkW w0 (w2.setCell ⟨R, 0, none⟩ (.slice A3 ts.length c3)) R s p ts ss A3 c3 A2 c2 := by
  have h := h0.below hb
  obtain ⟨hk1, hk2, _⟩ := hk
  have eR := (hk2 R (lt_of_blk h.rd) (own_ne h.ownC h.rd (by decide)).symm).trans h.rd
  have oX : OwnXk w2 w0.heap.size (.slice A2 ss.length c2) ss := h.ownX.keep fun j hj => hk2 j (World.ownsRow.lt h.ownX _ hj).2 (own_far h.ownX h.ownC (by decide) hj)
  refine ⟨heap_setCell_same _ R 0 _ _ _ eR, (h.bel.trans hk1).setCell (p := ⟨R, 0, none⟩) h.hR _, h.hR, ho.cell (own_ne ho eR (by decide)) _, ?_, oX.cell (own_ne oX eR (by decide)) _⟩
  intro x hx
  have hx' : ∃ A c, x.2 = .slice A x.1.2.2.1.length c ∧ OwnS w1 w0.heap.size x.2 x.1.2.2.1 := by
    rw [hts, List.mem_append, List.mem_singleton] at hx
    rcases hx with hx | rfl
    · exact h.ownF x hx
    · exact hy
  obtain ⟨A, c, e, hf⟩ := hx'
  have hf2 : OwnS w2 w0.heap.size x.2 x.1.2.2.1 := hf.keep fun j hj => hk2 j (World.ownsRow.lt hf _ hj).2 (own_far hf h.ownC (by decide) hj)
  exact ⟨A, c, e, hf2.cell (own_ne hf2 eR (by decide)) _⟩
/-- it goes on -/
theorem RkW.go {w0 w : World} {R p : Nat} {s : ByteArray} {fs : List (Cls × Value)} {ss : List Src} {A1 : Option Addr} {c1 : Nat} {A2 : Option Addr} {c2 : Nat} (h : RkW w0 w R s p fs ss A1 c1 A2 c2) (q : Nat) : RkW w0 (w.setCell ⟨R, 3, none⟩ (.int .i64 (q : Int))) R s q fs ss A1 c1 A2 c2 := by
  refine ⟨heap_setCell_same _ R 3 _ _ _ h.rd, h.bel.setCell (p := ⟨R, 3, none⟩) h.hR _, h.hR, h.ownC.cell (own_ne h.ownC h.rd (by decide)) _, ?_, h.ownX.cell (own_ne h.ownX h.rd (by decide)) _⟩
  intro x hx
  obtain ⟨A, c, e, hf⟩ := h.ownF x hx
  exact ⟨A, c, e, hf.cell (own_ne hf h.rd (by decide)) _⟩
end Go.Proofs.YtmdkneollidkfaaGreatDoor.Fl

/-
  The word of a Name is a name.
-/
namespace Go.Proofs.YtmdkneollidkfaaGreatDoor.Fl
open Go.RowKit

theorem name_mid {s : ByteArray} {q : Nat} (hl : letterN (lookB s q) = true) : nameL (midL s q (runE partN s q)) = true := by
  have hlt : q < s.size := by
    rcases Nat.lt_or_ge q s.size with h1 | h1
    · exact h1
    · rw [lookB_no h1] at hl; cases hl
  have hrm := run_mid partN s q
  have hall : partA (midL s q (runE partN s q)) = true := by rw [hrm]; exact List.all_takeWhile
  rw [lookB_at hlt] at hl
  have hcons : midL s q (runE partN s q) = s[q] :: ((sb s).drop (q + 1)).takeWhile fun c => partN c.toNat := by
    rw [hrm, drop_at hlt, List.takeWhile_cons, if_pos (letter_part hl)]
  generalize midL s q (runE partN s q) = m at hall hcons
  unfold nameL isNameB
  rw [Bool.and_eq_true, beq_iff_eq]
  have h1 := run_app (f := partN) (s := mkB m) (j := 0) (l := m) (m := []) (by rw [sb_mk, List.append_nil]; rfl) hall (fun _ _ e => by cases e)
  refine ⟨by rw [h1, mkB_size, Nat.zero_add], ?_⟩
  rw [look_cons (s := mkB m) (j := 0) (c := s[q]) (l := ((sb s).drop (q + 1)).takeWhile fun c => partN c.toNat) (by rw [sb_mk, ← hcons]; rfl)]
  exact hl
theorem tokAt_name {s : ByteArray} {q q0 p : Nat} {t : List UInt8} {n : Int} (h : tokAt s q = .inl (1, t, n, q0, p)) : arityL (mkB t) = 0 := by
  unfold tokAt at h
  split at h
  · simp only [Sum.inl.injEq, Prod.mk.injEq] at h
    omega
  split at h
  · next hl =>
    split at h
    · cases h
    · next h64 =>
      simp only [Sum.inl.injEq, Prod.mk.injEq] at h
      obtain ⟨h1, h2, _⟩ := h
      have hn : (namedR s q).2 = runE partN s q := by
        unfold namedR at h1 ⊢
        split
        · next hc => rw [if_pos hc] at h1; cases h1
        · rfl
      rw [hn] at h2 h64
      have hm := name_mid hl
      rw [h2] at hm h64
      unfold arityL
      have hs : (mkB t).size = t.length := mkB_size t
      unfold nameL at hm
      rw [if_neg (by rw [hs]; exact h64), show isNameB (mkB t) = true from hm, if_pos rfl]
  split at h
  · split at h
    · simp only [Sum.inl.injEq, Prod.mk.injEq] at h
      omega
    · cases h
  split at h
  · split at h
    · cases h
    · simp only [Sum.inl.injEq, Prod.mk.injEq] at h
      omega
  split at h
  · split at h
    · cases h
    · split at h
      · cases h
      · simp only [Sum.inl.injEq, Prod.mk.injEq] at h
        omega
  split at h
  · obtain ⟨h1, _, rfl⟩ := ofKw_inl h
    unfold hashR at h1
    split at h1
    · simp only [Sum.inl.injEq, Prod.mk.injEq] at h1
      omega
    split at h1
    · split at h1
      · cases h1
      · split at h1
        · cases h1
        · simp only [Sum.inl.injEq, Prod.mk.injEq] at h1
          omega
    split at h1
    · split at h1
      · cases h1
      · simp only [Sum.inl.injEq, Prod.mk.injEq] at h1
        omega
    · split at h1
      · cases h1
      · simp only [Sum.inl.injEq, Prod.mk.injEq] at h1
        omega
  · obtain ⟨h1, _, rfl⟩ := ofKw_inl h
    unfold markR at h1
    split at h1
    · simp only [Sum.inl.injEq, Prod.mk.injEq] at h1
      omega
    split at h1
    · simp only [Sum.inl.injEq, Prod.mk.injEq] at h1
      omega
    split at h1
    · cases h1
    split at h1
    · simp only [Sum.inl.injEq, Prod.mk.injEq] at h1
      omega
    · simp only [Sum.inl.injEq, Prod.mk.injEq] at h1
      omega
theorem allW_name {s : ByteArray} {p : Nat} {l : List Tok} (hp : p ≤ s.size) (h : allW s p = .inl l) : ∀ x ∈ l, x.1 = 1 → arityL (mkB x.2.1) = 0 := by
  obtain ⟨m, hm⟩ : ∃ m, s.size - p = m := ⟨_, rfl⟩
  induction m using Nat.strongRecOn generalizing p l with
  | _ m ih =>
    intro x hx hk
    rw [allW] at h
    split at h
    · cases h
    · next k t n q p' ht =>
      split at h
      · injection h with h
        subst h
        rw [List.mem_singleton] at hx
        subst hx
        dsimp only at hk
        omega
      split at h
      · next hh =>
        split at h
        · next l' hl' =>
          injection h with h
          subst h
          rcases List.mem_cons.1 hx with rfl | hx
          · dsimp only at hk
            subst hk
            exact tokAt_name (tokR_at hp ht).2
          · exact ih (s.size - p') (by omega) hh.2 hl' rfl x hx hk
        · cases h
      · injection h with h
        subst h
        cases hx
end Go.Proofs.YtmdkneollidkfaaGreatDoor.Fl

/-
  What the program asks of a chunk's tokens, in the document's words.
-/
namespace Go.Proofs.YtmdkneollidkfaaGreatDoor.Fl
open Go.RowKit

theorem isClass_cls {nm sp ft : List UInt8} (h : arityL (mkB sp) = 0) : isClassR nm (supN sp) (wordsA [] ft) = clsOk nm ft := by
  unfold isClassR clsOk supN
  by_cases hn : sp = nilL
  · rw [if_pos hn]; simp
  · rw [if_neg hn, h]
    have hb : (sp != nilL) = true := by rw [bne_iff_ne]; exact hn
    rw [hb]; simp
theorem fits_class (xs : List Tok) : fitsR xs [(1, [], 0, 0), (2, subL, 0, 0), (5, [], 0, 0), (2, fldL, 0, 0), (4, [], 0, 0)] = (classL xs).isSome := by
  match xs with
  | [] => rfl
  | [_] => rfl
  | [_, _] => rfl
  | [_, _, _] => rfl
  | [_, _, _, _] => rfl
  | [_, _, _, _, _] => rfl
  | _ :: _ :: _ :: _ :: _ :: _ :: _ :: l => simp [fitsR, classL]
  | [a, b, c, d, e, z] =>
    unfold fitsR classL
    have h1 : fitL [a, b, c, d, e, z] [(1, [], 0, 0), (2, subL, 0, 0), (5, [], 0, 0), (2, fldL, 0, 0), (4, [], 0, 0)] = (a.1 == 1 && (isT b 2 subL && (c.1 == 5 && (isT d 2 fldL && e.1 == 4)))) := by
      simp [fitL, fit1, isT]
    rw [h1]
    show _ = Option.isSome (if a.1 = 1 ∧ isT b 2 subL = true ∧ c.1 = 5 ∧ isT d 2 fldL = true ∧ e.1 = 4 then some (c.2.1, a.2.1, e.2.1) else none)
    by_cases hc : a.1 = 1 ∧ isT b 2 subL = true ∧ c.1 = 5 ∧ isT d 2 fldL = true ∧ e.1 = 4
    · rw [if_pos hc]
      obtain ⟨x1, x2, x3, x4, x5⟩ := hc
      simp [x1, x2, x3, x4, x5]
    · rw [if_neg hc]
      simp only [List.length_cons, List.length_nil, Option.isSome_none, Bool.and_eq_false_iff, beq_eq_false_iff_ne]
      right
      by_cases x1 : a.1 = 1
      · by_cases x2 : isT b 2 subL = true
        · by_cases x3 : c.1 = 5
          · by_cases x4 : isT d 2 fldL = true
            · have x5 : ¬ e.1 = 4 := fun x5 => hc ⟨x1, x2, x3, x4, x5⟩
              simp [x5]
            · simp [x4]
          · simp [x3]
        · simp [x2]
      · simp [x1]
theorem fits_head (xs : List Tok) : headL xs = if fitsR xs [(1, [], 0, 0), (1, methL, 0, 0)] = true then (xs.head?.map fun a => (a.2.1, false)) else if fitsR xs [(1, [], 0, 0), (1, clsL, 0, 0), (1, methL, 0, 0)] = true then (xs.head?.map fun a => (a.2.1, true)) else none := by
  match xs with
  | [] => rfl
  | [_] => rfl
  | [_, _] => rfl
  | _ :: _ :: _ :: _ :: _ :: l => simp [fitsR, headL]
  | [a, b, z] =>
    have h1 : fitsR [a, b, z] [(1, [], 0, 0), (1, methL, 0, 0)] = (a.1 == 1 && isT b 1 methL) := by simp [fitsR, fitL, fit1, isT]
    have h2 : fitsR [a, b, z] [(1, [], 0, 0), (1, clsL, 0, 0), (1, methL, 0, 0)] = false := rfl
    rw [h1, h2]
    simp [headL]
  | [a, b, c, z] =>
    have h1 : fitsR [a, b, c, z] [(1, [], 0, 0), (1, methL, 0, 0)] = false := rfl
    have h2 : fitsR [a, b, c, z] [(1, [], 0, 0), (1, clsL, 0, 0), (1, methL, 0, 0)] = (a.1 == 1 && (isT b 1 clsL && isT c 1 methL)) := by simp [fitsR, fitL, fit1, isT]
    rw [h1, h2]
    simp [headL]
end Go.Proofs.YtmdkneollidkfaaGreatDoor.Fl
