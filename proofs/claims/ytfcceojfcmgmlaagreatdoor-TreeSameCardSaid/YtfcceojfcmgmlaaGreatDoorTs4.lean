/-
  A method of at most so many nodes: the law's Cut.
-/
import Derived.Test.YtfcceojfcmgmlaaGreatDoorTs3
namespace Go.Proofs.YtfcceojfcmgmlaaGreatDoor.Fl
open Go.RowKit Go.Shelf

def cutM (m : Me) : Me := ⟨m.nm, m.ps.take 15, m.ts.take 15, m.pr, (fewL m.bd 200 60).1, m.at_⟩
theorem cut_result {W : World} {C : Nat} {v0 v1 v2 v3 v4 v5 : Value} {a : Array Value} (h : W.heap[C]? = some (.cells #[v0, v1, v2, v3, v4, v5] 25 (0, 0))) (h2 : a[2]?.getD undef = .pointer (some ⟨C, 0, none⟩)) :
    (results Tryz.f8 a).run Tryz.prog W = .ok (.agg #[v0, v1, v2, v3, v4, v5]) W := by
  obtain ⟨c0, c1, c2, c3, c4, c5, _⟩ := cells6T h
  simp [results, Tryz.results8, go_sem, h2, c0, c1, c2, c3, c4, c5]
theorem boxes3T (w : World) (x y z : Obj) (W : World) (hW : ((w.alloc x).alloc y).alloc z = W) : W.heap[w.heap.size]? = some x ∧ W.heap[w.heap.size + 1]? = some y ∧ W.heap[w.heap.size + 2]? = some z ∧ Below w.heap.size w W := by
  obtain ⟨h1, h2, h3⟩ := boxes2T w x y _ rfl
  have hs : ((w.alloc x).alloc y).heap.size = w.heap.size + 2 := by rw [World.size_alloc, World.size_alloc]
  refine ⟨?_, ?_, ?_, ?_⟩
  · rw [← hW]; exact (Below.heap_alloc _ _ _ (by omega)).trans h1
  · rw [← hW]; exact (Below.heap_alloc _ _ _ (by omega)).trans h2
  · rw [← hW, ← hs]; exact heap_alloc_new _ _
  · rw [← hW]; exact h3.alloc (by omega) _
theorem set6T {w : World} {C : Nat} {a0 a1 a2 a3 a4 a5 : Value} {T : TypeId} (h : w.heap[C]? = some (.cells #[a0, a1, a2, a3, a4, a5] T (0, 0))) (v0 v1 v2 v3 v4 v5 : Value) :
    ((((((w.setCell ⟨C, 0, none⟩ v0).setCell ⟨C, 1, none⟩ v1).setCell ⟨C, 2, none⟩ v2).setCell ⟨C, 3, none⟩ v3).setCell ⟨C, 4, none⟩ v4).setCell ⟨C, 5, none⟩ v5).heap[C]? = some (.cells #[v0, v1, v2, v3, v4, v5] T (0, 0)) :=
  heap_setCell_same _ C 5 _ _ v5 (heap_setCell_same _ C 4 _ _ v4 (heap_setCell_same _ C 3 _ _ v3 (heap_setCell_same _ C 2 _ _ v2 (heap_setCell_same _ C 1 _ _ v1 (heap_setCell_same w C 0 _ _ v0 h)))))
theorem six_setT {w : World} {C : Nat} (v0 v1 v2 v3 v4 v5 : Value) :
    (∀ k, k ≠ C → ((((((w.setCell ⟨C, 0, none⟩ v0).setCell ⟨C, 1, none⟩ v1).setCell ⟨C, 2, none⟩ v2).setCell ⟨C, 3, none⟩ v3).setCell ⟨C, 4, none⟩ v4).setCell ⟨C, 5, none⟩ v5).heap[k]? = w.heap[k]?) ∧
    ((((((w.setCell ⟨C, 0, none⟩ v0).setCell ⟨C, 1, none⟩ v1).setCell ⟨C, 2, none⟩ v2).setCell ⟨C, 3, none⟩ v3).setCell ⟨C, 4, none⟩ v4).setCell ⟨C, 5, none⟩ v5).heap.size = w.heap.size := by
  refine ⟨fun k hk => ?_, by simp [World.setCell]⟩
  rw [Below.heap_setCell _ ⟨C, 5, none⟩ _ k hk, Below.heap_setCell _ ⟨C, 4, none⟩ _ k hk, Below.heap_setCell _ ⟨C, 3, none⟩ _ k hk, Below.heap_setCell _ ⟨C, 2, none⟩ _ k hk, Below.heap_setCell _ ⟨C, 1, none⟩ _ k hk, Below.heap_setCell _ ⟨C, 0, none⟩ _ k hk]
/-- anywhere but in two blocks -/
def Nt (B T hi : Nat) : Nat → Prop := fun k => k ≠ T ∧ k ≠ T + 1 ∧ (k < B ∨ T ≤ k) ∧ k < hi
/-- how memory stands while a method is cut -/
structure CutI (w wx : World) (B T : Nat) (u0 u1 u2 u3 u4 u5 : Value) (A : Option Addr) (l : List Nd) : Prop where
  box : wx.heap[T]? = some (.cells #[u0, u1, u2, u3, u4, u5] 25 (0, 0))
  res : wx.heap[T + 1]? = some (.cells #[.string ⟨#[]⟩, .slice none 0 0, .slice none 0 0, .int .i64 0, .slice none 0 0, .int .i64 0] 25 (0, 0))
  bel : Below T w wx
  nds : NdsAt wx (Nt B T wx.heap.size) A l
theorem CutI.set {w wx : World} {B T : Nat} {u0 u1 u2 u3 u4 u5 v0 v1 v2 v3 v4 v5 : Value} {A : Option Addr} {l : List Nd} (h : CutI w wx B T u0 u1 u2 u3 u4 u5 A l) (k : Nat) (x : Value)
    (hv : (#[u0, u1, u2, u3, u4, u5] : Array Value).setIfInBounds k x = #[v0, v1, v2, v3, v4, v5]) : CutI w (wx.setCell ⟨T, k, none⟩ x) B T v0 v1 v2 v3 v4 v5 A l :=
  ⟨by rw [← hv]; exact heap_setCell_same wx T k _ _ x h.box, (Below.heap_setCell wx ⟨T, k, none⟩ x (T + 1) (show T + 1 ≠ T by omega)).trans h.res, h.bel.setCell (p := ⟨T, k, none⟩) (Nat.le_refl _) x,
    h.nds.keep fun j hj => ⟨Below.heap_setCell wx ⟨T, k, none⟩ x j hj.1, hj.1, hj.2.1, hj.2.2.1, by rw [show (wx.setCell ⟨T, k, none⟩ x).heap.size = wx.heap.size by simp [World.setCell]]; exact hj.2.2.2⟩⟩
set_option maxRecDepth 100000 in
set_option maxHeartbeats 8000000 in
theorem cut_any (m : Me) (v : Value) (B : Nat) (w : World) (h : MeAt w (Lo B) v m) (hB : B ≤ w.heap.size) :
    Calls Tryz.prog 8 #[v] w fun e w' => ∃ v', e = .returned v' ∧ MeAt w' (Nw B w.heap.size w'.heap.size) v' (cutM m) ∧ Below w.heap.size w w' := by
  obtain ⟨Ap, cp, At, ct, Ab, cb, rfl, h1, h2, h3, h4, h5, h6, s1, s2, s3, n1, n2, n3⟩ := h.ex
  clear h
  have HS := Lib.hid (And.intro s1 (And.intro s2 (And.intro n1 n2)))
  clear s1 s2 n1 n2
  obtain ⟨T, hT⟩ : ∃ T, w.heap.size = T := ⟨_, rfl⟩
  obtain ⟨W, hW⟩ : ∃ W, ((w.alloc (.cells #[.string (mkB m.nm), .slice Ap m.ps.length cp, .slice At m.ts.length ct, .int .i64 m.pr, .slice Ab m.bd.length cb, .int .i64 m.at_] 25)).alloc (.cells #[.string ⟨#[]⟩, .slice none 0 0, .slice none 0 0, .int .i64 0, .slice none 0 0, .int .i64 0] 25)).alloc (.cells #[.int .i64 200] 3) = W := ⟨_, rfl⟩
  obtain ⟨q1, q2, q3, hb⟩ := boxes3T w _ _ _ W hW
  rw [hT] at q1 q2 q3
  have hc := rfew_any 60 m.bd Ab cb B (T + 2) 200 W (by omega) (by omega) (s3.below (hb.mono hB) (Nat.le_refl _)) (by omega) q3 h5 h6
  obtain ⟨r, hr⟩ : ∃ r, fewL m.bd 200 60 = r := ⟨_, rfl⟩
  rw [hr] at hc
  go_enter Tryz.func8, Tryz.ntmps8
  go_upto_region 2 with fail
  try simp only [hW]
  try simp only [hT]
  have HT := Lib.hid hT
  have HQ := Lib.hid (And.intro q1 (And.intro q2 hb))
  clear hW hT q2 q3 hb s3 n3
  have f1 := cells6T q1
  have l1 := lt_of_blk q1
  go_upto_region 3 with (go_at_call 23; refine hc.mono ?_; rintro e w5 ⟨ho5, hc5, A5, c5, rfl, hl5, hm5, hn5, hz5⟩; clear hc; have hx5 := (ho5.block T l1 (by omega)).trans HQ.out.1; have f5 := cells6T hx5; have l5 := lt_of_blk hx5)
  have hzw := ho5.size
  have h5w := HQ.out.2.2.size
  have ht := HT.out
  have lw1 := lt_of_blk HQ.out.2.1
  have HX : Hid (CutI w (w5.setCell ⟨T, 4, none⟩ (.slice A5 r.1.length c5)) B T (.string (mkB m.nm)) (.slice Ap m.ps.length cp) (.slice At m.ts.length ct) (.int .i64 m.pr) (.slice A5 r.1.length c5) (.int .i64 m.at_) A5 r.1) :=
    Lib.hid (CutI.set (u4 := .slice Ab m.bd.length cb) ⟨hx5, (ho5.block (T + 1) lw1 (by omega)).trans HQ.out.2.1, Below.trans (by have := HQ.out.2.2; rw [ht] at this; exact this) (ho5.below (by omega) (by omega)), hn5.keep fun k hk => ⟨rfl, by
      rcases hk with hk | ⟨a1, a2⟩
      · exact ⟨by omega, by omega, .inl hk, by omega⟩
      · exact ⟨by omega, by omega, .inr (by omega), a2⟩⟩⟩ 4 _ rfl)
  have HZ := Lib.hid (And.intro hl5 (And.intro hm5 hz5))
  generalize w5.setCell ⟨T, 4, none⟩ (.slice A5 r.1.length c5) = w6 at *
  clear hn5 hx5 f5 l5 hc5 ho5 hzw h5w lw1 f1 l1 HQ q1 hl5 hm5 hz5 ht
  have f1 := cells6T HX.out.box
  have l1 := lt_of_blk HX.out.box
  go_upto_if 11 with fail
  go_cut [] (fun wx => ∃ ps2 : List (List UInt8), Hid (ps2 = m.ps.take 15) ∧ Hid (CutI w wx B T (.string (mkB m.nm)) (.slice Ap ps2.length cp) (.slice At m.ts.length ct) (.int .i64 m.pr) (.slice A5 r.1.length c5) (.int .i64 m.at_) A5 r.1))
  case first =>
    by_cases h8 : 15 < m.ps.length
    · have h8i : (15 : Int) < (m.ps.length : Int) := by omega
      have h9 : (m.ps.take 15).length = 15 := by rw [List.length_take]; omega
      obtain ⟨a0, ha0⟩ : ∃ a0, Ap = some a0 := by
        cases hAn : Ap with
        | none => have := HS.out.2.2.1 hAn; rw [this] at h8; cases h8
        | some a0 => exact ⟨a0, rfl⟩
      subst ha0
      go_wp2_with fail
      go_meet
      exact ⟨m.ps.take 15, Lib.hid rfl, by rw [h9]; exact Lib.hid (HX.out.set 1 _ rfl)⟩
    · have h8i : ¬ (15 : Int) < (m.ps.length : Int) := by omega
      go_wp2_with fail
      go_meet
      exact ⟨m.ps, Lib.hid (by rw [List.take_of_length_le (by omega)]), HX⟩
  case rest =>
  clear f1 l1 HX
  obtain ⟨ps2, Hps2, HX⟩ := hcut
  have f1 := cells6T HX.out.box
  have l1 := lt_of_blk HX.out.box
  go_upto_if 19 with fail
  go_cut [] (fun wx => ∃ ts2 : List (List UInt8), Hid (ts2 = m.ts.take 15) ∧ Hid (CutI w wx B T (.string (mkB m.nm)) (.slice Ap ps2.length cp) (.slice At ts2.length ct) (.int .i64 m.pr) (.slice A5 r.1.length c5) (.int .i64 m.at_) A5 r.1))
  case first =>
    by_cases h8 : 15 < m.ts.length
    · have h8i : (15 : Int) < (m.ts.length : Int) := by omega
      have h9 : (m.ts.take 15).length = 15 := by rw [List.length_take]; omega
      obtain ⟨a0, ha0⟩ : ∃ a0, At = some a0 := by
        cases hAn : At with
        | none => have := HS.out.2.2.2 hAn; rw [this] at h8; cases h8
        | some a0 => exact ⟨a0, rfl⟩
      subst ha0
      go_wp2_with fail
      go_meet
      exact ⟨m.ts.take 15, Lib.hid rfl, by rw [h9]; exact Lib.hid (HX.out.set 2 _ rfl)⟩
    · have h8i : ¬ (15 : Int) < (m.ts.length : Int) := by omega
      go_wp2_with fail
      go_meet
      exact ⟨m.ts, Lib.hid (by rw [List.take_of_length_le (by omega)]), HX⟩
  case rest =>
  clear f1 l1 HX
  obtain ⟨ts2, Hts2, HX⟩ := hcut
  have f1 := cells6T HX.out.box
  have l1 := lt_of_blk HX.out.box
  have f2 := cells6T HX.out.res
  have l2 := lt_of_blk HX.out.res
  go_wp2_with fail
  have g1 := set6T HX.out.res (.string (mkB m.nm)) (.slice Ap ps2.length cp) (.slice At ts2.length ct) (.int .i64 m.pr) (.slice A5 r.1.length c5) (.int .i64 m.at_)
  obtain ⟨k1, k2⟩ := six_setT (w := wc) (C := T + 1) (.string (mkB m.nm)) (.slice Ap ps2.length cp) (.slice At ts2.length ct) (.int .i64 m.pr) (.slice A5 r.1.length c5) (.int .i64 m.at_)
  have hbe := (((((HX.out.bel.setCell (p := ⟨T + 1, 0, none⟩) (Nat.le_succ T) (.string (mkB m.nm))).setCell (p := ⟨T + 1, 1, none⟩) (Nat.le_succ T) (.slice Ap ps2.length cp)).setCell (p := ⟨T + 1, 2, none⟩) (Nat.le_succ T) (.slice At ts2.length ct)).setCell (p := ⟨T + 1, 3, none⟩) (Nat.le_succ T) (.int .i64 m.pr)).setCell (p := ⟨T + 1, 4, none⟩) (Nat.le_succ T) (.slice A5 r.1.length c5)).setCell (p := ⟨T + 1, 5, none⟩) (Nat.le_succ T) (.int .i64 m.at_)
  refine bodyPost_ret (v := .agg #[.string (mkB m.nm), .slice Ap ps2.length cp, .slice At ts2.length ct, .int .i64 m.pr, .slice A5 r.1.length c5, .int .i64 m.at_]) (cut_result g1 rfl) rfl ?_
  have ht := HT.out
  have hs0 := HX.out.bel.size
  refine ⟨_, rfl, ⟨Ap, cp, At, ct, A5, c5, ?_, ?_, h2, ?_, h4, ?_, HZ.out.2.1, ?_, ?_, ?_, ?_, ?_, ?_⟩, by rw [ht]; exact hbe⟩
  · show _ = Value.agg #[_, .slice Ap (m.ps.take 15).length cp, .slice At (m.ts.take 15).length ct, _, .slice A5 (fewL m.bd 200 60).1.length c5, _]
    rw [hr, ← Hps2.out, ← Hts2.out]; rfl
  · show (m.ps.take 15).length ≤ cp
    rw [List.length_take]; omega
  · show (m.ts.take 15).length ≤ ct
    rw [List.length_take]; omega
  · show (fewL m.bd 200 60).1.length ≤ c5
    rw [hr]; exact HZ.out.1
  · refine (HS.out.1.take 15).keep fun k hk => ?_
    have hk : k < B := hk
    exact ⟨hbe.block k (by omega), .inl hk⟩
  · refine (HS.out.2.1.take 15).keep fun k hk => ?_
    have hk : k < B := hk
    exact ⟨hbe.block k (by omega), .inl hk⟩
  · show NdsAt _ _ A5 (fewL m.bd 200 60).1
    rw [hr]
    exact HX.out.nds.keep fun k hk => ⟨k1 k hk.2.1, hk.2.2.1.imp id fun h => ⟨by omega, by rw [k2]; exact hk.2.2.2⟩⟩
  · intro e
    show m.ps.take 15 = []
    rw [HS.out.2.2.1 e]; rfl
  · intro e
    show m.ts.take 15 = []
    rw [HS.out.2.2.2 e]; rfl
  · intro e
    show (fewL m.bd 200 60).1 = []
    rw [hr]; exact HZ.out.2.2 e
end Go.Proofs.YtfcceojfcmgmlaaGreatDoor.Fl

/-
  The program's nodes out of the document's: Nodes.
-/
namespace Go.Proofs.YtfcceojfcmgmlaaGreatDoor.Fl
open Go.RowKit Go.Shelf

theorem nodeinfoP : (Tryz.prog.info? 47).map (fun i => (i.zero, i.size, i.bytes)) = some (some (.agg #[.int .i64 0, .string ⟨#[]⟩, .int .i64 0, .slice none 0 0, .slice none 0 0, .int .i64 0]), 6, 88) := by kernel_rfl
def OwnP (w : World) (base : Nat) (v : Value) (l : List NE) : Prop := w.ownsRow base 47 6 v l.length (ne_ l)
theorem OwnP.below {w w' : World} {base : Nat} {v : Value} {xs : List NE} (h : OwnP w base v xs) (hb : Below w.heap.size w w') : OwnP w' base v xs :=
  ⟨h.1, h.2.elim .inl fun ⟨g, cap, cur, hv, hbg, hg, r⟩ => .inr ⟨g, cap, cur, hv, hbg, (hb.block g (lt_of_blk hg)).trans hg, r⟩⟩
theorem step_append_p {w : World} {base c : Nat} {A : Option Addr} {xs news : List NE} {v : Value} {ops : Array Oper} {o : Oper} {a : Act} {K : Act → World → Prop} {Q : Exit → Act → World → Prop} {E : Prop} (hg : o.guard = none) (s x : Operand) (ho : o.op = .call { callee := .builtin .append, args := #[s, x], argTypes := #[28, 28] })
    (hs : a.eval s = v) (hx : a.eval x = .slice A news.length c) (hown : OwnP w base v xs) (hr : Rd w w.heap.size A (ne_ news)) (hA : A = none → news.length = 0) (hl : xs.length ≤ 100000000) (hl2 : news.length ≤ 100000000) (hb : base ≤ w.heap.size)
    (h : ∀ A' ts c' w', Hid (ts = xs ++ news) → Hid (OwnP w' base (.slice A' ts.length c') ts) → Hid (w.grownBy w' v.ownBlock ∧ ((Value.slice A' ts.length c').ownBlock = v.ownBlock ∨ (Value.slice A' ts.length c').ownBlock = some w.heap.size)) → K (a.put o.dst (.slice A' ts.length c')) w') :
    if Region.wanted o (yielded ops a.tmps) = true then Oper.wp Tryz.prog o a w K Q else E := by
  obtain ⟨i0, hi, hz0, hz1, hz2⟩ := info_parts nodeinfoP
  refine step_append_rd (base := base) (size := 6) (bytes := 88) (n := xs.length) (m := news.length) (c := c) (v := v) (xs := ne_ xs) (news := ne_ news) hg s x ho Tryz.underlying28 hi hz0 hz1 hz2 rfl (by decide) hs hx hown hr (ne__len _) hA (ne__one _) (by unfold maxLen; omega) (by omega) hb ?_
  intro v' w' happ
  obtain ⟨A', c', rfl, _, _⟩ := happ.slice
  have e : xs.length + news.length = (xs ++ news).length := by simp
  have ho := happ.own
  have hat := happ.at_
  rw [e, show ne_ xs ++ ne_ news = ne_ (xs ++ news) from (ne__app _ _).symm] at ho
  rw [e] at hat ⊢
  exact h A' (xs ++ news) c' w' (Lib.hid rfl) (Lib.hid ho) (Lib.hid ⟨happ.grown, hat⟩)
structure NodI (w0 w : World) (es : List NE) (v : Value) : Prop where
  own : OwnP w w0.heap.size v es
  bel : Below w0.heap.size w0 w
  ent : ∀ x ∈ es, Ent w (Nx 0 w0.heap.size w.heap.size v) x
theorem NodI.more {w0 wr w6 w7 : World} {es : List NE} {v v' : Value} {x : NE} (h : NodI w0 wr es v) (ho : Below wr.heap.size wr w6) (hx : Ent w6 (Nw 0 wr.heap.size w6.heap.size) x)
    (hown : OwnP w7 w0.heap.size v' (es ++ [x])) (hgr : w6.grownBy w7 v.ownBlock) (hat : v'.ownBlock = v.ownBlock ∨ v'.ownBlock = some w6.heap.size) : NodI w0 w7 (es ++ [x]) v' := by
  have hlo := World.ownsRow.lt h.own
  have hs := h.bel.size
  have hs2 := ho.size
  have hkeep : ∀ k, k < w6.heap.size → some k ≠ v.ownBlock → w7.heap[k]? = w6.heap[k]? := hgr.block
  refine ⟨hown, (h.bel.trans (ho.mono hs)).grown hgr (Nat.le_trans hs hs2) (fun k e => (hlo k e).1), fun y hy => ?_⟩
  rcases List.mem_append.1 hy with hy | hy
  · refine (h.ent y hy).keep fun k hk => ?_
    rcases hk with hk | ⟨a, b, c⟩
    · exact absurd hk (Nat.not_lt_zero k)
    · refine ⟨(hkeep k (by omega) (fun e => c e.symm)).trans (ho.block k b), .inr ⟨a, Nat.lt_of_lt_of_le (show k < w6.heap.size by omega) hgr.size, ?_⟩⟩
      rcases hat with e | e <;> rw [e]
      · exact c
      · intro e; injection e with e; omega
  · rw [List.mem_singleton.1 hy]
    refine hx.keep fun k hk => ?_
    rcases hk with hk | ⟨a, b⟩
    · exact absurd hk (Nat.not_lt_zero k)
    · refine ⟨hkeep k b (fun e => by have := hlo k e.symm; omega), .inr ⟨by omega, Nat.lt_of_lt_of_le b hgr.size, ?_⟩⟩
      rcases hat with e | e <;> rw [e]
      · intro e; have := hlo k e; omega
      · intro e; injection e with e; omega
/-- what Nodes answers: the same tree, all of it new -/
def NodT (w0 : World) (l : List Nd) (e : Ending) (w : World) : Prop :=
  Below w0.heap.size w0 w ∧ ∃ A c, e = .returned (.slice A l.length c) ∧ l.length ≤ c ∧ c ≤ 9223372036854775807 ∧ NdsAt w (Nw 0 w0.heap.size w.heap.size) A l ∧ (A = none → l = []) ∧
    ∃ es : List NE, es.map (fun x => x.1) = l ∧ OwnP w w0.heap.size (.slice A l.length c) es ∧ ∀ x ∈ es, Ent w (Nx 0 w0.heap.size w.heap.size (.slice A l.length c)) x
theorem NodI.fin {w0 w : World} {c : Nat} {es : List NE} {A : Option Addr} {l : List Nd} (h : NodI w0 w es (.slice A es.length c)) (hl : es.map (fun x => x.1) = l) : NodT w0 l (.returned (.slice A es.length c)) w := by
  have hlo := World.ownsRow.lt h.own
  obtain ⟨hr, hl1, hA⟩ := own_rdZ h.own
  have hcap : c ≤ 9223372036854775807 := by
    rcases h.own.2 with ⟨e, _⟩ | ⟨_, cap, _, e, _, _, _, hm, _⟩
    · injection e with _ _ e; omega
    · injection e with _ _ e; unfold maxLen at hm; omega
  subst hl
  refine ⟨h.bel, A, c, by simp, by simpa using hl1, hcap, nds_of_row hr (fun a e => ?_) (fun x hx => (h.ent x hx).keep fun k hk => ⟨rfl, ?_⟩), fun e => ?_, es, rfl, by rw [List.length_map]; exact h.own, by rw [List.length_map]; exact h.ent⟩
  · subst e; have := hlo a.block rfl; exact .inr this
  · rcases hk with hk | ⟨a, b, _⟩
    · exact .inl hk
    · exact .inr ⟨a, b⟩
  · have := hA e
    cases es with
    | nil => rfl
    | cons x l => cases this
/-- texts of a row of its own -/
theorem sr_of_row {w : World} {P : Nat → Prop} {base c : Nat} {A : Option Addr} {l : List (List UInt8)} (h : OwnS w base (.slice A l.length c) l) (hP : ∀ k, base ≤ k → k < w.heap.size → P k) : SrAt w P A l ∧ l.length ≤ c ∧ c ≤ 9223372036854775807 ∧ (A = none → l = []) := by
  have hlo := World.ownsRow.lt h
  obtain ⟨hr, hl, hA⟩ := own_rdZ h
  refine ⟨?_, hl, ?_, fun e => List.eq_nil_of_length_eq_zero (hA e)⟩
  · rcases hr with e | ⟨b, off, rfl, hb, hc⟩
    · refine .inl ?_
      cases l with
      | nil => rfl
      | cons x l => cases e
    · exact .inr ⟨b, off, rfl, hP b (hlo b rfl).1 hb, hc⟩
  · rcases h.2 with ⟨e, _⟩ | ⟨_, cap, _, e, _, _, _, hm, _⟩
    · injection e with _ _ e; omega
    · injection e with _ _ e; unfold maxLen at hm; omega
theorem rd_of_sr {w : World} {B : Nat} {A : Option Addr} {l : List (List UInt8)} (h : SrAt w (Lo B) A l) : Rd w B A (cs_ l) := by
  rcases h with rfl | ⟨b, off, rfl, hb, hc⟩
  · exact .inl rfl
  · exact .inr ⟨b, off, rfl, hb, hc⟩
theorem ne_oneT (T : TypeId) (w : World) (x : NE) : Rd (w.alloc (.cells (ne6 x).toArray T)) (w.alloc (.cells (ne6 x).toArray T)).heap.size (some ⟨w.heap.size, 0, none⟩) (ne_ [x]) := by
  have hg := heap_alloc_new w (.cells (ne6 x).toArray T)
  refine .inr ⟨w.heap.size, 0, rfl, lt_of_blk hg, fun j v hj => ?_⟩
  unfold World.cell?
  have e : ne_ [x] = ne6 x := by simp [ne_]
  rw [e] at hj
  simp only [hg, Nat.zero_add]
  show (ne6 x).toArray[j]? = some v
  rw [List.getElem?_toArray]
  exact hj
set_option maxRecDepth 100000 in
set_option maxHeartbeats 8000000 in
theorem nodes_any (n : Nat) : ∀ (xs : List Nd) (A : Option Addr) (c B : Nat) (w : World), cntL xs ≤ n → cntL xs ≤ 10000000 → (∀ y ∈ allL xs, y.ns.length ≤ 100000000) → NdsAt w (Lo B) A xs → B ≤ w.heap.size → xs.length ≤ c → c ≤ 9223372036854775807 →
    Calls Tryz.prog 24 #[.slice A xs.length c] w (NodT w xs) := by
  induction n using Nat.strongRecOn with
  | _ n ih =>
    intro xs A c B w hn hs hns h hB hc hcc
    have H1 := Lib.hid h
    clear h
    have hxl := cnt_len xs
    go_enter Tryz.func24, Tryz.ntmps24
    go_wp2_with fail
    go_loopw [3, 8] (fun u v wr => ∃ (i : Nat) (es : List NE) (A2 : Option Addr) (c2 : Nat), i ≤ xs.length ∧ u = .slice A2 es.length c2 ∧ v = .int .i64 (i : Int) ∧ Hid (es.length = i) ∧ Hid (NodI w wr es (.slice A2 es.length c2)) ∧ Hid (es.map (fun x => x.1) = xs.take i)) (fun _ v _ => xs.length - (intOf v).toNat)
    case atStart => exact ⟨0, [], none, 0, Nat.zero_le _, rfl, rfl, Lib.hid rfl, Lib.hid ⟨World.ownsRow_nil _ _ _ _, Below.refl _ _, fun x hx => by cases hx⟩, Lib.hid rfl⟩
    case round =>
      obtain ⟨i, es, A2, c2, hi, rfl, rfl, hei, HF, HM⟩ := hrel
      by_cases hlt : i < xs.length
      case neg =>
        have hq : ¬ ((i : Int) < (xs.length : Int)) := by omega
        have HE := Lib.hid (show es.map (fun x => x.1) = xs by have := HM.out; rwa [List.take_of_length_le (by omega)] at this)
        go_wp2_with fail
        go_ret
        exact HF.out.fin HE.out
      have hq : (i : Int) < (xs.length : Int) := by omega
      have hws := HF.out.bel.size
      have hN1 := (H1.out.below (HF.out.bel.mono hB) (Nat.le_refl _)).at_ hlt
      obtain ⟨b, o, rfl, hb, Ak, ck, An, cn, d0, d1, d2, d3, d4, d5, g1, g2, g3, g4, g5, g6, g7, g8⟩ := hN1
      have hb : b < B := hb
      have hbw : b < wr.heap.size := by omega
      have hck := cnt_kid hlt
      have HMn := Lib.hid (show es.map (fun x => x.1) ++ [xs[i]] = xs.take (i + 1) by rw [HM.out, List.take_succ_eq_append_getElem hlt])
      have hmem : ∀ y ∈ xs[i] :: allL xs[i].kids, y ∈ allL xs := fun y hy => by
        have e : allL (xs.take (i + 1)) = allL (xs.take i) ++ xs[i] :: allL xs[i].kids := by rw [List.take_succ_eq_append_getElem hlt, allL_app, allL, allN_eq, allL, List.append_nil]
        have e2 : allL xs = allL (xs.take (i + 1)) ++ allL (xs.drop (i + 1)) := by rw [← allL_app, List.take_append_drop]
        rw [e2, e]
        exact List.mem_append_left _ (List.mem_append_right _ hy)
      have hnx := hns _ (hmem _ (List.mem_cons_self ..))
      obtain ⟨X, hX⟩ : ∃ X, wr.heap.size = X := ⟨_, rfl⟩
      obtain ⟨W1, hW1⟩ : ∃ W1, wr.alloc (.cells #[.int .i64 xs[i].kd, .string (mkB xs[i].nm), .int .i64 xs[i].nu, .slice Ak xs[i].kids.length ck, .slice An xs[i].ns.length cn, .int .i64 xs[i].at_] 49) = W1 := ⟨_, rfl⟩
      have hb1 : Below wr.heap.size wr W1 := by rw [← hW1]; exact (Below.refl _ _).alloc (Nat.le_refl _) _
      have HRC : Hid (∀ w', Below W1.heap.size W1 w' → Calls Tryz.prog 24 #[.slice Ak xs[i].kids.length ck] w' (NodT w' xs[i].kids)) :=
        Lib.hid (fun w' hbw' => ih (cntL xs[i].kids) (by omega) xs[i].kids Ak ck B w' (Nat.le_refl _) (by omega) (fun y hy => hns y (hmem y (List.mem_cons_of_mem _ hy))) (g6.below ((hb1.trans (hbw'.mono hb1.size)).mono (by omega)) (Nat.le_refl _)) (Nat.le_trans (by omega) (Nat.le_trans hb1.size hbw'.size)) g1 g3)
      have HNR := Lib.hid (And.intro g5 (And.intro g7 g8))
      have HAN := Lib.hid (show An = none → xs[i].ns.length = 0 from fun e => by rw [g8 e]; rfl)
      clear ih hns hmem g5 g6 g7 g8 hck HM
      generalize xs[i] = x at *
      have hx1 : W1.heap[X]? = some (.cells #[.int .i64 x.kd, .string (mkB x.nm), .int .i64 x.nu, .slice Ak x.kids.length ck, .slice An x.ns.length cn, .int .i64 x.at_] 49 (0, 0)) := by
        rw [← hW1, ← hX]; exact heap_alloc_new wr _
      have lX := lt_of_blk hx1
      go_upto_region 5 with fail
      rename_i KK hKK
      have HKK := Lib.hid hKK
      clear hKK
      try simp only [hW1, hX]
      have HX := Lib.hid hX
      have HB1 := Lib.hid hb1
      clear hW1 hX hb1 d0 d1 d2 d3 d4 d5 hbw
      have f1 := cells6T hx1
      have hS : (fun w' : World => w'.cell? ⟨X, 0, none⟩ = some (.int .i64 x.kd) ∧ w'.cell? ⟨X, 1, none⟩ = some (.string (mkB x.nm)) ∧ w'.cell? ⟨X, 2, none⟩ = some (.int .i64 x.nu) ∧ w'.cell? ⟨X, 3, none⟩ = some (.slice Ak x.kids.length ck) ∧ w'.cell? ⟨X, 4, none⟩ = some (.slice An x.ns.length cn) ∧ w'.cell? ⟨X, 5, none⟩ = some (.int .i64 x.at_)) W1.drew := ⟨f1.1, f1.2.1, f1.2.2.1, f1.2.2.2.1, f1.2.2.2.2.1, f1.2.2.2.2.2.1⟩
      refine wp_region_noPanic ?_
      refine wp_region_held_drew (S := (fun w' : World => w'.cell? ⟨X, 0, none⟩ = some (.int .i64 x.kd) ∧ w'.cell? ⟨X, 1, none⟩ = some (.string (mkB x.nm)) ∧ w'.cell? ⟨X, 2, none⟩ = some (.int .i64 x.nu) ∧ w'.cell? ⟨X, 3, none⟩ = some (.slice Ak x.kids.length ck) ∧ w'.cell? ⟨X, 4, none⟩ = some (.slice An x.ns.length cn) ∧ w'.cell? ⟨X, 5, none⟩ = some (.int .i64 x.at_))) (by kernel_rfl) hS (fun hHeld => ?_)
      clear hS f1
      refine wpAnyH_take (i := 0) (v := ?_) (by first | (simp only [List.getElem?_toArray, List.getElem?_cons_zero]; rfl) | rfl) (by kernel_rfl) (by kernel_rfl) (by kernel_rfl) (fun _ _ _ h => h) (Or.inl ⟨by rfl, ?_⟩) (by assumption) ?_
      rotate_left 1
      · (intro w' hSw; (try dsimp only at hSw); go_simp; (try with_reducible rfl))
      try simp only [Act.put, List.setIfInBounds_toArray, List.set_cons_zero, List.set_cons_succ]
      refine wpAnyH_take (i := 1) (v := ?_) (by first | (simp only [List.getElem?_toArray, List.getElem?_cons_succ, List.getElem?_cons_zero]; rfl) | rfl) (by kernel_rfl) (by kernel_rfl) (by kernel_rfl) (fun _ _ _ h => h) (Or.inl ⟨by rfl, ?_⟩) (by assumption) ?_
      rotate_left 1
      · (intro w' hSw; (try dsimp only at hSw); go_simp; (try with_reducible rfl))
      try simp only [Act.put, List.setIfInBounds_toArray, List.set_cons_zero, List.set_cons_succ]
      refine wpAnyH_take (i := 2) (v := ?_) (by first | (simp only [List.getElem?_toArray, List.getElem?_cons_succ, List.getElem?_cons_zero]; rfl) | rfl) (by kernel_rfl) (by kernel_rfl) (by kernel_rfl) (fun _ _ _ h => h) (Or.inl ⟨by rfl, ?_⟩) (by assumption) ?_
      rotate_left 1
      · (intro w' hSw; (try dsimp only at hSw); go_simp; (try with_reducible rfl))
      try simp only [Act.put, List.setIfInBounds_toArray, List.set_cons_zero, List.set_cons_succ]
      refine wpAnyH_take (i := 3) (v := ?_) (by first | (simp only [List.getElem?_toArray, List.getElem?_cons_succ, List.getElem?_cons_zero]; rfl) | rfl) (by kernel_rfl) (by kernel_rfl) (by kernel_rfl) (fun _ _ _ h => h) (Or.inl ⟨by rfl, ?_⟩) (by assumption) ?_
      rotate_left 1
      · (intro w' hSw; (try dsimp only at hSw); go_simp; (try with_reducible rfl))
      try simp only [Act.put, List.setIfInBounds_toArray, List.set_cons_zero, List.set_cons_succ]
      refine wpAnyH_take (i := 4) (v := ?_) (by first | (simp only [List.getElem?_toArray, List.getElem?_cons_succ, List.getElem?_cons_zero]; rfl) | rfl) (by kernel_rfl) (by kernel_rfl) (by kernel_rfl) (fun _ _ _ h => h) (Or.inl ⟨by rfl, ?_⟩) (by assumption) ?_
      rotate_left 1
      · (intro w' hSw; (try dsimp only at hSw); go_simp; (try with_reducible rfl))
      try simp only [Act.put, List.setIfInBounds_toArray, List.set_cons_zero, List.set_cons_succ]
      refine wpAnyH_take (i := 5) (v := ?_) (by first | (simp only [List.getElem?_toArray, List.getElem?_cons_succ, List.getElem?_cons_zero]; rfl) | rfl) (by kernel_rfl) (by kernel_rfl) (by kernel_rfl) (fun _ _ _ h => h) (Or.inl ⟨by rfl, ?_⟩) (by assumption) ?_
      rotate_left 1
      · (intro w' hSw; (try dsimp only at hSw); go_simp; (try with_reducible rfl))
      try simp only [Act.put, List.setIfInBounds_toArray, List.set_cons_zero, List.set_cons_succ]
      refine wpAnyH_take (i := 6) (v := ?_) (by first | (simp only [List.getElem?_toArray, List.getElem?_cons_succ, List.getElem?_cons_zero]; rfl) | rfl) (by kernel_rfl) (by kernel_rfl) (by kernel_rfl) (fun _ _ _ h => h) (Or.inl ⟨by rfl, ?_⟩) (by assumption) ?_
      rotate_left 1
      · (intro w' hSw; (try dsimp only at hSw); go_simp; (try with_reducible rfl))
      try simp only [Act.put, List.setIfInBounds_toArray, List.set_cons_zero, List.set_cons_succ]
      refine wpAnyH_take (i := 7) (v := ?_) (by first | (simp only [List.getElem?_toArray, List.getElem?_cons_succ, List.getElem?_cons_zero]; rfl) | rfl) (by kernel_rfl) (by kernel_rfl) (by kernel_rfl) (fun _ _ _ h => h) (Or.inl ⟨by rfl, ?_⟩) (by assumption) ?_
      rotate_left 1
      · (intro w' hSw; (try dsimp only at hSw); go_simp; (try with_reducible rfl))
      try simp only [Act.put, List.setIfInBounds_toArray, List.set_cons_zero, List.set_cons_succ]
      refine wpAnyH_take (i := 8) (v := ?_) (by first | (simp only [List.getElem?_toArray, List.getElem?_cons_succ, List.getElem?_cons_zero]; rfl) | rfl) (by kernel_rfl) (by kernel_rfl) (by kernel_rfl) (fun _ _ _ h => h) (Or.inl ⟨by rfl, ?_⟩) (by assumption) ?_
      rotate_left 1
      · (intro w' hSw; (try dsimp only at hSw); go_simp; (try with_reducible rfl))
      try simp only [Act.put, List.setIfInBounds_toArray, List.set_cons_zero, List.set_cons_succ]
      refine wpAnyH_take (i := 11) (v := ?_) (by first | (simp only [List.getElem?_toArray, List.getElem?_cons_succ, List.getElem?_cons_zero]; rfl) | rfl) (by kernel_rfl) (by kernel_rfl) (by kernel_rfl) (fun _ _ _ h => h) (Or.inl ⟨by rfl, ?_⟩) (by assumption) ?_
      rotate_left 1
      · (intro w' hSw; (try dsimp only at hSw); go_simp; (try with_reducible rfl))
      try simp only [Act.put, List.setIfInBounds_toArray, List.set_cons_zero, List.set_cons_succ]
      refine wpAnyH_take (i := 12) (v := ?_) (by first | (simp only [List.getElem?_toArray, List.getElem?_cons_succ, List.getElem?_cons_zero]; rfl) | rfl) (by kernel_rfl) (by kernel_rfl) (by kernel_rfl) (fun _ _ _ h => h) (Or.inl ⟨by rfl, ?_⟩) (by assumption) ?_
      rotate_left 1
      · (intro w' hSw; (try dsimp only at hSw); go_simp; (try with_reducible rfl))
      try simp only [Act.put, List.setIfInBounds_toArray, List.set_cons_zero, List.set_cons_succ]
      refine wpAnyH_take (i := 14) (v := ?_) (by first | (simp only [List.getElem?_toArray, List.getElem?_cons_succ, List.getElem?_cons_zero]; rfl) | rfl) (by kernel_rfl) (by kernel_rfl) (by kernel_rfl) (fun _ _ _ h => h) (Or.inl ⟨by rfl, ?_⟩) (by assumption) ?_
      rotate_left 1
      · (intro w' hSw; (try dsimp only at hSw); go_simp; (try with_reducible rfl))
      try simp only [Act.put, List.setIfInBounds_toArray, List.set_cons_zero, List.set_cons_succ]
      refine wpAnyH_take (i := 15) (v := ?_) (by first | (simp only [List.getElem?_toArray, List.getElem?_cons_succ, List.getElem?_cons_zero]; rfl) | rfl) (by kernel_rfl) (by kernel_rfl) (by kernel_rfl) (fun _ _ _ h => h) (Or.inl ⟨by rfl, ?_⟩) (by assumption) ?_
      rotate_left 1
      · (intro w' hSw; (try dsimp only at hSw); go_simp; (try with_reducible rfl))
      try simp only [Act.put, List.setIfInBounds_toArray, List.set_cons_zero, List.set_cons_succ]
      refine wpAnyH_ready (rs := [9, 10]) (by kernel_rfl) (by simp) ?_
      refine AllReadyH.cons (by first | (simp only [List.getElem?_toArray, List.getElem?_cons_succ, List.getElem?_cons_zero]; rfl) | rfl) (fun K hK => ?_) (AllReadyH.cons (by first | (simp only [List.getElem?_toArray, List.getElem?_cons_succ, List.getElem?_cons_zero]; rfl) | rfl) (fun K hK => ?_) AllReadyH.nil)
      · skip
        go_simp
        refine (HRC.out W1.drew (Below.refl _ _).drew).mono ?_
        rintro e wk ⟨hbk, A4, c4, rfl, hk1, hk2, hk3, hk4, -⟩
        dsimp only
        have hba : Below W1.heap.size W1 wk := (Below.refl _ _).drew.trans hbk
        have hxk := (hba.block X lX).trans hx1
        have f := cells6T hxk
        refine hK.out _ _ ⟨f.1, f.2.1, f.2.2.1, f.2.2.2.1, f.2.2.2.2.1, f.2.2.2.2.2.1⟩ (fun hHeld => ?_)
        clear hK K f
        try simp only [Act.put, List.setIfInBounds_toArray, List.set_cons_zero, List.set_cons_succ]
        refine wpAnyH_ready (rs := [10]) (by kernel_rfl) (by simp) ?_
        refine AllReadyH.cons (by first | (simp only [List.getElem?_toArray, List.getElem?_cons_succ, List.getElem?_cons_zero]; rfl) | rfl) (fun K hK => ?_) AllReadyH.nil
        go_simp
        show K _ (wk.alloc (.cells #[] 9))
        obtain ⟨wv, hwv⟩ : ∃ wv, (wk.alloc (.cells #[] 9)) = wv := ⟨_, rfl⟩
        have hbv : Below wk.heap.size wk wv := by rw [← hwv]; exact ((Below.refl _ _).alloc (Nat.le_refl _) _)
        have hvs : wv.heap.size = wk.heap.size + 1 := by rw [← hwv]; exact World.size_alloc _ _
        have hov : OwnS wv W1.heap.size (.slice (some ⟨wk.heap.size, 0, none⟩) 0 0) [] := by rw [← hwv]; exact own_void wk 9 1 W1.heap.size hba.size
        rw [hwv]
        clear hwv
        have hbv1 := hba.trans (hbv.mono hba.size)
        have hxv := (hbv1.block X lX).trans hx1
        have f := cells6T hxv
        refine hK.out _ _ ⟨f.1, f.2.1, f.2.2.1, f.2.2.2.1, f.2.2.2.2.1, f.2.2.2.2.2.1⟩ (fun hHeld => ?_)
        clear hK K f
        try simp only [Act.put, List.setIfInBounds_toArray, List.set_cons_zero, List.set_cons_succ]
        refine wpAnyH_ready (rs := [13]) (by kernel_rfl) (by simp) ?_
        refine AllReadyH.cons (by first | (simp only [List.getElem?_toArray, List.getElem?_cons_succ, List.getElem?_cons_zero]; rfl) | rfl) (fun K hK => ?_) AllReadyH.nil
        refine step_append_s (base := W1.heap.size) (v := .slice (some ⟨wk.heap.size, 0, none⟩) 0 0) (xs := []) (news := x.ns) rfl _ _ rfl rfl rfl hov ((rd_of_sr (HNR.out.1.below ((HB1.out.trans (hbv1.mono HB1.out.size)).mono (by omega)) (Nat.le_refl _))).more (by have := hbv1.size; have := HB1.out.size; omega)) HAN.out (cs_one x.ns) (by simp) hnx hbv1.size ?_
        intro A9 t9 c9 wn HT9 HO9 HB9
        have ht9 : t9 = x.ns := by rw [HT9.out, List.nil_append]
        subst ht9
        have hkn : ∀ k, k < wv.heap.size → k ≠ wk.heap.size → wn.heap[k]? = wv.heap[k]? := fun k hk hne => HB9.out.2.1 k hk (fun e => hne (by injection e))
        have hbt := hbv1.trans HB9.out.1
        have hxt := (hbt.block X lX).trans hx1
        have hent : Ent wn (Nw 0 W1.heap.size wn.heap.size) (x, (A4, x.kids.length, c4), (A9, x.ns.length, c9)) := by
          obtain ⟨z1, z2, z3, z4⟩ := sr_of_row (P := Nw 0 W1.heap.size wn.heap.size) HO9.out (fun k h1 h2 => .inr ⟨h1, h2⟩)
          refine ⟨rfl, rfl, hk1, z2, hk2, z3, hk3.keep fun k hk => ?_, z1, hk4, z4⟩
          rcases hk with hk | ⟨a, b⟩
          · exact absurd hk (Nat.not_lt_zero k)
          · have h9 := HB9.out.1.size
            exact ⟨(hkn k (by omega) (by omega)).trans (hbv.block k b), .inr ⟨a, by omega⟩⟩
        have f := cells6T hxt
        refine hK.out _ _ ⟨f.1, f.2.1, f.2.2.1, f.2.2.2.1, f.2.2.2.2.1, f.2.2.2.2.2.1⟩ (fun hHeld => ?_)
        clear hK K f
        try simp only [Act.put, List.setIfInBounds_toArray, List.set_cons_zero, List.set_cons_succ]
        refine wpAnyH_take (i := 16) (v := ?_) (by first | (simp only [List.getElem?_toArray, List.getElem?_cons_succ, List.getElem?_cons_zero]; rfl) | rfl) (by kernel_rfl) (by kernel_rfl) (by kernel_rfl) (fun _ _ _ h => h) (Or.inl ⟨by rfl, ?_⟩) (by assumption) ?_
        rotate_left 1
        · (intro w' hSw; (try dsimp only at hSw); go_simp; (try with_reducible rfl))
        try simp only [Act.put, List.setIfInBounds_toArray, List.set_cons_zero, List.set_cons_succ]
        refine wpAnyH_ready (rs := [17]) (by kernel_rfl) (by simp) ?_
        refine AllReadyH.cons (by first | (simp only [List.getElem?_toArray, List.getElem?_cons_succ, List.getElem?_cons_zero]; rfl) | rfl) (fun K hK => ?_) AllReadyH.nil
        go_simp
        show K _ (wn.alloc (.cells (ne6 (x, (A4, x.kids.length, c4), (A9, x.ns.length, c9))).toArray 47))
        have hyr := ne_oneT 47 wn (x, (A4, x.kids.length, c4), (A9, x.ns.length, c9))
        have hbu : Below wn.heap.size wn (wn.alloc (.cells (ne6 (x, (A4, x.kids.length, c4), (A9, x.ns.length, c9))).toArray 47)) := (Below.refl _ _).alloc (Nat.le_refl _) _
        generalize (wn.alloc (.cells (ne6 (x, (A4, x.kids.length, c4), (A9, x.ns.length, c9))).toArray 47)) = wu at *
        have hxu := (hbu.block X (lt_of_blk hxt)).trans hxt
        have f := cells6T hxu
        refine hK.out _ _ ⟨f.1, f.2.1, f.2.2.1, f.2.2.2.1, f.2.2.2.2.1, f.2.2.2.2.2.1⟩ (fun hHeld => ?_)
        clear hK K f
        try simp only [Act.put, List.setIfInBounds_toArray, List.set_cons_zero, List.set_cons_succ]
        refine wpAnyH_ready (rs := [18]) (by kernel_rfl) (by simp) ?_
        refine AllReadyH.cons (by first | (simp only [List.getElem?_toArray, List.getElem?_cons_succ, List.getElem?_cons_zero]; rfl) | rfl) (fun K hK => ?_) AllReadyH.nil
        have hbw1 : Below wr.heap.size wr wu := HB1.out.trans ((hbt.trans (hbu.mono hbt.size)).mono HB1.out.size)
        refine step_append_p (base := w.heap.size) (v := .slice A2 es.length c2) (xs := es) (news := [(x, (A4, x.kids.length, c4), (A9, x.ns.length, c9))]) rfl _ _ rfl rfl rfl (HF.out.own.below hbw1) hyr (fun h => by cases h) (by have := hei.out; omega) (by simp) (Nat.le_trans hws hbw1.size) ?_
        intro A7 t7 c7 w7 HT7 HO7 HB7
        have hXo : some X ≠ (Value.slice A2 es.length c2).ownBlock := fun e => by have := (World.ownsRow.lt HF.out.own X e.symm).2; have := HX.out; omega
        have hx7 := (HB7.out.1.block X (lt_of_blk hxu) hXo).trans hxu
        have f := cells6T hx7
        refine hK.out _ _ ⟨f.1, f.2.1, f.2.2.1, f.2.2.2.1, f.2.2.2.2.1, f.2.2.2.2.2.1⟩ (fun hHeld => ?_)
        clear hK K f
        try simp only [Act.put, List.setIfInBounds_toArray, List.set_cons_zero, List.set_cons_succ]
        refine wpAnyH_take (i := 19) (v := ?_) (by first | (simp only [List.getElem?_toArray, List.getElem?_cons_succ, List.getElem?_cons_zero]; rfl) | rfl) (by kernel_rfl) (by kernel_rfl) (by kernel_rfl) (fun _ _ _ h => h) (Or.inl ⟨by rfl, ?_⟩) (by assumption) ?_
        rotate_left 1
        · (intro w' hSw; (try dsimp only at hSw); go_simp; (try with_reducible rfl))
        try simp only [Act.put, List.setIfInBounds_toArray, List.set_cons_zero, List.set_cons_succ]
        refine wpAnyH_done (by kernel_rfl) ?_ _
        refine HKK.out _ _ ?_
        have hF7 := NodI.more (x := (x, (A4, x.kids.length, c4), (A9, x.ns.length, c9))) HF.out hbw1 (hent.keep fun k hk => by
          rcases hk with hk | ⟨a, b⟩
          · exact absurd hk (Nat.not_lt_zero k)
          · have h1 := HB1.out.size
            have h2 := hbu.size
            exact ⟨hbu.block k b, .inr ⟨by omega, by omega⟩⟩) (by rw [← HT7.out]; exact HO7.out) HB7.out.1 HB7.out.2
        rw [← HT7.out] at hF7
        have HF7 := Lib.hid hF7
        clear hF7 hx7 hxu hyr hbu hbw1 hXo hxt hbt hent
        go_wp2_with fail
        go_roundw
        case rel => exact ⟨i + 1, t7, A7, c7, by omega, rfl, by simp, Lib.hid (by rw [HT7.out, List.length_append, List.length_singleton, hei.out]), HF7, Lib.hid (by rw [HT7.out, List.map_append, ← HMn.out]; rfl)⟩
        case measure => simp [intOf]; omega
      · skip
        go_simp
        show K _ (W1.alloc (.cells #[] 9)).drew
        obtain ⟨wv, hwv⟩ : ∃ wv, (W1.alloc (.cells #[] 9)).drew = wv := ⟨_, rfl⟩
        have hbv : Below W1.heap.size W1 wv := by rw [← hwv]; exact ((Below.refl _ _).alloc (Nat.le_refl _) _).drew
        have hvs : wv.heap.size = W1.heap.size + 1 := by rw [← hwv]; exact World.size_alloc _ _
        have hov : OwnS wv W1.heap.size (.slice (some ⟨W1.heap.size, 0, none⟩) 0 0) [] := by rw [← hwv]; exact own_void W1 9 1 W1.heap.size (Nat.le_refl _)
        rw [hwv]
        clear hwv
        have hxv := (hbv.block X lX).trans hx1
        have f := cells6T hxv
        refine hK.out _ _ ⟨f.1, f.2.1, f.2.2.1, f.2.2.2.1, f.2.2.2.2.1, f.2.2.2.2.2.1⟩ (fun hHeld => ?_)
        clear hK K f
        try simp only [Act.put, List.setIfInBounds_toArray, List.set_cons_zero, List.set_cons_succ]
        refine wpAnyH_ready (rs := [9]) (by kernel_rfl) (by simp) ?_
        refine AllReadyH.cons (by first | (simp only [List.getElem?_toArray, List.getElem?_cons_succ, List.getElem?_cons_zero]; rfl) | rfl) (fun K hK => ?_) AllReadyH.nil
        go_simp
        refine (HRC.out wv hbv).mono ?_
        rintro e wk ⟨hbk, A4, c4, rfl, hk1, hk2, hk3, hk4, -⟩
        dsimp only
        have hba : Below W1.heap.size W1 wk := hbv.trans (hbk.mono hbv.size)
        have hxk := (hba.block X lX).trans hx1
        have hov2 : OwnS wk W1.heap.size (.slice (some ⟨W1.heap.size, 0, none⟩) 0 0) [] := hov.below hbk
        have f := cells6T hxk
        refine hK.out _ _ ⟨f.1, f.2.1, f.2.2.1, f.2.2.2.1, f.2.2.2.2.1, f.2.2.2.2.2.1⟩ (fun hHeld => ?_)
        clear hK K f
        try simp only [Act.put, List.setIfInBounds_toArray, List.set_cons_zero, List.set_cons_succ]
        refine wpAnyH_ready (rs := [13]) (by kernel_rfl) (by simp) ?_
        refine AllReadyH.cons (by first | (simp only [List.getElem?_toArray, List.getElem?_cons_succ, List.getElem?_cons_zero]; rfl) | rfl) (fun K hK => ?_) AllReadyH.nil
        refine step_append_s (base := W1.heap.size) (v := .slice (some ⟨W1.heap.size, 0, none⟩) 0 0) (xs := []) (news := x.ns) rfl _ _ rfl rfl rfl hov2 ((rd_of_sr (HNR.out.1.below ((HB1.out.trans (hba.mono HB1.out.size)).mono (by omega)) (Nat.le_refl _))).more (by have := hba.size; have := HB1.out.size; omega)) HAN.out (cs_one x.ns) (by simp) hnx hba.size ?_
        intro A9 t9 c9 wn HT9 HO9 HB9
        have ht9 : t9 = x.ns := by rw [HT9.out, List.nil_append]
        subst ht9
        have hkn : ∀ k, k < wk.heap.size → k ≠ W1.heap.size → wn.heap[k]? = wk.heap[k]? := fun k hk hne => HB9.out.2.1 k hk (fun e => hne (by injection e))
        have hbt := hba.trans HB9.out.1
        have hxt := (hbt.block X lX).trans hx1
        have hent : Ent wn (Nw 0 W1.heap.size wn.heap.size) (x, (A4, x.kids.length, c4), (A9, x.ns.length, c9)) := by
          obtain ⟨z1, z2, z3, z4⟩ := sr_of_row (P := Nw 0 W1.heap.size wn.heap.size) HO9.out (fun k h1 h2 => .inr ⟨h1, h2⟩)
          refine ⟨rfl, rfl, hk1, z2, hk2, z3, hk3.keep fun k hk => ?_, z1, hk4, z4⟩
          rcases hk with hk | ⟨a, b⟩
          · exact absurd hk (Nat.not_lt_zero k)
          · have h9 := HB9.out.1.size
            exact ⟨hkn k b (by omega), .inr ⟨by omega, by omega⟩⟩
        have f := cells6T hxt
        refine hK.out _ _ ⟨f.1, f.2.1, f.2.2.1, f.2.2.2.1, f.2.2.2.2.1, f.2.2.2.2.2.1⟩ (fun hHeld => ?_)
        clear hK K f
        try simp only [Act.put, List.setIfInBounds_toArray, List.set_cons_zero, List.set_cons_succ]
        refine wpAnyH_take (i := 16) (v := ?_) (by first | (simp only [List.getElem?_toArray, List.getElem?_cons_succ, List.getElem?_cons_zero]; rfl) | rfl) (by kernel_rfl) (by kernel_rfl) (by kernel_rfl) (fun _ _ _ h => h) (Or.inl ⟨by rfl, ?_⟩) (by assumption) ?_
        rotate_left 1
        · (intro w' hSw; (try dsimp only at hSw); go_simp; (try with_reducible rfl))
        try simp only [Act.put, List.setIfInBounds_toArray, List.set_cons_zero, List.set_cons_succ]
        refine wpAnyH_ready (rs := [17]) (by kernel_rfl) (by simp) ?_
        refine AllReadyH.cons (by first | (simp only [List.getElem?_toArray, List.getElem?_cons_succ, List.getElem?_cons_zero]; rfl) | rfl) (fun K hK => ?_) AllReadyH.nil
        go_simp
        show K _ (wn.alloc (.cells (ne6 (x, (A4, x.kids.length, c4), (A9, x.ns.length, c9))).toArray 47))
        have hyr := ne_oneT 47 wn (x, (A4, x.kids.length, c4), (A9, x.ns.length, c9))
        have hbu : Below wn.heap.size wn (wn.alloc (.cells (ne6 (x, (A4, x.kids.length, c4), (A9, x.ns.length, c9))).toArray 47)) := (Below.refl _ _).alloc (Nat.le_refl _) _
        generalize (wn.alloc (.cells (ne6 (x, (A4, x.kids.length, c4), (A9, x.ns.length, c9))).toArray 47)) = wu at *
        have hxu := (hbu.block X (lt_of_blk hxt)).trans hxt
        have f := cells6T hxu
        refine hK.out _ _ ⟨f.1, f.2.1, f.2.2.1, f.2.2.2.1, f.2.2.2.2.1, f.2.2.2.2.2.1⟩ (fun hHeld => ?_)
        clear hK K f
        try simp only [Act.put, List.setIfInBounds_toArray, List.set_cons_zero, List.set_cons_succ]
        refine wpAnyH_ready (rs := [18]) (by kernel_rfl) (by simp) ?_
        refine AllReadyH.cons (by first | (simp only [List.getElem?_toArray, List.getElem?_cons_succ, List.getElem?_cons_zero]; rfl) | rfl) (fun K hK => ?_) AllReadyH.nil
        have hbw1 : Below wr.heap.size wr wu := HB1.out.trans ((hbt.trans (hbu.mono hbt.size)).mono HB1.out.size)
        refine step_append_p (base := w.heap.size) (v := .slice A2 es.length c2) (xs := es) (news := [(x, (A4, x.kids.length, c4), (A9, x.ns.length, c9))]) rfl _ _ rfl rfl rfl (HF.out.own.below hbw1) hyr (fun h => by cases h) (by have := hei.out; omega) (by simp) (Nat.le_trans hws hbw1.size) ?_
        intro A7 t7 c7 w7 HT7 HO7 HB7
        have hXo : some X ≠ (Value.slice A2 es.length c2).ownBlock := fun e => by have := (World.ownsRow.lt HF.out.own X e.symm).2; have := HX.out; omega
        have hx7 := (HB7.out.1.block X (lt_of_blk hxu) hXo).trans hxu
        have f := cells6T hx7
        refine hK.out _ _ ⟨f.1, f.2.1, f.2.2.1, f.2.2.2.1, f.2.2.2.2.1, f.2.2.2.2.2.1⟩ (fun hHeld => ?_)
        clear hK K f
        try simp only [Act.put, List.setIfInBounds_toArray, List.set_cons_zero, List.set_cons_succ]
        refine wpAnyH_take (i := 19) (v := ?_) (by first | (simp only [List.getElem?_toArray, List.getElem?_cons_succ, List.getElem?_cons_zero]; rfl) | rfl) (by kernel_rfl) (by kernel_rfl) (by kernel_rfl) (fun _ _ _ h => h) (Or.inl ⟨by rfl, ?_⟩) (by assumption) ?_
        rotate_left 1
        · (intro w' hSw; (try dsimp only at hSw); go_simp; (try with_reducible rfl))
        try simp only [Act.put, List.setIfInBounds_toArray, List.set_cons_zero, List.set_cons_succ]
        refine wpAnyH_done (by kernel_rfl) ?_ _
        refine HKK.out _ _ ?_
        have hF7 := NodI.more (x := (x, (A4, x.kids.length, c4), (A9, x.ns.length, c9))) HF.out hbw1 (hent.keep fun k hk => by
          rcases hk with hk | ⟨a, b⟩
          · exact absurd hk (Nat.not_lt_zero k)
          · have h1 := HB1.out.size
            have h2 := hbu.size
            exact ⟨hbu.block k b, .inr ⟨by omega, by omega⟩⟩) (by rw [← HT7.out]; exact HO7.out) HB7.out.1 HB7.out.2
        rw [← HT7.out] at hF7
        have HF7 := Lib.hid hF7
        clear hF7 hx7 hxu hyr hbu hbw1 hXo hxt hbt hent
        go_wp2_with fail
        go_roundw
        case rel => exact ⟨i + 1, t7, A7, c7, by omega, rfl, by simp, Lib.hid (by rw [HT7.out, List.length_append, List.length_singleton, hei.out]), HF7, Lib.hid (by rw [HT7.out, List.map_append, ← HMn.out]; rfl)⟩
        case measure => simp [intOf]; omega
end Go.Proofs.YtfcceojfcmgmlaaGreatDoor.Fl
