/-
  The law's Told: a unit of the program's as one of the document's.
-/
import Derived.Test.YtmdkneollidkfaaGreatDoorCkU
namespace Go.Proofs.YtmdkneollidkfaaGreatDoor.Fl
open Go.RowKit Go.Shelf

/-- a unit of the program's, as it may be read -/
structure UnAt (w : World) (B : Nat) (v0 v1 : Value) (fs : List (Cls × Value)) (ss : List Src) : Prop where
  cl : ∃ A c, v0 = .slice A fs.length c ∧ fs.length ≤ c ∧ Rd w B A (ck_ fs)
  so : ∃ A c, v1 = .slice A ss.length c ∧ ss.length ≤ c ∧ Rd w B A (sk_ ss)
  fi : ∀ x ∈ fs, ∃ A c, x.2 = .slice A x.1.2.2.1.length c ∧ x.1.2.2.1.length ≤ c ∧ (A = none → x.1.2.2.1.length = 0) ∧ Rd w B A (cs_ x.1.2.2.1)
theorem UnAt.below {w w' : World} {B : Nat} {v0 v1 : Value} {fs : List (Cls × Value)} {ss : List Src} (h : UnAt w B v0 v1 fs ss) (hb : Below B w w') : UnAt w' B v0 v1 fs ss := by
  obtain ⟨⟨A, c, e1, e2, e3⟩, ⟨A', c', g1, g2, g3⟩, hf⟩ := h
  exact ⟨⟨A, c, e1, e2, e3.below hb (Nat.le_refl _)⟩, ⟨A', c', g1, g2, g3.below hb (Nat.le_refl _)⟩, fun x hx => (hf x hx).imp fun A ⟨c, h1, h2, h3, h4⟩ => ⟨c, h1, h2, h3, h4.below hb (Nat.le_refl _)⟩⟩
theorem own_rdZ {w : World} {base e size n c : Nat} {A : Option Addr} {xs : List Value} (h : w.ownsRow base e size (.slice A n c) n xs) : Rd w w.heap.size A xs ∧ n ≤ c ∧ (A = none → n = 0) := by
  rcases h.2 with ⟨e1, e2⟩ | ⟨g, cap, cur, e1, hb, hg, hc, _, _, ht⟩
  · injection e1 with e1 e3 e4
    subst e1
    have hx : xs = [] := by
      have := h.1
      rw [e2, Nat.zero_mul] at this
      exact List.eq_nil_of_length_eq_zero this
    rw [hx]
    exact ⟨.inl rfl, by omega, fun _ => e2⟩
  · injection e1 with e1 e3 e4
    subst e1
    refine ⟨.inr ⟨g, 0, rfl, lt_of_blk hg, fun j v hj => ?_⟩, by omega, fun h => by cases h⟩
    rw [Nat.zero_add]
    have hj' : cur.toList[j]? = some v := by
      rw [← ht, List.getElem?_take] at hj
      split at hj
      · exact hj
      · cases hj
    have hj2 : cur[j]? = some v := by rw [← Array.getElem?_toList]; exact hj'
    unfold World.cell?
    simp [hg, hj2]
/-- what stands while it is turned -/
structure TdW (w0 w : World) (U : Nat) (fs : List (Cls × Value)) (ss : List Src) (A1 : Option Addr) (c1 : Nat) (A2 : Option Addr) (c2 : Nat) : Prop where
  u : w.heap[U]? = some (.cells #[.slice A1 fs.length c1, .slice A2 ss.length c2] 45 (0, 0))
  bel : Below w0.heap.size w0 w
  hU : w0.heap.size ≤ U
  ownC : OwnY w w0.heap.size (.slice A1 fs.length c1) fs
  ownF : ∀ x ∈ fs, ∃ A c, x.2 = .slice A x.1.2.2.1.length c ∧ OwnS w w0.heap.size x.2 x.1.2.2.1
  ownX : OwnX w w0.heap.size (.slice A2 ss.length c2) ss
section
variable {w0 w w1 w2 : World} {U : Nat} {fs : List (Cls × Value)} {ss : List Src} {A1 A2 A3 : Option Addr} {c1 c2 c3 : Nat}
theorem TdW.below (h : TdW w0 w U fs ss A1 c1 A2 c2) (hb : Below w.heap.size w w1) : TdW w0 w1 U fs ss A1 c1 A2 c2 :=
  ⟨(hb.block U (lt_of_blk h.u)).trans h.u, h.bel.trans (hb.mono h.bel.size), h.hU, h.ownC.below hb, fun x hx => (h.ownF x hx).imp fun A ⟨c, e, ho⟩ => ⟨c, e, ho.below hb⟩, h.ownX.below hb⟩
theorem TdW.addX {ts : List Src} (h0 : TdW w0 w U fs ss A1 c1 A2 c2) (hb : Below w.heap.size w w1)
    (ho : OwnX w2 w0.heap.size (.slice A3 ts.length c3) ts) (hk : Below w0.heap.size w1 w2 ∧ (∀ k, k < w1.heap.size → some k ≠ (Value.slice A2 ss.length c2).ownBlock → w2.heap[k]? = w1.heap[k]?) ∧ ((Value.slice A3 ts.length c3).ownBlock = (Value.slice A2 ss.length c2).ownBlock ∨ (Value.slice A3 ts.length c3).ownBlock = some w1.heap.size)) :
    TdW w0 (w2.setCell ⟨U, 1, none⟩ (.slice A3 ts.length c3)) U fs ts A1 c1 A3 c3 ∧ ∀ k cs T fr, w.heap[k]? = some (.cells cs T fr) → k ≠ U → T ≠ 76 → (w2.setCell ⟨U, 1, none⟩ (.slice A3 ts.length c3)).heap[k]? = some (.cells cs T fr) := by
  have h := h0.below hb
  obtain ⟨hk1, hk2, hk3⟩ := hk
  have eU := (hk2 U (lt_of_blk h.u) (own_ne h.ownX h.u (by decide)).symm).trans h.u
  have oC : OwnY w2 w0.heap.size (.slice A1 fs.length c1) fs := h.ownC.keep fun j hj => hk2 j (World.ownsRow.lt h.ownC _ hj).2 (own_far h.ownC h.ownX (by decide) hj)
  refine ⟨⟨heap_setCell_same _ U 1 _ _ _ eU, (h.bel.trans hk1).setCell (p := ⟨U, 1, none⟩) h.hU _, h.hU, oC.cell (own_ne oC eU (by decide)) _, ?_, ho.cell (own_ne ho eU (by decide)) _⟩, ?_⟩
  · intro x hx
    obtain ⟨A, c, e, hf⟩ := h.ownF x hx
    have hf2 : OwnS w2 w0.heap.size x.2 x.1.2.2.1 := hf.keep fun j hj => hk2 j (World.ownsRow.lt hf _ hj).2 (own_far hf h.ownX (by decide) hj)
    exact ⟨A, c, e, hf2.cell (own_ne hf2 eU (by decide)) _⟩
  · intro k cs T fr hkk hkU hT
    have h1 := (hb.block k (lt_of_blk hkk)).trans hkk
    exact (Below.heap_setCell w2 ⟨U, 1, none⟩ _ k hkU).trans ((hk2 k (lt_of_blk h1) (own_ne h.ownX h1 hT).symm).trans h1)
theorem TdW.addY {ts : List (Cls × Value)} {y : Cls × Value} (h0 : TdW w0 w U fs ss A1 c1 A2 c2) (hb : Below w.heap.size w w1) (hy : ∃ A c, y.2 = .slice A y.1.2.2.1.length c ∧ OwnS w1 w0.heap.size y.2 y.1.2.2.1) (hts : ts = fs ++ [y])
    (ho : OwnY w2 w0.heap.size (.slice A3 ts.length c3) ts) (hk : Below w0.heap.size w1 w2 ∧ (∀ k, k < w1.heap.size → some k ≠ (Value.slice A1 fs.length c1).ownBlock → w2.heap[k]? = w1.heap[k]?) ∧ ((Value.slice A3 ts.length c3).ownBlock = (Value.slice A1 fs.length c1).ownBlock ∨ (Value.slice A3 ts.length c3).ownBlock = some w1.heap.size)) :
    TdW w0 (w2.setCell ⟨U, 0, none⟩ (.slice A3 ts.length c3)) U ts ss A3 c3 A2 c2 ∧ ∀ k cs T fr, w.heap[k]? = some (.cells cs T fr) → k ≠ U → T ≠ 75 → (w2.setCell ⟨U, 0, none⟩ (.slice A3 ts.length c3)).heap[k]? = some (.cells cs T fr) := by
  have h := h0.below hb
  obtain ⟨hk1, hk2, _⟩ := hk
  have eU := (hk2 U (lt_of_blk h.u) (own_ne h.ownC h.u (by decide)).symm).trans h.u
  have oX : OwnX w2 w0.heap.size (.slice A2 ss.length c2) ss := h.ownX.keep fun j hj => hk2 j (World.ownsRow.lt h.ownX _ hj).2 (own_far h.ownX h.ownC (by decide) hj)
  refine ⟨⟨heap_setCell_same _ U 0 _ _ _ eU, (h.bel.trans hk1).setCell (p := ⟨U, 0, none⟩) h.hU _, h.hU, ho.cell (own_ne ho eU (by decide)) _, ?_, oX.cell (own_ne oX eU (by decide)) _⟩, ?_⟩
  · intro x hx
    have hx' : ∃ A c, x.2 = .slice A x.1.2.2.1.length c ∧ OwnS w1 w0.heap.size x.2 x.1.2.2.1 := by
      rw [hts, List.mem_append, List.mem_singleton] at hx
      rcases hx with hx | rfl
      · exact h.ownF x hx
      · exact hy
    obtain ⟨A, c, e, hf⟩ := hx'
    have hf2 : OwnS w2 w0.heap.size x.2 x.1.2.2.1 := hf.keep fun j hj => hk2 j (World.ownsRow.lt hf _ hj).2 (own_far hf h.ownC (by decide) hj)
    exact ⟨A, c, e, hf2.cell (own_ne hf2 eU (by decide)) _⟩
  · intro k cs T fr hkk hkU hT
    have h1 := (hb.block k (lt_of_blk hkk)).trans hkk
    exact (Below.heap_setCell w2 ⟨U, 0, none⟩ _ k hkU).trans ((hk2 k (lt_of_blk h1) (own_ne h.ownC h1 hT).symm).trans h1)
end
theorem step_append_s {w : World} {base c : Nat} {A : Option Addr} {xs news : List (List UInt8)} {v : Value} {ops : Array Oper} {o : Oper} {a : Act} {K : Act → World → Prop} {Q : Exit → Act → World → Prop} {E : Prop} (hg : o.guard = none) (s x : Operand) (ho : o.op = .call { callee := .builtin .append, args := #[s, x], argTypes := #[22, 22] })
    (hs : a.eval s = v) (hx : a.eval x = .slice A news.length c) (hown : OwnS w base v xs) (hr : Rd w w.heap.size A (cs_ news)) (hA : A = none → news.length = 0) (hone : ∀ v ∈ cs_ news, v.oneCell' = true) (hl : xs.length ≤ 100000000) (hl2 : news.length ≤ 100000000) (hb : base ≤ w.heap.size)
    (h : ∀ A' ts c' w', Hid (ts = xs ++ news) → Hid (OwnS w' base (.slice A' ts.length c') ts) → Hid (Below base w w' ∧ (∀ k, k < w.heap.size → some k ≠ v.ownBlock → w'.heap[k]? = w.heap[k]?) ∧ ((Value.slice A' ts.length c').ownBlock = v.ownBlock ∨ (Value.slice A' ts.length c').ownBlock = some w.heap.size)) → K (a.put o.dst (.slice A' ts.length c')) w') :
    if Region.wanted o (yielded ops a.tmps) = true then Oper.wp Tryz.prog o a w K Q else E := by
  obtain ⟨i0, hi, hz0, hz1, hz2⟩ := info_parts strInfo
  refine step_append_rd (base := base) (size := 1) (bytes := 16) (n := xs.length) (m := news.length) (c := c) (v := v) (xs := cs_ xs) (news := cs_ news) hg s x ho Tryz.underlying22 hi hz0 hz1 hz2 rfl (by decide) hs hx hown hr (by rw [cs_len, Nat.mul_one]) hA hone (by unfold maxLen; omega) (by omega) hb ?_
  intro v' w' happ
  obtain ⟨A', c', rfl, _, _⟩ := happ.slice
  have e : xs.length + news.length = (xs ++ news).length := by simp
  have ho := happ.own
  have hat := happ.at_
  rw [e, show cs_ xs ++ cs_ news = cs_ (xs ++ news) from (cs_app _ _).symm] at ho
  rw [e] at hat ⊢
  exact h A' (xs ++ news) c' w' (Lib.hid rfl) (Lib.hid ho) (Lib.hid ⟨(Below.refl _ _).grown happ.grown hb (fun j hj => (World.ownsRow.lt hown j hj).1), happ.grown.block, hat⟩)
theorem step_append_y {w : World} {base c : Nat} {A : Option Addr} {xs news : List (Cls × Value)} {v : Value} {ops : Array Oper} {o : Oper} {a : Act} {K : Act → World → Prop} {Q : Exit → Act → World → Prop} {E : Prop} (hg : o.guard = none) (s x : Operand) (ho : o.op = .call { callee := .builtin .append, args := #[s, x], argTypes := #[42, 42] })
    (hs : a.eval s = v) (hx : a.eval x = .slice A news.length c) (hown : OwnY w base v xs) (hr : Rd w w.heap.size A (cc_ news)) (hA : A = none → news.length = 0) (hone : ∀ v ∈ cc_ news, v.oneCell' = true) (hl : xs.length ≤ 100000000) (hl2 : news.length ≤ 100000000) (hb : base ≤ w.heap.size)
    (h : ∀ A' ts c' w', Hid (ts = xs ++ news) → Hid (OwnY w' base (.slice A' ts.length c') ts) → Hid (Below base w w' ∧ (∀ k, k < w.heap.size → some k ≠ v.ownBlock → w'.heap[k]? = w.heap[k]?) ∧ ((Value.slice A' ts.length c').ownBlock = v.ownBlock ∨ (Value.slice A' ts.length c').ownBlock = some w.heap.size)) → K (a.put o.dst (.slice A' ts.length c')) w') :
    if Region.wanted o (yielded ops a.tmps) = true then Oper.wp Tryz.prog o a w K Q else E := by
  obtain ⟨i0, hi, hz0, hz1, hz2⟩ := info_parts clsinfo
  refine step_append_rd (base := base) (size := 4) (bytes := 64) (n := xs.length) (m := news.length) (c := c) (v := v) (xs := cc_ xs) (news := cc_ news) hg s x ho Tryz.underlying42 hi hz0 hz1 hz2 rfl (by decide) hs hx hown hr (cc__len _) hA hone (by unfold maxLen; omega) (by omega) hb ?_
  intro v' w' happ
  obtain ⟨A', c', rfl, _, _⟩ := happ.slice
  have e : xs.length + news.length = (xs ++ news).length := by simp
  have ho := happ.own
  have hat := happ.at_
  rw [e, show cc_ xs ++ cc_ news = cc_ (xs ++ news) from (cc__app _ _).symm] at ho
  rw [e] at hat ⊢
  exact h A' (xs ++ news) c' w' (Lib.hid rfl) (Lib.hid ho) (Lib.hid ⟨(Below.refl _ _).grown happ.grown hb (fun j hj => (World.ownsRow.lt hown j hj).1), happ.grown.block, hat⟩)
theorem rdC_at {w : World} {B : Nat} {A : Option Addr} {xs : List (Cls × Value)} (h : Rd w B A (ck_ xs)) {k : Nat} (hk : k < xs.length) :
    ∃ b off, A = some ⟨b, off, none⟩ ∧ b < B ∧ w.cell? ⟨b, off + k * 4, none⟩ = some (.string (mkB xs[k].1.1)) ∧ w.cell? ⟨b, off + k * 4 + 1, none⟩ = some (.string (mkB xs[k].1.2.1)) ∧ w.cell? ⟨b, off + k * 4 + 2, none⟩ = some xs[k].2 ∧ w.cell? ⟨b, off + k * 4 + 3, none⟩ = some (.int .i64 xs[k].1.2.2.2) := by
  have hget : ∀ (l : List (Cls × Value)) (k j : Nat) (hk : k < l.length), j < 4 → (ck_ l)[k * 4 + j]? = [Value.string (mkB l[k].1.1), .string (mkB l[k].1.2.1), l[k].2, .int .i64 l[k].1.2.2.2][j]? := by
    intro l
    induction l with
    | nil => intro k j hk _; simp at hk
    | cons x l ih =>
      intro k j hk hj
      show (([Value.string (mkB x.1.1), .string (mkB x.1.2.1), x.2, .int .i64 x.1.2.2.2] : List Value) ++ ck_ l)[k * 4 + j]? = _
      cases k with
      | zero => rw [Nat.zero_mul, Nat.zero_add, List.getElem?_append_left (by simpa using hj)]; rfl
      | succ k =>
        rw [List.getElem?_append_right (by simp; omega)]
        have := ih k j (by simpa using hk) hj
        simp only [List.length_cons, List.length_nil, List.getElem_cons_succ]
        rw [show (k + 1) * 4 + j - (0 + 1 + 1 + 1 + 1) = k * 4 + j by omega]
        exact this
  rcases h with h | ⟨b, off, rfl, hb, hc⟩
  · have := congrArg List.length h
    rw [ck__len] at this
    simp at this
    omega
  · refine ⟨b, off, rfl, hb, ?_, ?_, ?_, ?_⟩
    · have := hc (k * 4 + 0) _ ((hget xs k 0 hk (by decide)).trans rfl); simpa [Nat.add_assoc] using this
    · have := hc (k * 4 + 1) _ ((hget xs k 1 hk (by decide)).trans rfl); simpa [Nat.add_assoc] using this
    · have := hc (k * 4 + 2) _ ((hget xs k 2 hk (by decide)).trans rfl); simpa [Nat.add_assoc] using this
    · have := hc (k * 4 + 3) _ ((hget xs k 3 hk (by decide)).trans rfl); simpa [Nat.add_assoc] using this
theorem rdX_at {w : World} {B : Nat} {A : Option Addr} {xs : List Src} (h : Rd w B A (sk_ xs)) {k : Nat} (hk : k < xs.length) :
    ∃ b off, A = some ⟨b, off, none⟩ ∧ b < B ∧ w.cell? ⟨b, off + k * 4, none⟩ = some (.string (mkB xs[k].1)) ∧ w.cell? ⟨b, off + k * 4 + 1, none⟩ = some (.bool xs[k].2.1) ∧ w.cell? ⟨b, off + k * 4 + 2, none⟩ = some (.string (mkB xs[k].2.2.1)) ∧ w.cell? ⟨b, off + k * 4 + 3, none⟩ = some (.int .i64 xs[k].2.2.2) := by
  have hget : ∀ (l : List Src) (k j : Nat) (hk : k < l.length), j < 4 → (sk_ l)[k * 4 + j]? = [Value.string (mkB l[k].1), .bool l[k].2.1, .string (mkB l[k].2.2.1), .int .i64 l[k].2.2.2][j]? := by
    intro l
    induction l with
    | nil => intro k j hk _; simp at hk
    | cons x l ih =>
      intro k j hk hj
      show (([Value.string (mkB x.1), .bool x.2.1, .string (mkB x.2.2.1), .int .i64 x.2.2.2] : List Value) ++ sk_ l)[k * 4 + j]? = _
      cases k with
      | zero => rw [Nat.zero_mul, Nat.zero_add, List.getElem?_append_left (by simpa using hj)]; rfl
      | succ k =>
        rw [List.getElem?_append_right (by simp; omega)]
        have := ih k j (by simpa using hk) hj
        simp only [List.length_cons, List.length_nil, List.getElem_cons_succ]
        rw [show (k + 1) * 4 + j - (0 + 1 + 1 + 1 + 1) = k * 4 + j by omega]
        exact this
  rcases h with h | ⟨b, off, rfl, hb, hc⟩
  · have := congrArg List.length h
    rw [sk__len] at this
    simp at this
    omega
  · refine ⟨b, off, rfl, hb, ?_, ?_, ?_, ?_⟩
    · have := hc (k * 4 + 0) _ ((hget xs k 0 hk (by decide)).trans rfl); simpa [Nat.add_assoc] using this
    · have := hc (k * 4 + 1) _ ((hget xs k 1 hk (by decide)).trans rfl); simpa [Nat.add_assoc] using this
    · have := hc (k * 4 + 2) _ ((hget xs k 2 hk (by decide)).trans rfl); simpa [Nat.add_assoc] using this
    · have := hc (k * 4 + 3) _ ((hget xs k 3 hk (by decide)).trans rfl); simpa [Nat.add_assoc] using this
end Go.Proofs.YtmdkneollidkfaaGreatDoor.Fl

/-
  The law's Told: the walk.
-/
namespace Go.Proofs.YtmdkneollidkfaaGreatDoor.Fl
open Go.RowKit Go.Shelf

theorem TdW.keepS {w0 w w1 : World} {U : Nat} {fs : List (Cls × Value)} {ss : List Src} {A1 A2 : Option Addr} {c1 c2 : Nat} {v v' : Value} {xs : List (List UInt8)} (h : TdW w0 w U fs ss A1 c1 A2 c2) (hv : OwnS w w0.heap.size v xs) (hvn : ∀ x ∈ fs, x.2.ownBlock ≠ v.ownBlock ∨ v.ownBlock = none)
    (hk : Below w0.heap.size w w1 ∧ (∀ k, k < w.heap.size → some k ≠ v.ownBlock → w1.heap[k]? = w.heap[k]?) ∧ (v'.ownBlock = v.ownBlock ∨ v'.ownBlock = some w.heap.size)) : TdW w0 w1 U fs ss A1 c1 A2 c2 := by
  obtain ⟨hk1, hk2, _⟩ := hk
  refine ⟨(hk2 U (lt_of_blk h.u) (own_ne hv h.u (by decide)).symm).trans h.u, h.bel.trans hk1, h.hU, h.ownC.keep fun j hj => hk2 j (World.ownsRow.lt h.ownC _ hj).2 (own_far h.ownC hv (by decide) hj), ?_, h.ownX.keep fun j hj => hk2 j (World.ownsRow.lt h.ownX _ hj).2 (own_far h.ownX hv (by decide) hj)⟩
  intro x hx
  obtain ⟨A, c, e, hf⟩ := h.ownF x hx
  refine ⟨A, c, e, hf.keep fun j hj => hk2 j (World.ownsRow.lt hf _ hj).2 (fun e2 => ?_)⟩
  rcases hvn x hx with h1 | h1
  · rw [hj] at h1; exact h1 e2
  · rw [h1] at e2; cases e2
def ToldPost (w0 : World) (fs : List (Cls × Value)) (ss : List Src) (e : Ending) (w' : World) : Prop :=
  Below w0.heap.size w0 w' ∧ ∃ fs2 A5 c5 A6 c6, e = .returned (.agg #[.slice A5 fs2.length c5, .slice A6 ss.length c6]) ∧ fs2.map (fun x => x.1) = fs.map (fun x => x.1) ∧
    OwnY w' w0.heap.size (.slice A5 fs2.length c5) fs2 ∧ (∀ x ∈ fs2, ∃ A c, x.2 = .slice A x.1.2.2.1.length c ∧ OwnS w' w0.heap.size x.2 x.1.2.2.1) ∧ OwnX w' w0.heap.size (.slice A6 ss.length c6) ss
theorem told_result {W : World} {C : Nat} {v0 v1 : Value} {a : Array Value} (h : W.heap[C]? = some (.cells #[v0, v1] 45 (0, 0))) (h2 : a[2]?.getD undef = .pointer (some ⟨C, 0, none⟩)) :
    (results Tryz.f20 a).run Tryz.prog W = .ok (.agg #[v0, v1]) W := by
  obtain ⟨c0, c1, _⟩ := cells2V h
  simp [results, Tryz.results20, go_sem, h2, c0, c1]
set_option maxRecDepth 100000 in
set_option maxHeartbeats 8000000 in
theorem told_any (w0 : World) (v0 v1 : Value) (fs : List (Cls × Value)) (ss : List Src) (h : UnAt w0 w0.heap.size v0 v1 fs ss) (hl : fs.length + ss.length ≤ 16777216) (hf : ∀ x ∈ fs, x.1.2.2.1.length ≤ 16777216) :
    Calls Tryz.prog 20 #[.agg #[v0, v1]] w0 (ToldPost w0 fs ss) := by
  obtain ⟨⟨Ac, cc, rfl, hcc, hrc⟩, ⟨As, cs, rfl, hcs, hrs⟩, hfi⟩ := h
  obtain ⟨W, hW⟩ : ∃ W, ((w0.alloc (.cells #[.slice Ac fs.length cc, .slice As ss.length cs] 53)).alloc (.cells #[.slice none 0 0, .slice none 0 0] 45)).alloc (.cells #[.slice none 0 0, .slice none 0 0] 45) = W := ⟨_, rfl⟩
  obtain ⟨q1, q2, q3, hb⟩ := boxes3 w0 _ _ _ W hW
  go_enter Tryz.func20, Tryz.ntmps20
  have f1 := cells2V q1
  go_wp2_with fail
  clear hW f1
  obtain ⟨T, hT⟩ : ∃ T, w0.heap.size = T := ⟨_, rfl⟩
  have H0 : TdW w0 W (T + 1 + 1) [] [] none 0 none 0 := ⟨by rw [← hT]; exact q3, hb, by omega, World.ownsRow_nil _ _ _ _, fun x hx => (by cases hx), World.ownsRow_nil _ _ _ _⟩
  rw [hT] at q1 q2
  simp only [hT]
  have HH := Lib.hid (And.intro H0 (And.intro q1 q2))
  have HRC := Lib.hid hrc
  have HRS := Lib.hid hrs
  have HFI := Lib.hid hfi
  have HFL := Lib.hid hf
  have HTT := Lib.hid hT
  clear H0 q1 q2 q3 hb hrc hrs hfi hf hT
  go_loopw [11] (fun v wr => ∃ (i : Nat) (fs2 : List (Cls × Value)) (A5 : Option Addr) (c5 : Nat), i ≤ fs.length ∧ v = .int .i64 (i : Int) ∧ Hid (TdW w0 wr (T + 1 + 1) fs2 [] A5 c5 none 0) ∧
    Hid (wr.heap[T]? = some (.cells #[.slice Ac fs.length cc, .slice As ss.length cs] 53 (0, 0)) ∧ wr.heap[T + 1]? = some (.cells #[.slice none 0 0, .slice none 0 0] 45 (0, 0))) ∧ Hid (fs2.map (fun x => x.1) = (fs.take i).map (fun x => x.1) ∧ fs2.length = i)) (fun v _ => fs.length - (intOf v).toNat)
  case atStart => exact ⟨0, [], none, 0, Nat.zero_le _, rfl, Lib.hid HH.out.1, Lib.hid HH.out.2, Lib.hid ⟨rfl, rfl⟩⟩
  case round =>
    clear HH
    obtain ⟨i, fs2, A5, c5, hi, rfl, HT, HX, HM⟩ := hrel
    by_cases hlt : i < fs.length
    case neg =>
      have hq : ¬ ((i : Int) < (fs.length : Int)) := by omega
      have e : i = fs.length := by omega
      have HM2 := Lib.hid (show fs2.map (fun x => x.1) = fs.map (fun x => x.1) by have := HM.out.1; rwa [e, List.take_length] at this)
      have f1 := cells2V HX.out.1
      go_wp2_with fail
      go_loopw [35] (fun v wr => ∃ (j : Nat) (ss2 : List Src) (A6 : Option Addr) (c6 : Nat), j ≤ ss.length ∧ v = .int .i64 (j : Int) ∧ Hid (TdW w0 wr (T + 1 + 1) fs2 ss2 A5 c5 A6 c6) ∧
        Hid (wr.heap[T]? = some (.cells #[.slice Ac fs.length cc, .slice As ss.length cs] 53 (0, 0)) ∧ wr.heap[T + 1]? = some (.cells #[.slice none 0 0, .slice none 0 0] 45 (0, 0))) ∧ Hid (ss2 = ss.take j ∧ ss2.length = j)) (fun v _ => ss.length - (intOf v).toNat)
      case atStart => exact ⟨0, [], none, 0, Nat.zero_le _, rfl, HT, HX, Lib.hid ⟨rfl, rfl⟩⟩
      case round =>
        clear HT HX f1
        obtain ⟨j, ss2, A6, c6, hj, rfl, HT, HX, HM3⟩ := hrel
        by_cases hlt2 : j < ss.length
        case neg =>
          have hq2 : ¬ ((j : Int) < (ss.length : Int)) := by omega
          have e2 : ss2 = ss := by have := HM3.out.1; rwa [show j = ss.length by omega, List.take_length] at this
          subst e2
          have f1 := cells2V HT.out.u
          have f2 := cells2V HX.out.2
          have l2 := lt_of_blk HX.out.2
          have l3 := lt_of_blk HT.out.u
          go_wp2_with fail
          have g1 := set2V HX.out.2 (.slice A5 fs2.length c5) (.slice A6 ss2.length c6)
          refine bodyPost_ret (v := .agg #[.slice A5 fs2.length c5, .slice A6 ss2.length c6]) (told_result g1 rfl) rfl ?_
          have nC := own_ne HT.out.ownC HX.out.2 (by decide)
          have nX := own_ne HT.out.ownX HX.out.2 (by decide)
          refine ⟨(HT.out.bel.setCell (p := ⟨T + 1, 0, none⟩) (show w0.heap.size ≤ T + 1 by rw [HTT.out]; omega) _).setCell (p := ⟨T + 1, 1, none⟩) (show w0.heap.size ≤ T + 1 by rw [HTT.out]; omega) _, fs2, A5, c5, A6, c6, rfl, HM2.out, (HT.out.ownC.cell nC _).cell nC _, ?_, (HT.out.ownX.cell nX _).cell nX _⟩
          intro x hx
          obtain ⟨A, c, e, hf⟩ := HT.out.ownF x hx
          have nF := own_ne hf HX.out.2 (by decide)
          exact ⟨A, c, e, (hf.cell nF _).cell nF _⟩
        have hq2 : (j : Int) < (ss.length : Int) := by omega
        have hmore : ss.take (j + 1) = ss.take j ++ [ss[j]] := List.take_succ_eq_append_getElem hlt2
        obtain ⟨b, o, rfl, hbb, d0, d1, d2, d3⟩ := rdX_at (HRS.out.below HT.out.bel (Nat.le_refl _)) hlt2
        obtain ⟨⟨cn, mt, tx, at_⟩, hy⟩ : ∃ y, ss[j] = y := ⟨_, rfl⟩
        rw [hy] at d0 d1 d2 d3 hmore
        dsimp only at d0 d1 d2 d3
        have hbw : b < wr.heap.size := Nat.lt_of_lt_of_le hbb HT.out.bel.size
        clear hy
        go_upto_region 10 with fail
        obtain ⟨W1, hW1⟩ : ∃ W1, wr.alloc (.cells #[.string (mkB cn), .bool mt, .string (mkB tx), .int .i64 at_] 73) = W1 := ⟨_, rfl⟩
        obtain ⟨F, hF⟩ : ∃ F, wr.heap.size = F := ⟨_, rfl⟩
        have hs : W1.heap[F]? = some (.cells #[.string (mkB cn), .bool mt, .string (mkB tx), .int .i64 at_] 73 (0, 0)) := by rw [← hW1, ← hF]; exact heap_alloc_new wr _
        have hb1 : Below wr.heap.size wr W1 := by rw [← hW1]; exact (Below.refl _ _).alloc (Nat.le_refl _) _
        rw [hW1]
        simp only [hF]
        have hT1 := HT.out.below hb1
        have hbx1 := (hb1.block _ (lt_of_blk HX.out.1)).trans HX.out.1
        have hbx2 := (hb1.block _ (lt_of_blk HX.out.2)).trans HX.out.2
        have fu := cells2V hT1.u
        have fs1 := cells4L hs
        have hb2 : Below W1.heap.size W1 (W1.alloc (.cells #[.string (mkB cn), .bool mt, .string (mkB tx), .int .i64 at_] 76)) := (Below.refl _ _).alloc (Nat.le_refl _) _
        have hT2 := hT1.below hb2
        have hr2 := sc__one (w := W1.alloc (.cells #[.string (mkB cn), .bool mt, .string (mkB tx), .int .i64 at_] 76)) (C := W1.heap.size) (cn, mt, tx, at_) (heap_alloc_new W1 _)
        have lU := lt_of_blk hT1.u
        have lF := lt_of_blk hs
        have lT2 := lt_of_blk hT2.u
        have hlen3 : ss2.length ≤ 100000000 := by have := HM3.out.2; omega
        clear hW1 hb1 d0 d1 d2 d3
        go_wp2_with (first
          | (at_builtin; refine wpList_append_x (base := w0.heap.size) (v := .slice A6 ss2.length c6) (xs := ss2) (news := [(cn, mt, tx, at_)]) rfl _ _ rfl rfl rfl hT2.ownX hr2 (fun h => by cases h) (by simp [sc_, Value.oneCell']) (by omega) (by simp) hT2.bel.size ?_
             intro A7 t7 c7 w7 HT7 HO7 HB7
             obtain ⟨hadd, hkeep⟩ := hT1.addX hb2 HO7.out HB7.out
             have HU7 := (HB7.out.2.1 (T + 1 + 1) lT2 (own_ne hT2.ownX hT2.u (by decide)).symm).trans hT2.u
             have l7 := lt_of_blk HU7
             have fu7 := cells2V HU7))
        go_roundw
        case rel => exact ⟨j + 1, t7, A7, c7, by omega, rfl, Lib.hid hadd, Lib.hid ⟨hkeep _ _ _ _ hbx1 (by omega) (by decide), hkeep _ _ _ _ hbx2 (by omega) (by decide)⟩, Lib.hid ⟨by rw [HT7.out, HM3.out.1, hmore], by rw [HT7.out, List.length_append, HM3.out.2]; rfl⟩⟩
        case measure => simp [intOf]; omega
    have hq : (i : Int) < (fs.length : Int) := by omega
    have hmore : List.map (fun x => x.1) (fs.take (i + 1)) = List.map (fun x => x.1) (fs.take i) ++ [fs[i].1] := by rw [List.take_succ_eq_append_getElem hlt, List.map_append]; rfl
    obtain ⟨b, o, rfl, hbb, d0, d1, d2, d3⟩ := rdC_at (HRC.out.below HT.out.bel (Nat.le_refl _)) hlt
    obtain ⟨Af, cf, hvf, hfc, hAf, hrf⟩ := HFI.out fs[i] (List.getElem_mem hlt)
    have hfl := HFL.out fs[i] (List.getElem_mem hlt)
    obtain ⟨⟨⟨nm, sp, fl, at_⟩, vf⟩, hy⟩ : ∃ y, fs[i] = y := ⟨_, rfl⟩
    rw [hy] at d0 d1 d2 d3 hvf hfc hAf hrf hfl hmore
    dsimp only at d0 d1 d2 d3 hvf hfc hAf hrf hfl hmore
    subst hvf
    have hbw : b < wr.heap.size := Nat.lt_of_lt_of_le hbb HT.out.bel.size
    clear hy
    go_upto_region 5 with fail
    rename_i KK hKK
    have HKK := Lib.hid hKK
    clear hKK
    obtain ⟨W1, hW1⟩ : ∃ W1, wr.alloc (.cells #[.string (mkB nm), .string (mkB sp), .slice Af fl.length cf, .int .i64 at_] 87) = W1 := ⟨_, rfl⟩
    obtain ⟨F, hF⟩ : ∃ F, wr.heap.size = F := ⟨_, rfl⟩
    have hs : W1.heap[F]? = some (.cells #[.string (mkB nm), .string (mkB sp), .slice Af fl.length cf, .int .i64 at_] 87 (0, 0)) := by rw [← hW1, ← hF]; exact heap_alloc_new wr _
    have hb1 : Below wr.heap.size wr W1 := by rw [← hW1]; exact (Below.refl _ _).alloc (Nat.le_refl _) _
    rw [hW1]
    simp only [hF]
    have hT1 := HT.out.below hb1
    have hbx1 := (hb1.block _ (lt_of_blk HX.out.1)).trans HX.out.1
    have hbx2 := (hb1.block _ (lt_of_blk HX.out.2)).trans HX.out.2
    have lT1 := lt_of_blk hbx1
    have lT2 := lt_of_blk hbx2
    have lF := lt_of_blk hs
    have hu := hT1.u
    have fu := cells2V hu
    have hUF : T + 1 + 1 < F := by have := lt_of_blk HT.out.u; omega
    have hlen2 : fs2.length ≤ 100000000 := by have := HM.out.2; omega
    have hfl : fl.length ≤ 100000000 := by omega
    clear hW1 hb1 d0 d1 d2 d3
    have hS : (fun w' : World => w'.cell? ⟨F, 0, none⟩ = some (.string (mkB nm)) ∧ w'.cell? ⟨F, 1, none⟩ = some (.string (mkB sp)) ∧ w'.cell? ⟨F, 2, none⟩ = some (.slice Af fl.length cf) ∧ w'.cell? ⟨F, 3, none⟩ = some (.int .i64 at_)) W1.drew := ⟨(cells4L hs).1, (cells4L hs).2.1, (cells4L hs).2.2.1, (cells4L hs).2.2.2.1⟩
    refine wp_region_noPanic ?_
    refine wp_region_held_drew (S := (fun w' : World => w'.cell? ⟨F, 0, none⟩ = some (.string (mkB nm)) ∧ w'.cell? ⟨F, 1, none⟩ = some (.string (mkB sp)) ∧ w'.cell? ⟨F, 2, none⟩ = some (.slice Af fl.length cf) ∧ w'.cell? ⟨F, 3, none⟩ = some (.int .i64 at_))) (by kernel_rfl) hS (fun hHeld => ?_)
    clear hS
    refine wpAnyH_take (i := 0) (v := ?_) (by first | (simp only [List.getElem?_toArray, List.getElem?_cons_succ, List.getElem?_cons_zero]; rfl) | rfl) (by kernel_rfl) (by kernel_rfl) (by kernel_rfl) (fun _ _ _ h => h) (Or.inl ⟨by rfl, ?_⟩) (by assumption) ?_
    rotate_left 1
    · (intro w' hSw; (try dsimp only at hSw); go_simp; (try with_reducible rfl))
    try simp only [Act.put, List.setIfInBounds_toArray, List.set_cons_zero, List.set_cons_succ]
    refine wpAnyH_take (i := 2) (v := ?_) (by first | (simp only [List.getElem?_toArray, List.getElem?_cons_succ, List.getElem?_cons_zero]; rfl) | rfl) (by kernel_rfl) (by kernel_rfl) (by kernel_rfl) (fun _ _ _ h => h) (Or.inl ⟨by rfl, ?_⟩) (by assumption) ?_
    rotate_left 1
    · (intro w' hSw; (try dsimp only at hSw); go_simp; (try with_reducible rfl))
    try simp only [Act.put, List.setIfInBounds_toArray, List.set_cons_zero, List.set_cons_succ]
    refine wpAnyH_take (i := 3) (v := ?_) (by first | (simp only [List.getElem?_toArray, List.getElem?_cons_succ, List.getElem?_cons_zero]; rfl) | rfl) (by kernel_rfl) (by kernel_rfl) (by kernel_rfl) (fun _ _ _ h => h) (Or.inl ⟨by rfl, ?_⟩) (by assumption) ?_
    rotate_left 1
    · (intro w' hSw; (try dsimp only at hSw); go_simp; (try with_reducible rfl))
    try simp only [Act.put, List.setIfInBounds_toArray, List.set_cons_zero, List.set_cons_succ]
    refine wpAnyH_take (i := 4) (v := ?_) (by first | (simp only [List.getElem?_toArray, List.getElem?_cons_succ, List.getElem?_cons_zero]; rfl) | rfl) (by kernel_rfl) (by kernel_rfl) (by kernel_rfl) (fun _ _ _ h => h) (Or.inl ⟨by rfl, ?_⟩) (by assumption) ?_
    rotate_left 1
    · (intro w' hSw; (try dsimp only at hSw); go_simp; (try with_reducible rfl))
    try simp only [Act.put, List.setIfInBounds_toArray, List.set_cons_zero, List.set_cons_succ]
    refine wpAnyH_take (i := 5) (v := ?_) (by first | (simp only [List.getElem?_toArray, List.getElem?_cons_succ, List.getElem?_cons_zero]; rfl) | rfl) (by kernel_rfl) (by kernel_rfl) (by kernel_rfl) (fun _ _ _ h => h) (Or.inl ⟨by rfl, ?_⟩) (by assumption) ?_
    rotate_left 1
    · (intro w' hSw; (try dsimp only at hSw); go_simp; (try with_reducible rfl))
    try simp only [Act.put, List.setIfInBounds_toArray, List.set_cons_zero, List.set_cons_succ]
    refine wpAnyH_take (i := 7) (v := ?_) (by first | (simp only [List.getElem?_toArray, List.getElem?_cons_succ, List.getElem?_cons_zero]; rfl) | rfl) (by kernel_rfl) (by kernel_rfl) (by kernel_rfl) (fun _ _ _ h => h) (Or.inl ⟨by rfl, ?_⟩) (by assumption) ?_
    rotate_left 1
    · (intro w' hSw; (try dsimp only at hSw); go_simp; (try with_reducible rfl))
    try simp only [Act.put, List.setIfInBounds_toArray, List.set_cons_zero, List.set_cons_succ]
    refine wpAnyH_take (i := 8) (v := ?_) (by first | (simp only [List.getElem?_toArray, List.getElem?_cons_succ, List.getElem?_cons_zero]; rfl) | rfl) (by kernel_rfl) (by kernel_rfl) (by kernel_rfl) (fun _ _ _ h => h) (Or.inl ⟨by rfl, ?_⟩) (by assumption) ?_
    rotate_left 1
    · (intro w' hSw; (try dsimp only at hSw); go_simp; (try with_reducible rfl))
    try simp only [Act.put, List.setIfInBounds_toArray, List.set_cons_zero, List.set_cons_succ]
    refine wpAnyH_take (i := 10) (v := ?_) (by first | (simp only [List.getElem?_toArray, List.getElem?_cons_succ, List.getElem?_cons_zero]; rfl) | rfl) (by kernel_rfl) (by kernel_rfl) (by kernel_rfl) (fun _ _ _ h => h) (Or.inl ⟨by rfl, ?_⟩) (by assumption) ?_
    rotate_left 1
    · (intro w' hSw; (try dsimp only at hSw); go_simp; (try with_reducible rfl))
    try simp only [Act.put, List.setIfInBounds_toArray, List.set_cons_zero, List.set_cons_succ]
    refine wpAnyH_take (i := 11) (v := ?_) (by first | (simp only [List.getElem?_toArray, List.getElem?_cons_succ, List.getElem?_cons_zero]; rfl) | rfl) (by kernel_rfl) (by kernel_rfl) (by kernel_rfl) (fun _ _ _ h => h) (Or.inl ⟨by rfl, ?_⟩) (by assumption) ?_
    rotate_left 1
    · (intro w' hSw; (try dsimp only at hSw); go_simp; (try with_reducible rfl))
    try simp only [Act.put, List.setIfInBounds_toArray, List.set_cons_zero, List.set_cons_succ]
    refine wpAnyH_ready (rs := [1, 6]) (by kernel_rfl) (by simp) ?_
    refine AllReadyH.cons (by first | (simp only [List.getElem?_toArray, List.getElem?_cons_succ, List.getElem?_cons_zero]; rfl) | rfl) (fun K hK => ?_) (AllReadyH.cons (by first | (simp only [List.getElem?_toArray, List.getElem?_cons_succ, List.getElem?_cons_zero]; rfl) | rfl) (fun K hK => ?_) AllReadyH.nil)
    · skip
      go_simp
      refine hK.out _ _ ⟨(cells4L hs).1, (cells4L hs).2.1, (cells4L hs).2.2.1, (cells4L hs).2.2.2.1⟩ (fun hHeld => ?_)
      clear hK K
      try simp only [Act.put, List.setIfInBounds_toArray, List.set_cons_zero, List.set_cons_succ]
      refine wpAnyH_ready (rs := [6]) (by kernel_rfl) (by simp) ?_
      refine AllReadyH.cons (by first | (simp only [List.getElem?_toArray, List.getElem?_cons_succ, List.getElem?_cons_zero]; rfl) | rfl) (fun K hK => ?_) AllReadyH.nil
      go_simp
      show K _ (W1.alloc (.cells #[] 9)).drew
      obtain ⟨w6, hw6⟩ : ∃ w6, (W1.alloc (.cells #[] 9)).drew = w6 := ⟨_, rfl⟩
      have hb6 : Below W1.heap.size W1 w6 := by rw [← hw6]; exact ((Below.refl _ _).alloc (Nat.le_refl _) _).drew
      have hov : OwnS w6 w0.heap.size (.slice (some ⟨W1.heap.size, 0, none⟩) 0 0) [] := by rw [← hw6]; exact own_void W1 9 1 w0.heap.size hT1.bel.size
      rw [hw6]
      clear hw6
      have hT6 := hT1.below hb6
      have hs := (hb6.block _ lF).trans hs
      have hu := hT6.u
      have fu := cells2V hu
      refine hK.out _ _ ⟨(cells4L hs).1, (cells4L hs).2.1, (cells4L hs).2.2.1, (cells4L hs).2.2.2.1⟩ (fun hHeld => ?_)
      clear hK K
      try simp only [Act.put, List.setIfInBounds_toArray, List.set_cons_zero, List.set_cons_succ]
      refine wpAnyH_ready (rs := [9]) (by kernel_rfl) (by simp) ?_
      refine AllReadyH.cons (by first | (simp only [List.getElem?_toArray, List.getElem?_cons_succ, List.getElem?_cons_zero]; rfl) | rfl) (fun K hK => ?_) AllReadyH.nil
      refine step_append_s (base := w0.heap.size) (v := .slice (some ⟨W1.heap.size, 0, none⟩) 0 0) (xs := []) (news := fl) rfl _ _ rfl rfl rfl hov ((hrf.below (hT6.bel) (Nat.le_refl _)).more hT6.bel.size) hAf (cs_one fl) (by simp) hfl hT6.bel.size ?_
      intro A4 t4 c4 w9 HT4 HO4 HB9
      have et4 : Hid (t4 = fl) := Lib.hid (by rw [HT4.out, List.nil_append])
      have hFg : some F ≠ (Value.slice (some ⟨W1.heap.size, 0, none⟩) 0 0).ownBlock := fun e => by simp [Value.ownBlock] at e; omega
      have hs := (HB9.out.2.1 F (Nat.lt_of_lt_of_le lF hb6.size) hFg).trans hs
      have hT9 : TdW w0 w9 (T + 1 + 1) fs2 [] A5 c5 none 0 := hT6.keepS hov (fun x hx => .inl fun e => by obtain ⟨A, c, e2, hf⟩ := hT1.ownF x hx; have := (World.ownsRow.lt hf W1.heap.size (by rw [e]; rfl)).2; omega) HB9.out
      have hk9 : ∀ k : Nat, k < W1.heap.size → w9.heap[k]? = W1.heap[k]? := fun k hk => (HB9.out.2.1 k (Nat.lt_of_lt_of_le hk hb6.size) (fun e => by simp [Value.ownBlock] at e; omega)).trans (hb6.block k hk)
      have hu := hT9.u
      have fu := cells2V hu
      refine hK.out _ _ ⟨(cells4L hs).1, (cells4L hs).2.1, (cells4L hs).2.2.1, (cells4L hs).2.2.2.1⟩ (fun hHeld => ?_)
      clear hK K
      try simp only [Act.put, List.setIfInBounds_toArray, List.set_cons_zero, List.set_cons_succ]
      refine wpAnyH_take (i := 12) (v := ?_) (by first | (simp only [List.getElem?_toArray, List.getElem?_cons_succ, List.getElem?_cons_zero]; rfl) | rfl) (by kernel_rfl) (by kernel_rfl) (by kernel_rfl) (fun _ _ _ h => h) (Or.inl ⟨by rfl, ?_⟩) (by assumption) ?_
      rotate_left 1
      · (intro w' hSw; (try dsimp only at hSw); go_simp; (try with_reducible rfl))
      try simp only [Act.put, List.setIfInBounds_toArray, List.set_cons_zero, List.set_cons_succ]
      refine wpAnyH_ready (rs := [13]) (by kernel_rfl) (by simp) ?_
      refine AllReadyH.cons (by first | (simp only [List.getElem?_toArray, List.getElem?_cons_succ, List.getElem?_cons_zero]; rfl) | rfl) (fun K hK => ?_) AllReadyH.nil
      go_simp
      show K _ (w9.alloc (.cells #[.string (mkB nm), .string (mkB sp), .slice A4 t4.length c4, .int .i64 at_] 75))
      obtain ⟨w13, hw13⟩ : ∃ w13, (w9.alloc (.cells #[.string (mkB nm), .string (mkB sp), .slice A4 t4.length c4, .int .i64 at_] 75)) = w13 := ⟨_, rfl⟩
      have hb13 : Below w9.heap.size w9 w13 := by rw [← hw13]; exact (Below.refl _ _).alloc (Nat.le_refl _) _
      have hr13 := cc__one (w := w13) (C := w9.heap.size) ((nm, sp, fl, at_), .slice A4 t4.length c4) (by rw [← hw13]; exact heap_alloc_new w9 _)
      rw [hw13]
      clear hw13
      have hT13 := hT9.below hb13
      have hs := (hb13.block _ (lt_of_blk hs)).trans hs
      have hu := hT13.u
      have fu := cells2V hu
      refine hK.out _ _ ⟨(cells4L hs).1, (cells4L hs).2.1, (cells4L hs).2.2.1, (cells4L hs).2.2.2.1⟩ (fun hHeld => ?_)
      clear hK K
      try simp only [Act.put, List.setIfInBounds_toArray, List.set_cons_zero, List.set_cons_succ]
      refine wpAnyH_ready (rs := [14]) (by kernel_rfl) (by simp) ?_
      refine AllReadyH.cons (by first | (simp only [List.getElem?_toArray, List.getElem?_cons_succ, List.getElem?_cons_zero]; rfl) | rfl) (fun K hK => ?_) AllReadyH.nil
      refine step_append_y (base := w0.heap.size) (v := .slice A5 fs2.length c5) (xs := fs2) (news := [((nm, sp, fl, at_), .slice A4 t4.length c4)]) rfl _ _ rfl rfl rfl hT13.ownC hr13 (fun h => by cases h) (by simp [cc_, Value.oneCell']) (by omega) (by simp) hT13.bel.size ?_
      intro A6 t6 c6 w14 HT6 HO6 HB14
      obtain ⟨hadd, hkeep⟩ := hT9.addY (y := ((nm, sp, fl, at_), .slice A4 t4.length c4)) hb13 ⟨A4, c4, by rw [et4.out], by rw [← et4.out]; exact HO4.out.below hb13⟩ HT6.out HO6.out HB14.out
      have hs := (HB14.out.2.1 F (lt_of_blk hs) (own_ne hT13.ownC hs (by decide)).symm).trans hs
      have hu := (HB14.out.2.1 (T + 1 + 1) (lt_of_blk hT13.u) (own_ne hT13.ownC hT13.u (by decide)).symm).trans hT13.u
      have fu := cells2V hu
      refine hK.out _ _ ⟨(cells4L hs).1, (cells4L hs).2.1, (cells4L hs).2.2.1, (cells4L hs).2.2.2.1⟩ (fun hHeld => ?_)
      clear hK K
      try simp only [Act.put, List.setIfInBounds_toArray, List.set_cons_zero, List.set_cons_succ]
      refine wpAnyH_take (i := 15) (v := ?_) (by first | (simp only [List.getElem?_toArray, List.getElem?_cons_succ, List.getElem?_cons_zero]; rfl) | rfl) (by kernel_rfl) (by kernel_rfl) (by kernel_rfl) (fun _ _ _ h => h) (Or.inl ⟨by rfl, ?_⟩) (by assumption) ?_
      rotate_left 1
      · (intro w' hSw; (try dsimp only at hSw); go_simp; (try with_reducible rfl))
      try simp only [Act.put, List.setIfInBounds_toArray, List.set_cons_zero, List.set_cons_succ]
      refine wpAnyH_ready (rs := [16]) (by kernel_rfl) (by simp) ?_
      refine AllReadyH.cons (by first | (simp only [List.getElem?_toArray, List.getElem?_cons_succ, List.getElem?_cons_zero]; rfl) | rfl) (fun K hK => ?_) AllReadyH.nil
      go_simp
      have hs := (Below.heap_setCell w14 ⟨T + 1 + 1, 0, none⟩ (.slice A6 t6.length c6) F (show F ≠ T + 1 + 1 by omega)).trans hs
      refine hK.out _ _ ⟨(cells4L hs).1, (cells4L hs).2.1, (cells4L hs).2.2.1, (cells4L hs).2.2.2.1⟩ (fun _ => ?_)
      refine wpAnyH_done (by kernel_rfl) ?_ _
      refine HKK.out _ _ ?_
      go_wp2_with fail
      go_roundw
      case rel => exact ⟨i + 1, t6, A6, c6, by omega, rfl, Lib.hid hadd, Lib.hid ⟨hkeep _ _ _ _ ((hk9 T lT1).trans hbx1) (by omega) (by decide), hkeep _ _ _ _ ((hk9 (T + 1) lT2).trans hbx2) (by omega) (by decide)⟩, Lib.hid ⟨by rw [HT6.out, List.map_append, HM.out.1, hmore]; rfl, by rw [HT6.out, List.length_append, HM.out.2]; rfl⟩⟩
      case measure => simp [intOf]; omega
    · skip
      go_simp
      show K _ (W1.alloc (.cells #[] 9)).drew
      obtain ⟨w6, hw6⟩ : ∃ w6, (W1.alloc (.cells #[] 9)).drew = w6 := ⟨_, rfl⟩
      have hb6 : Below W1.heap.size W1 w6 := by rw [← hw6]; exact ((Below.refl _ _).alloc (Nat.le_refl _) _).drew
      have hov : OwnS w6 w0.heap.size (.slice (some ⟨W1.heap.size, 0, none⟩) 0 0) [] := by rw [← hw6]; exact own_void W1 9 1 w0.heap.size hT1.bel.size
      rw [hw6]
      clear hw6
      have hT6 := hT1.below hb6
      have hs := (hb6.block _ lF).trans hs
      have hu := hT6.u
      have fu := cells2V hu
      refine hK.out _ _ ⟨(cells4L hs).1, (cells4L hs).2.1, (cells4L hs).2.2.1, (cells4L hs).2.2.2.1⟩ (fun hHeld => ?_)
      clear hK K
      try simp only [Act.put, List.setIfInBounds_toArray, List.set_cons_zero, List.set_cons_succ]
      refine wpAnyH_ready (rs := [1, 9]) (by kernel_rfl) (by simp) ?_
      refine AllReadyH.cons (by first | (simp only [List.getElem?_toArray, List.getElem?_cons_succ, List.getElem?_cons_zero]; rfl) | rfl) (fun K hK => ?_) (AllReadyH.cons (by first | (simp only [List.getElem?_toArray, List.getElem?_cons_succ, List.getElem?_cons_zero]; rfl) | rfl) (fun K hK => ?_) AllReadyH.nil)
      · skip
        go_simp
        refine hK.out _ _ ⟨(cells4L hs).1, (cells4L hs).2.1, (cells4L hs).2.2.1, (cells4L hs).2.2.2.1⟩ (fun hHeld => ?_)
        clear hK K
        try simp only [Act.put, List.setIfInBounds_toArray, List.set_cons_zero, List.set_cons_succ]
        refine wpAnyH_ready (rs := [9]) (by kernel_rfl) (by simp) ?_
        refine AllReadyH.cons (by first | (simp only [List.getElem?_toArray, List.getElem?_cons_succ, List.getElem?_cons_zero]; rfl) | rfl) (fun K hK => ?_) AllReadyH.nil
        refine step_append_s (base := w0.heap.size) (v := .slice (some ⟨W1.heap.size, 0, none⟩) 0 0) (xs := []) (news := fl) rfl _ _ rfl rfl rfl hov ((hrf.below (hT6.bel) (Nat.le_refl _)).more hT6.bel.size) hAf (cs_one fl) (by simp) hfl hT6.bel.size ?_
        intro A4 t4 c4 w9 HT4 HO4 HB9
        have et4 : Hid (t4 = fl) := Lib.hid (by rw [HT4.out, List.nil_append])
        have hFg : some F ≠ (Value.slice (some ⟨W1.heap.size, 0, none⟩) 0 0).ownBlock := fun e => by simp [Value.ownBlock] at e; omega
        have hs := (HB9.out.2.1 F (Nat.lt_of_lt_of_le lF hb6.size) hFg).trans hs
        have hT9 : TdW w0 w9 (T + 1 + 1) fs2 [] A5 c5 none 0 := hT6.keepS hov (fun x hx => .inl fun e => by obtain ⟨A, c, e2, hf⟩ := hT1.ownF x hx; have := (World.ownsRow.lt hf W1.heap.size (by rw [e]; rfl)).2; omega) HB9.out
        have hk9 : ∀ k : Nat, k < W1.heap.size → w9.heap[k]? = W1.heap[k]? := fun k hk => (HB9.out.2.1 k (Nat.lt_of_lt_of_le hk hb6.size) (fun e => by simp [Value.ownBlock] at e; omega)).trans (hb6.block k hk)
        have hu := hT9.u
        have fu := cells2V hu
        refine hK.out _ _ ⟨(cells4L hs).1, (cells4L hs).2.1, (cells4L hs).2.2.1, (cells4L hs).2.2.2.1⟩ (fun hHeld => ?_)
        clear hK K
        try simp only [Act.put, List.setIfInBounds_toArray, List.set_cons_zero, List.set_cons_succ]
        refine wpAnyH_take (i := 12) (v := ?_) (by first | (simp only [List.getElem?_toArray, List.getElem?_cons_succ, List.getElem?_cons_zero]; rfl) | rfl) (by kernel_rfl) (by kernel_rfl) (by kernel_rfl) (fun _ _ _ h => h) (Or.inl ⟨by rfl, ?_⟩) (by assumption) ?_
        rotate_left 1
        · (intro w' hSw; (try dsimp only at hSw); go_simp; (try with_reducible rfl))
        try simp only [Act.put, List.setIfInBounds_toArray, List.set_cons_zero, List.set_cons_succ]
        refine wpAnyH_ready (rs := [13]) (by kernel_rfl) (by simp) ?_
        refine AllReadyH.cons (by first | (simp only [List.getElem?_toArray, List.getElem?_cons_succ, List.getElem?_cons_zero]; rfl) | rfl) (fun K hK => ?_) AllReadyH.nil
        go_simp
        show K _ (w9.alloc (.cells #[.string (mkB nm), .string (mkB sp), .slice A4 t4.length c4, .int .i64 at_] 75))
        obtain ⟨w13, hw13⟩ : ∃ w13, (w9.alloc (.cells #[.string (mkB nm), .string (mkB sp), .slice A4 t4.length c4, .int .i64 at_] 75)) = w13 := ⟨_, rfl⟩
        have hb13 : Below w9.heap.size w9 w13 := by rw [← hw13]; exact (Below.refl _ _).alloc (Nat.le_refl _) _
        have hr13 := cc__one (w := w13) (C := w9.heap.size) ((nm, sp, fl, at_), .slice A4 t4.length c4) (by rw [← hw13]; exact heap_alloc_new w9 _)
        rw [hw13]
        clear hw13
        have hT13 := hT9.below hb13
        have hs := (hb13.block _ (lt_of_blk hs)).trans hs
        have hu := hT13.u
        have fu := cells2V hu
        refine hK.out _ _ ⟨(cells4L hs).1, (cells4L hs).2.1, (cells4L hs).2.2.1, (cells4L hs).2.2.2.1⟩ (fun hHeld => ?_)
        clear hK K
        try simp only [Act.put, List.setIfInBounds_toArray, List.set_cons_zero, List.set_cons_succ]
        refine wpAnyH_ready (rs := [14]) (by kernel_rfl) (by simp) ?_
        refine AllReadyH.cons (by first | (simp only [List.getElem?_toArray, List.getElem?_cons_succ, List.getElem?_cons_zero]; rfl) | rfl) (fun K hK => ?_) AllReadyH.nil
        refine step_append_y (base := w0.heap.size) (v := .slice A5 fs2.length c5) (xs := fs2) (news := [((nm, sp, fl, at_), .slice A4 t4.length c4)]) rfl _ _ rfl rfl rfl hT13.ownC hr13 (fun h => by cases h) (by simp [cc_, Value.oneCell']) (by omega) (by simp) hT13.bel.size ?_
        intro A6 t6 c6 w14 HT6 HO6 HB14
        obtain ⟨hadd, hkeep⟩ := hT9.addY (y := ((nm, sp, fl, at_), .slice A4 t4.length c4)) hb13 ⟨A4, c4, by rw [et4.out], by rw [← et4.out]; exact HO4.out.below hb13⟩ HT6.out HO6.out HB14.out
        have hs := (HB14.out.2.1 F (lt_of_blk hs) (own_ne hT13.ownC hs (by decide)).symm).trans hs
        have hu := (HB14.out.2.1 (T + 1 + 1) (lt_of_blk hT13.u) (own_ne hT13.ownC hT13.u (by decide)).symm).trans hT13.u
        have fu := cells2V hu
        refine hK.out _ _ ⟨(cells4L hs).1, (cells4L hs).2.1, (cells4L hs).2.2.1, (cells4L hs).2.2.2.1⟩ (fun hHeld => ?_)
        clear hK K
        try simp only [Act.put, List.setIfInBounds_toArray, List.set_cons_zero, List.set_cons_succ]
        refine wpAnyH_take (i := 15) (v := ?_) (by first | (simp only [List.getElem?_toArray, List.getElem?_cons_succ, List.getElem?_cons_zero]; rfl) | rfl) (by kernel_rfl) (by kernel_rfl) (by kernel_rfl) (fun _ _ _ h => h) (Or.inl ⟨by rfl, ?_⟩) (by assumption) ?_
        rotate_left 1
        · (intro w' hSw; (try dsimp only at hSw); go_simp; (try with_reducible rfl))
        try simp only [Act.put, List.setIfInBounds_toArray, List.set_cons_zero, List.set_cons_succ]
        refine wpAnyH_ready (rs := [16]) (by kernel_rfl) (by simp) ?_
        refine AllReadyH.cons (by first | (simp only [List.getElem?_toArray, List.getElem?_cons_succ, List.getElem?_cons_zero]; rfl) | rfl) (fun K hK => ?_) AllReadyH.nil
        go_simp
        have hs := (Below.heap_setCell w14 ⟨T + 1 + 1, 0, none⟩ (.slice A6 t6.length c6) F (show F ≠ T + 1 + 1 by omega)).trans hs
        refine hK.out _ _ ⟨(cells4L hs).1, (cells4L hs).2.1, (cells4L hs).2.2.1, (cells4L hs).2.2.2.1⟩ (fun _ => ?_)
        refine wpAnyH_done (by kernel_rfl) ?_ _
        refine HKK.out _ _ ?_
        go_wp2_with fail
        go_roundw
        case rel => exact ⟨i + 1, t6, A6, c6, by omega, rfl, Lib.hid hadd, Lib.hid ⟨hkeep _ _ _ _ ((hk9 T lT1).trans hbx1) (by omega) (by decide), hkeep _ _ _ _ ((hk9 (T + 1) lT2).trans hbx2) (by omega) (by decide)⟩, Lib.hid ⟨by rw [HT6.out, List.map_append, HM.out.1, hmore]; rfl, by rw [HT6.out, List.length_append, HM.out.2]; rfl⟩⟩
        case measure => simp [intOf]; omega
      · skip
        refine step_append_s (base := w0.heap.size) (v := .slice (some ⟨W1.heap.size, 0, none⟩) 0 0) (xs := []) (news := fl) rfl _ _ rfl rfl rfl hov ((hrf.below (hT6.bel) (Nat.le_refl _)).more hT6.bel.size) hAf (cs_one fl) (by simp) hfl hT6.bel.size ?_
        intro A4 t4 c4 w9 HT4 HO4 HB9
        have et4 : Hid (t4 = fl) := Lib.hid (by rw [HT4.out, List.nil_append])
        have hFg : some F ≠ (Value.slice (some ⟨W1.heap.size, 0, none⟩) 0 0).ownBlock := fun e => by simp [Value.ownBlock] at e; omega
        have hs := (HB9.out.2.1 F (Nat.lt_of_lt_of_le lF hb6.size) hFg).trans hs
        have hT9 : TdW w0 w9 (T + 1 + 1) fs2 [] A5 c5 none 0 := hT6.keepS hov (fun x hx => .inl fun e => by obtain ⟨A, c, e2, hf⟩ := hT1.ownF x hx; have := (World.ownsRow.lt hf W1.heap.size (by rw [e]; rfl)).2; omega) HB9.out
        have hk9 : ∀ k : Nat, k < W1.heap.size → w9.heap[k]? = W1.heap[k]? := fun k hk => (HB9.out.2.1 k (Nat.lt_of_lt_of_le hk hb6.size) (fun e => by simp [Value.ownBlock] at e; omega)).trans (hb6.block k hk)
        have hu := hT9.u
        have fu := cells2V hu
        refine hK.out _ _ ⟨(cells4L hs).1, (cells4L hs).2.1, (cells4L hs).2.2.1, (cells4L hs).2.2.2.1⟩ (fun hHeld => ?_)
        clear hK K
        try simp only [Act.put, List.setIfInBounds_toArray, List.set_cons_zero, List.set_cons_succ]
        refine wpAnyH_take (i := 12) (v := ?_) (by first | (simp only [List.getElem?_toArray, List.getElem?_cons_succ, List.getElem?_cons_zero]; rfl) | rfl) (by kernel_rfl) (by kernel_rfl) (by kernel_rfl) (fun _ _ _ h => h) (Or.inl ⟨by rfl, ?_⟩) (by assumption) ?_
        rotate_left 1
        · (intro w' hSw; (try dsimp only at hSw); go_simp; (try with_reducible rfl))
        try simp only [Act.put, List.setIfInBounds_toArray, List.set_cons_zero, List.set_cons_succ]
        refine wpAnyH_ready (rs := [1, 13]) (by kernel_rfl) (by simp) ?_
        refine AllReadyH.cons (by first | (simp only [List.getElem?_toArray, List.getElem?_cons_succ, List.getElem?_cons_zero]; rfl) | rfl) (fun K hK => ?_) (AllReadyH.cons (by first | (simp only [List.getElem?_toArray, List.getElem?_cons_succ, List.getElem?_cons_zero]; rfl) | rfl) (fun K hK => ?_) AllReadyH.nil)
        · skip
          go_simp
          refine hK.out _ _ ⟨(cells4L hs).1, (cells4L hs).2.1, (cells4L hs).2.2.1, (cells4L hs).2.2.2.1⟩ (fun hHeld => ?_)
          clear hK K
          try simp only [Act.put, List.setIfInBounds_toArray, List.set_cons_zero, List.set_cons_succ]
          refine wpAnyH_ready (rs := [13]) (by kernel_rfl) (by simp) ?_
          refine AllReadyH.cons (by first | (simp only [List.getElem?_toArray, List.getElem?_cons_succ, List.getElem?_cons_zero]; rfl) | rfl) (fun K hK => ?_) AllReadyH.nil
          go_simp
          show K _ (w9.alloc (.cells #[.string (mkB nm), .string (mkB sp), .slice A4 t4.length c4, .int .i64 at_] 75))
          obtain ⟨w13, hw13⟩ : ∃ w13, (w9.alloc (.cells #[.string (mkB nm), .string (mkB sp), .slice A4 t4.length c4, .int .i64 at_] 75)) = w13 := ⟨_, rfl⟩
          have hb13 : Below w9.heap.size w9 w13 := by rw [← hw13]; exact (Below.refl _ _).alloc (Nat.le_refl _) _
          have hr13 := cc__one (w := w13) (C := w9.heap.size) ((nm, sp, fl, at_), .slice A4 t4.length c4) (by rw [← hw13]; exact heap_alloc_new w9 _)
          rw [hw13]
          clear hw13
          have hT13 := hT9.below hb13
          have hs := (hb13.block _ (lt_of_blk hs)).trans hs
          have hu := hT13.u
          have fu := cells2V hu
          refine hK.out _ _ ⟨(cells4L hs).1, (cells4L hs).2.1, (cells4L hs).2.2.1, (cells4L hs).2.2.2.1⟩ (fun hHeld => ?_)
          clear hK K
          try simp only [Act.put, List.setIfInBounds_toArray, List.set_cons_zero, List.set_cons_succ]
          refine wpAnyH_ready (rs := [14]) (by kernel_rfl) (by simp) ?_
          refine AllReadyH.cons (by first | (simp only [List.getElem?_toArray, List.getElem?_cons_succ, List.getElem?_cons_zero]; rfl) | rfl) (fun K hK => ?_) AllReadyH.nil
          refine step_append_y (base := w0.heap.size) (v := .slice A5 fs2.length c5) (xs := fs2) (news := [((nm, sp, fl, at_), .slice A4 t4.length c4)]) rfl _ _ rfl rfl rfl hT13.ownC hr13 (fun h => by cases h) (by simp [cc_, Value.oneCell']) (by omega) (by simp) hT13.bel.size ?_
          intro A6 t6 c6 w14 HT6 HO6 HB14
          obtain ⟨hadd, hkeep⟩ := hT9.addY (y := ((nm, sp, fl, at_), .slice A4 t4.length c4)) hb13 ⟨A4, c4, by rw [et4.out], by rw [← et4.out]; exact HO4.out.below hb13⟩ HT6.out HO6.out HB14.out
          have hs := (HB14.out.2.1 F (lt_of_blk hs) (own_ne hT13.ownC hs (by decide)).symm).trans hs
          have hu := (HB14.out.2.1 (T + 1 + 1) (lt_of_blk hT13.u) (own_ne hT13.ownC hT13.u (by decide)).symm).trans hT13.u
          have fu := cells2V hu
          refine hK.out _ _ ⟨(cells4L hs).1, (cells4L hs).2.1, (cells4L hs).2.2.1, (cells4L hs).2.2.2.1⟩ (fun hHeld => ?_)
          clear hK K
          try simp only [Act.put, List.setIfInBounds_toArray, List.set_cons_zero, List.set_cons_succ]
          refine wpAnyH_take (i := 15) (v := ?_) (by first | (simp only [List.getElem?_toArray, List.getElem?_cons_succ, List.getElem?_cons_zero]; rfl) | rfl) (by kernel_rfl) (by kernel_rfl) (by kernel_rfl) (fun _ _ _ h => h) (Or.inl ⟨by rfl, ?_⟩) (by assumption) ?_
          rotate_left 1
          · (intro w' hSw; (try dsimp only at hSw); go_simp; (try with_reducible rfl))
          try simp only [Act.put, List.setIfInBounds_toArray, List.set_cons_zero, List.set_cons_succ]
          refine wpAnyH_ready (rs := [16]) (by kernel_rfl) (by simp) ?_
          refine AllReadyH.cons (by first | (simp only [List.getElem?_toArray, List.getElem?_cons_succ, List.getElem?_cons_zero]; rfl) | rfl) (fun K hK => ?_) AllReadyH.nil
          go_simp
          have hs := (Below.heap_setCell w14 ⟨T + 1 + 1, 0, none⟩ (.slice A6 t6.length c6) F (show F ≠ T + 1 + 1 by omega)).trans hs
          refine hK.out _ _ ⟨(cells4L hs).1, (cells4L hs).2.1, (cells4L hs).2.2.1, (cells4L hs).2.2.2.1⟩ (fun _ => ?_)
          refine wpAnyH_done (by kernel_rfl) ?_ _
          refine HKK.out _ _ ?_
          go_wp2_with fail
          go_roundw
          case rel => exact ⟨i + 1, t6, A6, c6, by omega, rfl, Lib.hid hadd, Lib.hid ⟨hkeep _ _ _ _ ((hk9 T lT1).trans hbx1) (by omega) (by decide), hkeep _ _ _ _ ((hk9 (T + 1) lT2).trans hbx2) (by omega) (by decide)⟩, Lib.hid ⟨by rw [HT6.out, List.map_append, HM.out.1, hmore]; rfl, by rw [HT6.out, List.length_append, HM.out.2]; rfl⟩⟩
          case measure => simp [intOf]; omega
        · skip
          go_simp
          show K _ (w9.alloc (.cells #[.string (mkB nm), .string (mkB sp), .slice A4 t4.length c4, .int .i64 at_] 75))
          obtain ⟨w13, hw13⟩ : ∃ w13, (w9.alloc (.cells #[.string (mkB nm), .string (mkB sp), .slice A4 t4.length c4, .int .i64 at_] 75)) = w13 := ⟨_, rfl⟩
          have hb13 : Below w9.heap.size w9 w13 := by rw [← hw13]; exact (Below.refl _ _).alloc (Nat.le_refl _) _
          have hr13 := cc__one (w := w13) (C := w9.heap.size) ((nm, sp, fl, at_), .slice A4 t4.length c4) (by rw [← hw13]; exact heap_alloc_new w9 _)
          rw [hw13]
          clear hw13
          have hT13 := hT9.below hb13
          have hs := (hb13.block _ (lt_of_blk hs)).trans hs
          have hu := hT13.u
          have fu := cells2V hu
          refine hK.out _ _ ⟨(cells4L hs).1, (cells4L hs).2.1, (cells4L hs).2.2.1, (cells4L hs).2.2.2.1⟩ (fun hHeld => ?_)
          clear hK K
          try simp only [Act.put, List.setIfInBounds_toArray, List.set_cons_zero, List.set_cons_succ]
          refine wpAnyH_ready (rs := [1]) (by kernel_rfl) (by simp) ?_
          refine AllReadyH.cons (by first | (simp only [List.getElem?_toArray, List.getElem?_cons_succ, List.getElem?_cons_zero]; rfl) | rfl) (fun K hK => ?_) AllReadyH.nil
          go_simp
          refine hK.out _ _ ⟨(cells4L hs).1, (cells4L hs).2.1, (cells4L hs).2.2.1, (cells4L hs).2.2.2.1⟩ (fun hHeld => ?_)
          clear hK K
          try simp only [Act.put, List.setIfInBounds_toArray, List.set_cons_zero, List.set_cons_succ]
          refine wpAnyH_ready (rs := [14]) (by kernel_rfl) (by simp) ?_
          refine AllReadyH.cons (by first | (simp only [List.getElem?_toArray, List.getElem?_cons_succ, List.getElem?_cons_zero]; rfl) | rfl) (fun K hK => ?_) AllReadyH.nil
          refine step_append_y (base := w0.heap.size) (v := .slice A5 fs2.length c5) (xs := fs2) (news := [((nm, sp, fl, at_), .slice A4 t4.length c4)]) rfl _ _ rfl rfl rfl hT13.ownC hr13 (fun h => by cases h) (by simp [cc_, Value.oneCell']) (by omega) (by simp) hT13.bel.size ?_
          intro A6 t6 c6 w14 HT6 HO6 HB14
          obtain ⟨hadd, hkeep⟩ := hT9.addY (y := ((nm, sp, fl, at_), .slice A4 t4.length c4)) hb13 ⟨A4, c4, by rw [et4.out], by rw [← et4.out]; exact HO4.out.below hb13⟩ HT6.out HO6.out HB14.out
          have hs := (HB14.out.2.1 F (lt_of_blk hs) (own_ne hT13.ownC hs (by decide)).symm).trans hs
          have hu := (HB14.out.2.1 (T + 1 + 1) (lt_of_blk hT13.u) (own_ne hT13.ownC hT13.u (by decide)).symm).trans hT13.u
          have fu := cells2V hu
          refine hK.out _ _ ⟨(cells4L hs).1, (cells4L hs).2.1, (cells4L hs).2.2.1, (cells4L hs).2.2.2.1⟩ (fun hHeld => ?_)
          clear hK K
          try simp only [Act.put, List.setIfInBounds_toArray, List.set_cons_zero, List.set_cons_succ]
          refine wpAnyH_take (i := 15) (v := ?_) (by first | (simp only [List.getElem?_toArray, List.getElem?_cons_succ, List.getElem?_cons_zero]; rfl) | rfl) (by kernel_rfl) (by kernel_rfl) (by kernel_rfl) (fun _ _ _ h => h) (Or.inl ⟨by rfl, ?_⟩) (by assumption) ?_
          rotate_left 1
          · (intro w' hSw; (try dsimp only at hSw); go_simp; (try with_reducible rfl))
          try simp only [Act.put, List.setIfInBounds_toArray, List.set_cons_zero, List.set_cons_succ]
          refine wpAnyH_ready (rs := [16]) (by kernel_rfl) (by simp) ?_
          refine AllReadyH.cons (by first | (simp only [List.getElem?_toArray, List.getElem?_cons_succ, List.getElem?_cons_zero]; rfl) | rfl) (fun K hK => ?_) AllReadyH.nil
          go_simp
          have hs := (Below.heap_setCell w14 ⟨T + 1 + 1, 0, none⟩ (.slice A6 t6.length c6) F (show F ≠ T + 1 + 1 by omega)).trans hs
          refine hK.out _ _ ⟨(cells4L hs).1, (cells4L hs).2.1, (cells4L hs).2.2.1, (cells4L hs).2.2.2.1⟩ (fun _ => ?_)
          refine wpAnyH_done (by kernel_rfl) ?_ _
          refine HKK.out _ _ ?_
          go_wp2_with fail
          go_roundw
          case rel => exact ⟨i + 1, t6, A6, c6, by omega, rfl, Lib.hid hadd, Lib.hid ⟨hkeep _ _ _ _ ((hk9 T lT1).trans hbx1) (by omega) (by decide), hkeep _ _ _ _ ((hk9 (T + 1) lT2).trans hbx2) (by omega) (by decide)⟩, Lib.hid ⟨by rw [HT6.out, List.map_append, HM.out.1, hmore]; rfl, by rw [HT6.out, List.length_append, HM.out.2]; rfl⟩⟩
          case measure => simp [intOf]; omega
end Go.Proofs.YtmdkneollidkfaaGreatDoor.Fl
