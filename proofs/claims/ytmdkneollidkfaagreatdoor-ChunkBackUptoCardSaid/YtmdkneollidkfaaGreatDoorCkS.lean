/-
  The program's methods: the texts below a header.
-/
import Derived.Test.YtmdkneollidkfaaGreatDoorCkL
import Derived.Test.YtmdkneollidkfaaGreatDoorRoundQ
import Derived.Test.YtmdkneollidkfaaGreatDoorLxAr
import Derived.Test.YtmdkneollidkfaaGreatDoorLxZ
namespace Go.Proofs.YtmdkneollidkfaaGreatDoor.Fl
open Go.RowKit Go.Shelf
theorem wide_fnK (l f : Nat) : (Fence.wide.inRound l).fn f = True := rfl
attribute [local go_sem] Oper.semAt_some wide_fnK

theorem maxAt_low {w0 w : World} (h : MaxAt w0) (hb : Below w0.heap.size w0 w) : MaxAt w := by
  obtain ⟨m, hm⟩ := h
  exact ⟨m, (World.cell?_of_block (a := ⟨0, 0, none⟩) (hb.block 0 (World.block_lt_of_cell? _ _ hm))).trans hm⟩
theorem RkW.sp {w0 w w' : World} {R p : Nat} {s : ByteArray} {fs : List (Cls × Value)} {ss : List Src} {A1 : Option Addr} {c1 : Nat} {A2 : Option Addr} {c2 B : Nat} (h : RkW w0 w R s p fs ss A1 c1 A2 c2) (hb : Sp B w w') (hB : w0.heap.size ≤ B) : RkW w0 w' R s p fs ss A1 c1 A2 c2 := by
  have hown : ∀ {e size n : Nat} {v : Value} {xs : List Value}, w.ownsRow w0.heap.size e size v n xs → w'.ownsRow w0.heap.size e size v n xs := fun h => ⟨h.1, h.2.elim .inl fun ⟨g, cap, cur, hv, hbg, hg, r⟩ => .inr ⟨g, cap, cur, hv, hbg, (hb.cells _ _ _ _ hg).trans hg, r⟩⟩
  exact ⟨(hb.cells _ _ _ _ h.rd).trans h.rd, ⟨hb.os.trans h.bel.os, hb.tape.trans h.bel.tape, hb.output.trans h.bel.output, Nat.le_trans h.bel.size hb.size, fun k hk => (hb.low k (by omega) (Nat.lt_of_lt_of_le hk h.bel.size)).trans (h.bel.block k hk)⟩, h.hR, hown h.ownC, fun x hx => (h.ownF x hx).imp fun A ⟨c, e, ho⟩ => ⟨c, e, hown ho⟩, hown h.ownX⟩
theorem KpN.sp {w W W' : World} {B : Nat} (h : KpN w W) (hb : Sp B W W') (hB : w.heap.size ≤ B) : KpN w W' := fun k o hk ho =>
  (hb.low k (Nat.lt_of_lt_of_le (lt_of_blk hk) hB) (lt_of_blk (h k o hk ho))).trans (h k o hk ho)
theorem put_defers (a : Act) (d : Option Tmp) (v : Value) : (a.put d v).defers = a.defers := by cases d <;> rfl
theorem leavesM_one {F : Fence} {n : Nat} {P : Program} {fn : Func} {tmps : Array Value} {R : Ending → World → Prop} {u : FrameMode} {D : Nat} {W : World} (hdef : W.heap[D]? = some (.deferred (some []))) (hu : u ≠ .run) (h : LeavesInM F n P fn tmps R [] u (W.putObj D (.deferred none))) : LeavesInM F n P fn tmps R [{ target := .collected D, args := #[] }] u W :=
  ⟨hu, .inl ⟨_, _, rfl, run_takeDeferred hdef, h⟩⟩
theorem step_append_xk {w : World} {base c : Nat} {A : Option Addr} {xs news : List Src} {v : Value} {ops : Array Oper} {o : Oper} {a : Act} {K : Act → World → Prop} {Q : Exit → Act → World → Prop} {E : Prop} (hg : o.guard = none) (s x : Operand) (ho : o.op = .call { callee := .builtin .append, args := #[s, x], argTypes := #[51, 51] })
    (hs : a.eval s = v) (hx : a.eval x = .slice A news.length c) (hown : OwnXk w base v xs) (hr : Rd w w.heap.size A (sk_ news)) (hA : A = none → news.length = 0) (hone : ∀ v ∈ sk_ news, v.oneCell' = true) (hl : xs.length ≤ 100000000) (hl2 : news.length ≤ 100000000) (hb : base ≤ w.heap.size)
    (h : ∀ A' ts c' w', Hid (ts = xs ++ news) → Hid (OwnXk w' base (.slice A' ts.length c') ts) → Hid (Below base w w' ∧ (∀ k, k < w.heap.size → some k ≠ v.ownBlock → w'.heap[k]? = w.heap[k]?) ∧ ((Value.slice A' ts.length c').ownBlock = v.ownBlock ∨ (Value.slice A' ts.length c').ownBlock = some w.heap.size)) → K (a.put o.dst (.slice A' ts.length c')) w') :
    if Region.wanted o (yielded ops a.tmps) = true then Oper.wp Tryz.prog o a w K Q else E := by
  obtain ⟨i0, hi, hz0, hz1, hz2⟩ := info_parts srcinfoK
  refine step_append_rd (base := base) (size := 4) (bytes := 48) (n := xs.length) (m := news.length) (c := c) (v := v) (xs := sk_ xs) (news := sk_ news) hg s x ho Tryz.underlying51 hi hz0 hz1 hz2 rfl (by decide) hs hx hown hr (sk__len _) hA hone (by unfold maxLen; omega) (by omega) hb ?_
  intro v' w' happ
  obtain ⟨A', c', rfl, _, _⟩ := happ.slice
  have e : xs.length + news.length = (xs ++ news).length := by simp
  have ho := happ.own
  have hat := happ.at_
  rw [e, show sk_ xs ++ sk_ news = sk_ (xs ++ news) from (sk__app _ _).symm] at ho
  rw [e] at hat ⊢
  exact h A' (xs ++ news) c' w' (Lib.hid rfl) (Lib.hid ho) (Lib.hid ⟨(Below.refl _ _).grown happ.grown hb (fun j hj => (World.ownsRow.lt hown j hj).1), happ.grown.block, hat⟩)
def MethPost (w0 : World) (R : Nat) (s : ByteArray) (p : Nat) (fs : List (Cls × Value)) (ss : List Src) (A1 : Option Addr) (c1 : Nat) (h : List UInt8 × Bool) (w : World) (e : Ending) (w' : World) : Prop :=
  (∃ at_ : Int, readU s (some h) p = .inr (at_, 4) ∧ e = .panicked (faultK 4 at_) ∧ Below w0.heap.size w0 w' ∧ KpN w w') ∨
  (∃ (q : Nat) (ss' : List Src) (A3 : Option Addr) (c3 : Nat), e = .returned (.tuple #[]) ∧ RkW w0 w' R s q fs ss' A1 c1 A3 c3 ∧ p ≤ q ∧ q ≤ s.size ∧ fs.length + ss'.length ≤ q ∧ (∀ cs, preU cs ss (readU s (some h) p) = preU cs ss' (readU s none q)) ∧ KpN w w')
/-- what stands while the texts below a header are read -/
def MSt (w0 w : World) (R : Nat) (s : ByteArray) (fs : List (Cls × Value)) (A1 : Option Addr) (c1 : Nat) (cl : List UInt8) (mt : Bool) (T q : Nat) (ss1 : List Src) (W : World) : Prop :=
  (∃ A3 c3, RkW w0 W R s q fs ss1 A1 c1 A3 c3) ∧ q ≤ s.size ∧ (W.heap[T]? = some (.cells #[.pointer (some ⟨R, 0, none⟩)] 97 (0, 0)) ∧ W.heap[T + 1]? = some (.cells #[.string (mkB cl)] 9 (0, 0)) ∧ W.heap[T + 1 + 1]? = some (.cells #[.bool mt] 4 (0, 0))) ∧ KpN w W
section
variable {w0 w : World} {R : Nat} {s : ByteArray} {fs : List (Cls × Value)} {A1 : Option Addr} {c1 : Nat} {cl : List UInt8} {mt : Bool} {T q : Nat} {ss1 : List Src} {W W' : World}
theorem MSt.sp {B : Nat} (h : MSt w0 w R s fs A1 c1 cl mt T q ss1 W) (hb : Sp B W W') (hB : w0.heap.size ≤ B) (hB2 : w.heap.size ≤ B) : MSt w0 w R s fs A1 c1 cl mt T q ss1 W' := by
  obtain ⟨⟨A3, c3, h1⟩, h2, ⟨h3, h4, h5⟩, h6⟩ := h
  exact ⟨⟨A3, c3, h1.sp hb hB⟩, h2, ⟨(hb.cells _ _ _ _ h3).trans h3, (hb.cells _ _ _ _ h4).trans h4, (hb.cells _ _ _ _ h5).trans h5⟩, h6.sp hb hB2⟩
theorem MSt.go (h : MSt w0 w R s fs A1 c1 cl mt T q ss1 W) (b : Nat) (hb : b ≤ s.size) : MSt w0 w R s fs A1 c1 cl mt T b ss1 (W.setCell ⟨R, 3, none⟩ (.int .i64 (b : Int))) := by
  obtain ⟨⟨A3, c3, h1⟩, h2, ⟨h3, h4, h5⟩, h6⟩ := h
  have n1 : T ≠ R := otherL h3 h1.rd (by decide)
  have n2 : T + 1 ≠ R := otherL h4 h1.rd (by decide)
  have n3 : T + 1 + 1 ≠ R := otherL h5 h1.rd (by decide)
  exact ⟨⟨A3, c3, h1.go b⟩, hb, ⟨(Below.heap_setCell _ _ _ _ n1).trans h3, (Below.heap_setCell _ _ _ _ n2).trans h4, (Below.heap_setCell _ _ _ _ n3).trans h5⟩, h6.trans (KpN.set h1.rd _)⟩
end
theorem boxes3 (w : World) (o1 o2 o3 : Obj) (W : World) (hW : ((w.alloc o1).alloc o2).alloc o3 = W) :
    W.heap[w.heap.size]? = some o1 ∧ W.heap[w.heap.size + 1]? = some o2 ∧ W.heap[w.heap.size + 1 + 1]? = some o3 ∧ Below w.heap.size w W := by
  subst hW
  have s1 : (w.alloc o1).heap.size = w.heap.size + 1 := World.size_alloc w o1
  have s2 : ((w.alloc o1).alloc o2).heap.size = w.heap.size + 1 + 1 := by rw [World.size_alloc, s1]
  have n1 := heap_alloc_new w o1
  have n2 := heap_alloc_new (w.alloc o1) o2
  have n3 := heap_alloc_new ((w.alloc o1).alloc o2) o3
  rw [s1] at n2
  rw [s2] at n3
  have b5 := (Below.refl w.heap.size w).alloc (Nat.le_refl _) o1
  have b6 := b5.alloc (by omega) o2
  have b7 := b6.alloc (by omega) o3
  exact ⟨(Below.heap_alloc _ o3 _ (by omega)).trans ((Below.heap_alloc _ o2 _ (by omega)).trans n1), (Below.heap_alloc _ o3 _ (by omega)).trans n2, n3, b7⟩
set_option maxRecDepth 100000 in
set_option maxHeartbeats 8000000 in
theorem methodsK_any (w0 w : World) (R : Nat) (s : ByteArray) (hs : s.size ≤ 16777216) (p : Nat) (fs : List (Cls × Value)) (ss : List Src) (A1 : Option Addr) (c1 : Nat) (A2 : Option Addr) (c2 : Nat) (cl : List UInt8) (mt : Bool)
    (h : RkW w0 w R s p fs ss A1 c1 A2 c2) (hp : p ≤ s.size) (hl : fs.length + ss.length ≤ p) (hm : MaxAt w0) :
    Calls Tryz.prog 91 #[.pointer (some ⟨R, 0, none⟩), .string (mkB cl), .bool mt] w (MethPost w0 R s p fs ss A1 c1 (cl, mt) w) := by
  refine (callsIn_wide (n := 2)).1 ?_
  refine callsIn_of_wpAt_marks Tryz.func91 rfl trivial ?_ rfl
  simp only [Tryz.ntmps91, List.size_toArray, List.length_cons, List.length_nil, Nat.reduceAdd, Nat.reduceSub, Array.replicate_succ, Array.replicate_zero, List.push_toArray, List.append_toArray, List.nil_append, List.cons_append]
  obtain ⟨Wb, hWb⟩ : ∃ Wb, ((w.alloc (.cells #[.pointer (some ⟨R, 0, none⟩)] 97)).alloc (.cells #[.string (mkB cl)] 9)).alloc (.cells #[.bool mt] 4) = Wb := ⟨_, rfl⟩
  obtain ⟨q1, q2, q3, hb⟩ := boxes3 w _ _ _ Wb hWb
  refine wpAt_seq (wpAt_of ?_)
  gi_wp2
  clear hWb
  have hb2 : Below w0.heap.size w0 Wb := h.bel.trans (hb.mono h.bel.size)
  have hsz := hb.size
  have hsz0 := h.bel.size
  obtain ⟨T, hT⟩ : ∃ T, w.heap.size = T := ⟨_, rfl⟩
  have h0 : MSt w0 w R s fs A1 c1 cl mt T p ss Wb := ⟨⟨A2, c2, h.below hb⟩, hp, by rw [← hT]; exact ⟨q1, q2, q3⟩, KpN.below hb⟩
  simp only [hT]
  have f1 := one_cellL q1
  rw [hT] at f1
  refine wpAt_seq (wpAt_seq (wpAt_of ?_))
  gi_wp2
  clear f1 q1 q2 q3
  refine wpAt_block ?_
  obtain ⟨X, hX⟩ : ∃ X, readU s (some (cl, mt)) p = X := ⟨_, rfl⟩
  refine range_chunks Tryz.func91 R s hs rfl rfl
    (fun q W => ∃ ss1, MSt w0 w R s fs A1 c1 cl mt T q ss1 W ∧ fs.length + ss1.length ≤ q ∧ p ≤ q ∧ ∀ cs, preU cs ss X = preU cs ss1 (readU s (some (cl, mt)) q))
    (fun t x b W => ∃ ss1, MSt w0 w R s fs A1 c1 cl mt T b ss1 W ∧ fs.length + ss1.length + 1 ≤ b ∧ p ≤ b ∧ t.length ≤ s.size ∧ x ≤ s.size ∧ ∀ cs, preU cs ss X = preU cs ss1 (if t = [] then readU s none b else preU [] [(cl, mt, t, (x : Int))] (readU s (some (cl, mt)) b)))
    (fun W => ∃ q ss1, MSt w0 w R s fs A1 c1 cl mt T q ss1 W ∧ fs.length + ss1.length ≤ q ∧ p ≤ q ∧ ∀ cs, preU cs ss X = preU cs ss1 (readU s none q))
    (fun _ _ => False)
    (fun t x => { tmps := #[Value.pointer (some ⟨R, 0, none⟩), Value.string (mkB cl), Value.bool mt, Value.pointer (some ⟨T, 0, none⟩), Value.pointer (some ⟨T + 1, 0, none⟩), Value.pointer (some ⟨T + 1 + 1, 0, none⟩), Value.string (mkB t), Value.int .i64 (x : Int), Value.pointer (some ⟨R, 0, none⟩), Value.func (Fn.func 58) #[Value.pointer (some ⟨R, 0, none⟩)] #[], Value.string (mkB t), Value.int .i64 (x : Int), undef, undef, undef, undef, undef, undef, undef, undef, undef, undef, undef, undef, undef, undef, undef, undef, undef, undef, undef, undef, undef, undef, undef, undef, undef], defers := [] }) ?hJr ?hJk ?hYk ?hXk ?hYm ?hJs ⟨p, ss, h0, hl, Nat.le_refl _, fun cs => by rw [hX]⟩ ?has ?hbo ?hdo ?hre ?hpa
  case hJr =>
    rintro q W ⟨ss1, ⟨⟨A3, c3, hr⟩, hq, _⟩, _⟩
    exact ⟨hq, _, _, hr.rd⟩
  case hJk =>
    rintro q W W' ⟨ss1, hm1, hr⟩ hsp
    exact ⟨ss1, hm1.sp hsp hb2.size hsz, hr⟩
  case hYk =>
    rintro t x b W W' ⟨ss1, hm1, hr⟩ hsp
    exact ⟨ss1, hm1.sp hsp hb2.size hsz, hr⟩
  case hXk =>
    rintro W W' ⟨q, ss1, hm1, hr⟩ hsp
    exact ⟨q, ss1, hm1.sp hsp hb2.size hsz, hr⟩
  case hYm =>
    rintro t x b W ⟨ss1, ⟨⟨A3, c3, hr⟩, _⟩, _⟩
    exact maxAt_low hm hr.bel
  case hJs =>
    rintro q W t x b ⟨ss1, hm1, hl1, hpq, he⟩ hb3 hc
    have hcl := chunk_le hm1.2.1
    rw [hc] at hcl
    dsimp only at hcl
    refine ⟨ss1, hm1.go b hb3, by have := hcl.1; omega, by have := hcl.1; omega, hcl.2.2.2, hcl.2.2.1, fun cs => ?_⟩
    rw [he cs, readU_in hm1.2.1 hc]
    rfl
  case has =>
    intro l t x W K hK
    dsimp only
    gi_wp2
    exact hK
  case hdo =>
    rintro D W hD hdef ⟨q, x, b, ⟨ss1, hm1, hl1, hpq, he⟩, hc⟩
    have hq := hm1.2.1
    have hm2 := hm1.sp (.put hD hdef rfl (.deferred none)) hb2.size hsz
    have hx2 : X = .inr ((s.size : Int), 4) := by
      have e := he []
      rw [readU_in hq hc] at e
      cases X with
      | inl x => cases e
      | inr x => exact e
    obtain ⟨⟨A3, c3, hr⟩, _, ⟨k1, _, _⟩, _⟩ := hm1
    have f := cells4L hr.rd
    have g1 := one_cellL k1
    have hg := fun w' => giveUpK_any (.pointer (some ⟨R, 0, none⟩)) 4 (s.size : Int) w'
    show wpAt _ _ _ _ _ _ _ _
    refine wpAt_of (wpIn_wide.2 ?_)
    refine Code.wp_mono (Q := fun e a w' => e = .panic (faultK 4 (s.size : Int)) ∧ a.defers = [{ target := .collected D, args := #[] }] ∧ w' = W.drew) ?_ ?_
    · rintro e a w' ⟨rfl, hd, rfl⟩
      show LeavesInM _ _ _ _ _ _ a.defers _ _
      rw [hd]
      refine leavesM_one (D := D) (W := W.drew) hdef (by simp) ?_
      obtain ⟨⟨A3, c3, hr2⟩, _, _, hkp⟩ := hm2
      exact .inl ⟨_, hX.trans hx2, rfl, hr2.bel.drew, hkp⟩
    have hS : (fun w' : World => w'.cell? ⟨T, 0, none⟩ = some (.pointer (some ⟨R, 0, none⟩)) ∧ w'.cell? ⟨R, 2, none⟩ = some (.string s)) W.drew := ⟨g1.1, f.2.2.1⟩
    refine wp_region_held_drew (S := fun w' : World => w'.cell? ⟨T, 0, none⟩ = some (.pointer (some ⟨R, 0, none⟩)) ∧ w'.cell? ⟨R, 2, none⟩ = some (.string s)) (by kernel_rfl) hS (fun hHeld => ?_)
    clear hS
    refine wpAnyH_take (i := 0) (v := ?_) (by first | (simp only [List.getElem?_toArray, List.getElem?_cons_succ, List.getElem?_cons_zero]; rfl) | rfl) (by kernel_rfl) (by kernel_rfl) (by kernel_rfl) (fun _ _ _ h => by rw [put_defers] at h; exact h) (Or.inl ⟨by rfl, ?_⟩) (by assumption) ?_
    rotate_left 1
    · (intro w' hSw; (try dsimp only at hSw); go_simp; (try with_reducible rfl))
    try simp only [Act.put, List.setIfInBounds_toArray, List.set_cons_zero, List.set_cons_succ]
    refine wpAnyH_take (i := 1) (v := ?_) (by first | (simp only [List.getElem?_toArray, List.getElem?_cons_succ, List.getElem?_cons_zero]; rfl) | rfl) (by kernel_rfl) (by kernel_rfl) (by kernel_rfl) (fun _ _ _ h => by rw [put_defers] at h; exact h) (Or.inl ⟨by rfl, ?_⟩) (by assumption) ?_
    rotate_left 1
    · (intro w' hSw; (try dsimp only at hSw); go_simp; (try with_reducible rfl))
    try simp only [Act.put, List.setIfInBounds_toArray, List.set_cons_zero, List.set_cons_succ]
    refine wpAnyH_take (i := 2) (v := ?_) (by first | (simp only [List.getElem?_toArray, List.getElem?_cons_succ, List.getElem?_cons_zero]; rfl) | rfl) (by kernel_rfl) (by kernel_rfl) (by kernel_rfl) (fun _ _ _ h => by rw [put_defers] at h; exact h) (Or.inl ⟨by rfl, ?_⟩) (by assumption) ?_
    rotate_left 1
    · (intro w' hSw; (try dsimp only at hSw); go_simp; (try with_reducible rfl))
    try simp only [Act.put, List.setIfInBounds_toArray, List.set_cons_zero, List.set_cons_succ]
    refine wpAnyH_take (i := 3) (v := ?_) (by first | (simp only [List.getElem?_toArray, List.getElem?_cons_succ, List.getElem?_cons_zero]; rfl) | rfl) (by kernel_rfl) (by kernel_rfl) (by kernel_rfl) (fun _ _ _ h => by rw [put_defers] at h; exact h) (Or.inl ⟨by rfl, ?_⟩) (by assumption) ?_
    rotate_left 1
    · (intro w' hSw; (try dsimp only at hSw); go_simp; (try with_reducible rfl))
    try simp only [Act.put, List.setIfInBounds_toArray, List.set_cons_zero, List.set_cons_succ]
    refine wpAnyH_take (i := 4) (v := ?_) (by first | (simp only [List.getElem?_toArray, List.getElem?_cons_succ, List.getElem?_cons_zero]; rfl) | rfl) (by kernel_rfl) (by kernel_rfl) (by kernel_rfl) (fun _ _ _ h => by rw [put_defers] at h; exact h) (Or.inl ⟨by rfl, ?_⟩) (by assumption) ?_
    rotate_left 1
    · (intro w' hSw; (try dsimp only at hSw); go_simp; (try with_reducible rfl))
    try simp only [Act.put, List.setIfInBounds_toArray, List.set_cons_zero, List.set_cons_succ]
    refine wpAnyH_take (i := 5) (v := ?_) (by first | (simp only [List.getElem?_toArray, List.getElem?_cons_succ, List.getElem?_cons_zero]; rfl) | rfl) (by kernel_rfl) (by kernel_rfl) (by kernel_rfl) (fun _ _ _ h => by rw [put_defers] at h; exact h) (Or.inl ⟨by rfl, ?_⟩) (by assumption) ?_
    rotate_left 1
    · (intro w' hSw; (try dsimp only at hSw); go_simp; (try with_reducible rfl))
    try simp only [Act.put, List.setIfInBounds_toArray, List.set_cons_zero, List.set_cons_succ]
    refine wpAnyH_ready (rs := [6]) (by kernel_rfl) (by simp) ?_
    refine AllReadyH.cons (by first | (simp only [List.getElem?_toArray, List.getElem?_cons_succ, List.getElem?_cons_zero]; rfl) | rfl) (fun K hK => ?_) AllReadyH.nil
    go_simp
    refine (hg _).mono ?_
    rintro e w' ⟨rfl, rfl⟩
    first | exact rfl | exact ⟨rfl, rfl⟩ | trivial
  case hre =>
    rintro D W hD hdef ⟨q, ss1, hm1, hl1, hpq, he⟩
    obtain ⟨⟨A3, c3, hr⟩, hq, _, hkp⟩ := hm1.sp (.put hD hdef rfl (.deferred none)) hb2.size hsz
    show LeavesInM _ _ _ _ _ _ [{ target := .collected D, args := #[] }] _ _
    refine leavesM_one hdef (by simp) ?_
    exact ⟨.tuple #[], results_none rfl _ _ _, .inr ⟨q, ss1, A3, c3, rfl, hr, hpq, hq, hl1, fun cs => by rw [hX]; exact he cs, hkp⟩⟩
  case hpa =>
    rintro D W ch hD hdef (hf | ⟨q, t, x, b, ⟨ss1, hm1, hl1, hpq, he⟩, hc, ht, rfl⟩)
    · exact hf.elim
    have hq := hm1.2.1
    obtain ⟨⟨A3, c3, hr⟩, _, _, hkp⟩ := hm1.sp (.put hD hdef rfl (.deferred none)) hb2.size hsz
    have hx2 : X = .inr ((x : Int), 4) := by
      have e := he []
      rw [readU_in hq hc, if_pos rfl, if_neg ht] at e
      cases X with
      | inl x => cases e
      | inr x => exact e
    show LeavesInM _ _ _ _ _ _ [{ target := .collected D, args := #[] }] _ _
    refine leavesM_one hdef (by simp) ?_
    exact .inl ⟨_, hX.trans hx2, rfl, hr.bel, hkp⟩
  case hbo =>
    rintro l t x b W ⟨ss1, hm1, hl1, hpb, htl, hxl, he⟩
    dsimp only
    obtain ⟨⟨A3, c3, hr⟩, hq, ⟨k1, k2, k3⟩, hkp⟩ := hm1
    by_cases ht : t = []
    · have htb : (t == []) = true := by rw [ht]; rfl
      gi_wp2
      refine ⟨⟨b, ss1, ⟨⟨A3, c3, hr⟩, hq, ⟨k1, k2, k3⟩, hkp⟩, by omega, hpb, fun cs => ?_⟩, KpN.refl _⟩
      rw [he cs, if_pos ht]
    have htb : (t == []) = false := by rw [beq_eq_false_iff_ne]; exact ht
    gi_wp2
    have f := cells4L hr.rd
    have g1 := one_cellL k1
    have g2 := one_cellL k2
    have g3 := one_cellL k3
    have l1 := lt_of_blk k1
    have l2 := lt_of_blk k2
    have l3 := lt_of_blk k3
    have lR := lt_of_blk hr.rd
    have HBA := Lib.hid (show Below W.heap.size W (W.alloc (.cells #[.string (mkB cl), .bool mt, .string (mkB t), .int .i64 (x : Int)] 73)).drew from ((Below.refl _ _).alloc (Nat.le_refl _) _).drew)
    have HR1 := Lib.hid (sk__one (w := (W.alloc (.cells #[.string (mkB cl), .bool mt, .string (mkB t), .int .i64 (x : Int)] 73)).drew) (cl, mt, t, (x : Int)) (heap_alloc_new W (.cells #[.string (mkB cl), .bool mt, .string (mkB t), .int .i64 (x : Int)] 73)))
    have HB0 := Lib.hid (show w0.heap.size ≤ (W.alloc (.cells #[.string (mkB cl), .bool mt, .string (mkB t), .int .i64 (x : Int)] 73)).drew.heap.size from Nat.le_trans hr.bel.size HBA.out.size)
    have hS : (fun w' : World => w'.cell? ⟨T, 0, none⟩ = some (.pointer (some ⟨R, 0, none⟩)) ∧ w'.cell? ⟨T + 1, 0, none⟩ = some (.string (mkB cl)) ∧ w'.cell? ⟨T + 1 + 1, 0, none⟩ = some (.bool mt)) W.drew := ⟨g1.1, g2.1, g3.1⟩
    refine wpIn_round_heldH (S := (fun w' : World => w'.cell? ⟨T, 0, none⟩ = some (.pointer (some ⟨R, 0, none⟩)) ∧ w'.cell? ⟨T + 1, 0, none⟩ = some (.string (mkB cl)) ∧ w'.cell? ⟨T + 1 + 1, 0, none⟩ = some (.bool mt))) ?hdf (by kernel_rfl) hS (fun hHeld => ?_)
    case hdf => intro o ho; simp only [List.mem_cons, List.not_mem_nil, or_false] at ho; rcases ho with rfl | rfl | rfl | rfl | rfl | rfl | rfl | rfl | rfl | rfl | rfl | rfl | rfl | rfl | rfl | rfl | rfl <;> (intro c h; cases h)
    clear hS
    refine wpAnyH_take (i := 0) (v := ?_) (by first | (simp only [List.getElem?_toArray, List.getElem?_cons_succ, List.getElem?_cons_zero]; rfl) | rfl) (by kernel_rfl) (by kernel_rfl) (by kernel_rfl) (fun _ _ _ h => (by cases h.1)) (Or.inl ⟨by rfl, ?_⟩) (by assumption) ?_
    rotate_left 1
    · (intro w' hSw; (try dsimp only at hSw); go_simp; (try with_reducible rfl))
    try simp only [Act.put, List.setIfInBounds_toArray, List.set_cons_zero, List.set_cons_succ]
    refine wpAnyH_take (i := 1) (v := ?_) (by first | (simp only [List.getElem?_toArray, List.getElem?_cons_succ, List.getElem?_cons_zero]; rfl) | rfl) (by kernel_rfl) (by kernel_rfl) (by kernel_rfl) (fun _ _ _ h => (by cases h.1)) (Or.inl ⟨by rfl, ?_⟩) (by assumption) ?_
    rotate_left 1
    · (intro w' hSw; (try dsimp only at hSw); go_simp; (try with_reducible rfl))
    try simp only [Act.put, List.setIfInBounds_toArray, List.set_cons_zero, List.set_cons_succ]
    refine wpAnyH_take (i := 2) (v := ?_) (by first | (simp only [List.getElem?_toArray, List.getElem?_cons_succ, List.getElem?_cons_zero]; rfl) | rfl) (by kernel_rfl) (by kernel_rfl) (by kernel_rfl) (fun _ _ _ h => (by cases h.1)) (Or.inl ⟨by rfl, ?_⟩) (by assumption) ?_
    rotate_left 1
    · (intro w' hSw; (try dsimp only at hSw); go_simp; (try with_reducible rfl))
    try simp only [Act.put, List.setIfInBounds_toArray, List.set_cons_zero, List.set_cons_succ]
    refine wpAnyH_take (i := 3) (v := ?_) (by first | (simp only [List.getElem?_toArray, List.getElem?_cons_succ, List.getElem?_cons_zero]; rfl) | rfl) (by kernel_rfl) (by kernel_rfl) (by kernel_rfl) (fun _ _ _ h => (by cases h.1)) (Or.inl ⟨by rfl, ?_⟩) (by assumption) ?_
    rotate_left 1
    · (intro w' hSw; (try dsimp only at hSw); go_simp; (try with_reducible rfl))
    try simp only [Act.put, List.setIfInBounds_toArray, List.set_cons_zero, List.set_cons_succ]
    refine wpAnyH_take (i := 4) (v := ?_) (by first | (simp only [List.getElem?_toArray, List.getElem?_cons_succ, List.getElem?_cons_zero]; rfl) | rfl) (by kernel_rfl) (by kernel_rfl) (by kernel_rfl) (fun _ _ _ h => (by cases h.1)) (Or.inl ⟨by rfl, ?_⟩) (by assumption) ?_
    rotate_left 1
    · (intro w' hSw; (try dsimp only at hSw); go_simp; (try with_reducible rfl))
    try simp only [Act.put, List.setIfInBounds_toArray, List.set_cons_zero, List.set_cons_succ]
    refine wpAnyH_take (i := 6) (v := ?_) (by first | (simp only [List.getElem?_toArray, List.getElem?_cons_succ, List.getElem?_cons_zero]; rfl) | rfl) (by kernel_rfl) (by kernel_rfl) (by kernel_rfl) (fun _ _ _ h => (by cases h.1)) (Or.inl ⟨by rfl, ?_⟩) (by assumption) ?_
    rotate_left 1
    · (intro w' hSw; (try dsimp only at hSw); go_simp; (try with_reducible rfl))
    try simp only [Act.put, List.setIfInBounds_toArray, List.set_cons_zero, List.set_cons_succ]
    refine wpAnyH_take (i := 7) (v := ?_) (by first | (simp only [List.getElem?_toArray, List.getElem?_cons_succ, List.getElem?_cons_zero]; rfl) | rfl) (by kernel_rfl) (by kernel_rfl) (by kernel_rfl) (fun _ _ _ h => (by cases h.1)) (Or.inl ⟨by rfl, ?_⟩) (by assumption) ?_
    rotate_left 1
    · (intro w' hSw; (try dsimp only at hSw); go_simp; (try with_reducible rfl))
    try simp only [Act.put, List.setIfInBounds_toArray, List.set_cons_zero, List.set_cons_succ]
    refine wpAnyH_take (i := 8) (v := ?_) (by first | (simp only [List.getElem?_toArray, List.getElem?_cons_succ, List.getElem?_cons_zero]; rfl) | rfl) (by kernel_rfl) (by kernel_rfl) (by kernel_rfl) (fun _ _ _ h => (by cases h.1)) (Or.inl ⟨by rfl, ?_⟩) (by assumption) ?_
    rotate_left 1
    · (intro w' hSw; (try dsimp only at hSw); go_simp; (try with_reducible rfl))
    try simp only [Act.put, List.setIfInBounds_toArray, List.set_cons_zero, List.set_cons_succ]
    refine wpAnyH_take (i := 9) (v := ?_) (by first | (simp only [List.getElem?_toArray, List.getElem?_cons_succ, List.getElem?_cons_zero]; rfl) | rfl) (by kernel_rfl) (by kernel_rfl) (by kernel_rfl) (fun _ _ _ h => (by cases h.1)) (Or.inl ⟨by rfl, ?_⟩) (by assumption) ?_
    rotate_left 1
    · (intro w' hSw; (try dsimp only at hSw); go_simp; (try with_reducible rfl))
    try simp only [Act.put, List.setIfInBounds_toArray, List.set_cons_zero, List.set_cons_succ]
    refine wpAnyH_take (i := 10) (v := ?_) (by first | (simp only [List.getElem?_toArray, List.getElem?_cons_succ, List.getElem?_cons_zero]; rfl) | rfl) (by kernel_rfl) (by kernel_rfl) (by kernel_rfl) (fun _ _ _ h => (by cases h.1)) (Or.inl ⟨by rfl, ?_⟩) (by assumption) ?_
    rotate_left 1
    · (intro w' hSw; (try dsimp only at hSw); go_simp; (try with_reducible rfl))
    try simp only [Act.put, List.setIfInBounds_toArray, List.set_cons_zero, List.set_cons_succ]
    refine wpAnyH_ready (rs := [5, 11]) (by kernel_rfl) (by simp) ?_
    refine AllReadyH.cons (by first | (simp only [List.getElem?_toArray, List.getElem?_cons_succ, List.getElem?_cons_zero]; rfl) | rfl) (fun K hK => ?_) (AllReadyH.cons (by first | (simp only [List.getElem?_toArray, List.getElem?_cons_succ, List.getElem?_cons_zero]; rfl) | rfl) (fun K hK => ?_) AllReadyH.nil)
    ·
      go_simp
      refine hK.out _ _ ⟨g1.1, g2.1, g3.1⟩ (fun hHeld => ?_)
      clear hK K
      try simp only [Act.put, List.setIfInBounds_toArray, List.set_cons_zero, List.set_cons_succ]
      refine wpAnyH_ready (rs := [11]) (by kernel_rfl) (by simp) ?_
      refine AllReadyH.cons (by first | (simp only [List.getElem?_toArray, List.getElem?_cons_succ, List.getElem?_cons_zero]; rfl) | rfl) (fun K hK => ?_) AllReadyH.nil
      go_simp
      show K _ (W.alloc (.cells #[.string (mkB cl), .bool mt, .string (mkB t), .int .i64 (x : Int)] 73)).drew
      refine hK.out _ _ ⟨(HBA.out.cell (p := ⟨T, 0, none⟩) l1).trans g1.1, (HBA.out.cell (p := ⟨T + 1, 0, none⟩) l2).trans g2.1, (HBA.out.cell (p := ⟨T + 1 + 1, 0, none⟩) l3).trans g3.1⟩ (fun hHeld => ?_)
      clear hK K
      try simp only [Act.put, List.setIfInBounds_toArray, List.set_cons_zero, List.set_cons_succ]
      refine wpAnyH_ready (rs := [12]) (by kernel_rfl) (by simp) ?_
      refine AllReadyH.cons (by first | (simp only [List.getElem?_toArray, List.getElem?_cons_succ, List.getElem?_cons_zero]; rfl) | rfl) (fun K hK => ?_) AllReadyH.nil
      refine step_append_xk (base := w0.heap.size) (v := .slice A3 ss1.length c3) (xs := ss1) (news := [(cl, mt, t, (x : Int))]) rfl _ _ rfl rfl rfl (hr.below HBA.out).ownX HR1.out (fun h => by cases h) (by simp [sk_, Value.oneCell']) (by omega) (by simp) HB0.out ?_
      intro A4 t4 c4 w4 HT4 HO4 HB4
      have k4 : ∀ j : Nat, j < W.heap.size → some j ≠ (Value.slice A3 ss1.length c3).ownBlock → w4.heap[j]? = W.heap[j]? := fun j hj hne => (HB4.out.2.1 j (Nat.lt_of_lt_of_le hj HBA.out.size) hne).trans (HBA.out.block j hj)
      have n1 := (k4 T l1 (own_ne hr.ownX k1 (by decide)).symm).trans k1
      have n2 := (k4 (T + 1) l2 (own_ne hr.ownX k2 (by decide)).symm).trans k2
      have n3 := (k4 (T + 1 + 1) l3 (own_ne hr.ownX k3 (by decide)).symm).trans k3
      have nR := (k4 R lR (own_ne hr.ownX hr.rd (by decide)).symm).trans hr.rd
      refine hK.out _ _ ⟨(one_cellL n1).1, (one_cellL n2).1, (one_cellL n3).1⟩ (fun hHeld => ?_)
      clear hK K
      try simp only [Act.put, List.setIfInBounds_toArray, List.set_cons_zero, List.set_cons_succ]
      refine wpAnyH_take (i := 13) (v := ?_) (by first | (simp only [List.getElem?_toArray, List.getElem?_cons_succ, List.getElem?_cons_zero]; rfl) | rfl) (by kernel_rfl) (by kernel_rfl) (by kernel_rfl) (fun _ _ _ h => (by cases h.1)) (Or.inl ⟨by rfl, ?_⟩) (by assumption) ?_
      rotate_left 1
      · (intro w' hSw; (try dsimp only at hSw); go_simp; (try with_reducible rfl))
      try simp only [Act.put, List.setIfInBounds_toArray, List.set_cons_zero, List.set_cons_succ]
      refine wpAnyH_take (i := 14) (v := ?_) (by first | (simp only [List.getElem?_toArray, List.getElem?_cons_succ, List.getElem?_cons_zero]; rfl) | rfl) (by kernel_rfl) (by kernel_rfl) (by kernel_rfl) (fun _ _ _ h => (by cases h.1)) (Or.inl ⟨by rfl, ?_⟩) (by assumption) ?_
      rotate_left 1
      · (intro w' hSw; (try dsimp only at hSw); go_simp; (try with_reducible rfl))
      try simp only [Act.put, List.setIfInBounds_toArray, List.set_cons_zero, List.set_cons_succ]
      refine wpAnyH_take (i := 15) (v := ?_) (by first | (simp only [List.getElem?_toArray, List.getElem?_cons_succ, List.getElem?_cons_zero]; rfl) | rfl) (by kernel_rfl) (by kernel_rfl) (by kernel_rfl) (fun _ _ _ h => (by cases h.1)) (Or.inl ⟨by rfl, ?_⟩) (by assumption) ?_
      rotate_left 1
      · (intro w' hSw; (try dsimp only at hSw); go_simp; (try with_reducible rfl))
      try simp only [Act.put, List.setIfInBounds_toArray, List.set_cons_zero, List.set_cons_succ]
      have hadd := hr.addX HBA.out HO4.out HB4.out
      have hkp2 : KpN W (w4.setCell ⟨R, 1, none⟩ (.slice A4 t4.length c4)) := (KpN.below HBA.out).trans ((KpN.app (hr.below HBA.out).ownX HB4.out).trans (KpN.set nR _))
      have m1 := (Below.heap_setCell w4 ⟨R, 1, none⟩ (.slice A4 t4.length c4) T (otherL k1 hr.rd (by decide))).trans n1
      have m2 := (Below.heap_setCell w4 ⟨R, 1, none⟩ (.slice A4 t4.length c4) (T + 1) (otherL k2 hr.rd (by decide))).trans n2
      have m3 := (Below.heap_setCell w4 ⟨R, 1, none⟩ (.slice A4 t4.length c4) (T + 1 + 1) (otherL k3 hr.rd (by decide))).trans n3
      have f4 := cells4L nR
      refine wpAnyH_ready (rs := [16]) (by kernel_rfl) (by simp) ?_
      refine AllReadyH.cons (by first | (simp only [List.getElem?_toArray, List.getElem?_cons_succ, List.getElem?_cons_zero]; rfl) | rfl) (fun K hK => ?_) AllReadyH.nil
      go_simp
      refine hK.out _ _ ⟨(one_cellL m1).1, (one_cellL m2).1, (one_cellL m3).1⟩ (fun _ => ?_)
      refine wpAnyH_done (by kernel_rfl) ⟨rfl, ?_⟩ _
      refine ⟨⟨b, Nat.le_refl _, t4, ⟨⟨A4, c4, hadd⟩, hq, ⟨m1, m2, m3⟩, hkp.trans hkp2⟩, ?_, hpb, fun cs => ?_⟩, hkp2⟩
      · rw [HT4.out, List.length_append, List.length_singleton]; omega
      · rw [he cs, if_neg ht, preU_pre, List.append_nil, HT4.out]
    ·
      go_simp
      show K _ (W.alloc (.cells #[.string (mkB cl), .bool mt, .string (mkB t), .int .i64 (x : Int)] 73)).drew
      refine hK.out _ _ ⟨(HBA.out.cell (p := ⟨T, 0, none⟩) l1).trans g1.1, (HBA.out.cell (p := ⟨T + 1, 0, none⟩) l2).trans g2.1, (HBA.out.cell (p := ⟨T + 1 + 1, 0, none⟩) l3).trans g3.1⟩ (fun hHeld => ?_)
      clear hK K
      try simp only [Act.put, List.setIfInBounds_toArray, List.set_cons_zero, List.set_cons_succ]
      refine wpAnyH_ready (rs := [5]) (by kernel_rfl) (by simp) ?_
      refine AllReadyH.cons (by first | (simp only [List.getElem?_toArray, List.getElem?_cons_succ, List.getElem?_cons_zero]; rfl) | rfl) (fun K hK => ?_) AllReadyH.nil
      go_simp
      refine hK.out _ _ ⟨(HBA.out.cell (p := ⟨T, 0, none⟩) l1).trans g1.1, (HBA.out.cell (p := ⟨T + 1, 0, none⟩) l2).trans g2.1, (HBA.out.cell (p := ⟨T + 1 + 1, 0, none⟩) l3).trans g3.1⟩ (fun hHeld => ?_)
      clear hK K
      try simp only [Act.put, List.setIfInBounds_toArray, List.set_cons_zero, List.set_cons_succ]
      refine wpAnyH_ready (rs := [12]) (by kernel_rfl) (by simp) ?_
      refine AllReadyH.cons (by first | (simp only [List.getElem?_toArray, List.getElem?_cons_succ, List.getElem?_cons_zero]; rfl) | rfl) (fun K hK => ?_) AllReadyH.nil
      refine step_append_xk (base := w0.heap.size) (v := .slice A3 ss1.length c3) (xs := ss1) (news := [(cl, mt, t, (x : Int))]) rfl _ _ rfl rfl rfl (hr.below HBA.out).ownX HR1.out (fun h => by cases h) (by simp [sk_, Value.oneCell']) (by omega) (by simp) HB0.out ?_
      intro A4 t4 c4 w4 HT4 HO4 HB4
      have k4 : ∀ j : Nat, j < W.heap.size → some j ≠ (Value.slice A3 ss1.length c3).ownBlock → w4.heap[j]? = W.heap[j]? := fun j hj hne => (HB4.out.2.1 j (Nat.lt_of_lt_of_le hj HBA.out.size) hne).trans (HBA.out.block j hj)
      have n1 := (k4 T l1 (own_ne hr.ownX k1 (by decide)).symm).trans k1
      have n2 := (k4 (T + 1) l2 (own_ne hr.ownX k2 (by decide)).symm).trans k2
      have n3 := (k4 (T + 1 + 1) l3 (own_ne hr.ownX k3 (by decide)).symm).trans k3
      have nR := (k4 R lR (own_ne hr.ownX hr.rd (by decide)).symm).trans hr.rd
      refine hK.out _ _ ⟨(one_cellL n1).1, (one_cellL n2).1, (one_cellL n3).1⟩ (fun hHeld => ?_)
      clear hK K
      try simp only [Act.put, List.setIfInBounds_toArray, List.set_cons_zero, List.set_cons_succ]
      refine wpAnyH_take (i := 13) (v := ?_) (by first | (simp only [List.getElem?_toArray, List.getElem?_cons_succ, List.getElem?_cons_zero]; rfl) | rfl) (by kernel_rfl) (by kernel_rfl) (by kernel_rfl) (fun _ _ _ h => (by cases h.1)) (Or.inl ⟨by rfl, ?_⟩) (by assumption) ?_
      rotate_left 1
      · (intro w' hSw; (try dsimp only at hSw); go_simp; (try with_reducible rfl))
      try simp only [Act.put, List.setIfInBounds_toArray, List.set_cons_zero, List.set_cons_succ]
      refine wpAnyH_take (i := 14) (v := ?_) (by first | (simp only [List.getElem?_toArray, List.getElem?_cons_succ, List.getElem?_cons_zero]; rfl) | rfl) (by kernel_rfl) (by kernel_rfl) (by kernel_rfl) (fun _ _ _ h => (by cases h.1)) (Or.inl ⟨by rfl, ?_⟩) (by assumption) ?_
      rotate_left 1
      · (intro w' hSw; (try dsimp only at hSw); go_simp; (try with_reducible rfl))
      try simp only [Act.put, List.setIfInBounds_toArray, List.set_cons_zero, List.set_cons_succ]
      refine wpAnyH_take (i := 15) (v := ?_) (by first | (simp only [List.getElem?_toArray, List.getElem?_cons_succ, List.getElem?_cons_zero]; rfl) | rfl) (by kernel_rfl) (by kernel_rfl) (by kernel_rfl) (fun _ _ _ h => (by cases h.1)) (Or.inl ⟨by rfl, ?_⟩) (by assumption) ?_
      rotate_left 1
      · (intro w' hSw; (try dsimp only at hSw); go_simp; (try with_reducible rfl))
      try simp only [Act.put, List.setIfInBounds_toArray, List.set_cons_zero, List.set_cons_succ]
      have hadd := hr.addX HBA.out HO4.out HB4.out
      have hkp2 : KpN W (w4.setCell ⟨R, 1, none⟩ (.slice A4 t4.length c4)) := (KpN.below HBA.out).trans ((KpN.app (hr.below HBA.out).ownX HB4.out).trans (KpN.set nR _))
      have m1 := (Below.heap_setCell w4 ⟨R, 1, none⟩ (.slice A4 t4.length c4) T (otherL k1 hr.rd (by decide))).trans n1
      have m2 := (Below.heap_setCell w4 ⟨R, 1, none⟩ (.slice A4 t4.length c4) (T + 1) (otherL k2 hr.rd (by decide))).trans n2
      have m3 := (Below.heap_setCell w4 ⟨R, 1, none⟩ (.slice A4 t4.length c4) (T + 1 + 1) (otherL k3 hr.rd (by decide))).trans n3
      have f4 := cells4L nR
      refine wpAnyH_ready (rs := [16]) (by kernel_rfl) (by simp) ?_
      refine AllReadyH.cons (by first | (simp only [List.getElem?_toArray, List.getElem?_cons_succ, List.getElem?_cons_zero]; rfl) | rfl) (fun K hK => ?_) AllReadyH.nil
      go_simp
      refine hK.out _ _ ⟨(one_cellL m1).1, (one_cellL m2).1, (one_cellL m3).1⟩ (fun _ => ?_)
      refine wpAnyH_done (by kernel_rfl) ⟨rfl, ?_⟩ _
      refine ⟨⟨b, Nat.le_refl _, t4, ⟨⟨A4, c4, hadd⟩, hq, ⟨m1, m2, m3⟩, hkp.trans hkp2⟩, ?_, hpb, fun cs => ?_⟩, hkp2⟩
      · rw [HT4.out, List.length_append, List.length_singleton]; omega
      · rw [he cs, if_neg ht, preU_pre, List.append_nil, HT4.out]
end Go.Proofs.YtmdkneollidkfaaGreatDoor.Fl

/-
  The program's define: a class, or a header with the texts below it.
-/
namespace Go.Proofs.YtmdkneollidkfaaGreatDoor.Fl
open Go.RowKit Go.Shelf

def defU (s : ByteArray) (t : List UInt8) (a b : Nat) : UnitR := match allW (mkB t) 0 with
  | .inr e => .inr ((a : Int), e.1)
  | .inl l => match clsR l (a : Int) with
    | some c => preU [c] [] (readU s none b)
    | none => match headL l with
      | some h => readU s (some h) b
      | none => .inr ((a : Int), 3)
def DefPost (w0 : World) (R : Nat) (s : ByteArray) (t : List UInt8) (a b : Nat) (fs : List (Cls × Value)) (ss : List Src) (w : World) (e : Ending) (w' : World) : Prop :=
  (∃ at_ n : Int, defU s t a b = .inr (at_, n) ∧ e = .panicked (faultK n at_) ∧ Below w0.heap.size w0 w' ∧ KpN w w') ∨
  (∃ (q : Nat) (fs' : List (Cls × Value)) (ss' : List Src) (A3 : Option Addr) (c3 : Nat) (A4 : Option Addr) (c4 : Nat), e = .returned (.tuple #[]) ∧ RkW w0 w' R s q fs' ss' A3 c3 A4 c4 ∧ b ≤ q ∧ q ≤ s.size ∧ fs'.length + ss'.length ≤ q ∧
    preU (fs.map (fun x => x.1)) ss (defU s t a b) = preU (fs'.map (fun x => x.1)) ss' (readU s none q) ∧ KpN w w')
theorem rd_cells {w : World} {g : Nat} {arr : Array Value} {T : TypeId} (h : w.heap[g]? = some (.cells arr T (0, 0))) : Rd w w.heap.size (some ⟨g, 0, none⟩) arr.toList := by
  refine .inr ⟨g, 0, rfl, lt_of_blk h, fun j v hj => ?_⟩
  rw [Nat.zero_add]
  have hj' : arr[j]? = some v := by rw [← Array.getElem?_toList]; exact hj
  unfold World.cell?
  simp [h, hj']
theorem fitsR_cons {xs ys : List Tok} (h : fitsR xs ys = true) : ∃ a l, xs = a :: l := by
  cases xs with
  | nil => unfold fitsR at h; simp at h
  | cons a l => exact ⟨a, l, rfl⟩
theorem classL_some {l : List Tok} {nm sp ft : List UInt8} (h : classL l = some (nm, sp, ft)) : ∃ k0 n0 q0 k1 w1 n1 q1 k2 n2 q2 k3 w3 n3 q3 k4 n4 q4 z, l = [(k0, sp, n0, q0), (k1, w1, n1, q1), (k2, nm, n2, q2), (k3, w3, n3, q3), (k4, ft, n4, q4), z] ∧ k0 = 1 := by
  match l, h with
  | [(k0, w0, n0, q0), (k1, w1, n1, q1), (k2, w2, n2, q2), (k3, w3, n3, q3), (k4, w4, n4, q4), z], h =>
    rw [classL] at h
    split at h
    · next hc =>
      injection h with h
      injection h with h1 h2
      injection h2 with h2 h3
      dsimp only at h1 h2 h3
      subst h1 h2 h3
      exact ⟨k0, n0, q0, k1, w1, n1, q1, k2, n2, q2, k3, w3, n3, q3, k4, n4, q4, z, rfl, hc.1⟩
    · cases h
set_option maxRecDepth 100000 in
set_option maxHeartbeats 8000000 in
theorem defineK_any (w0 w : World) (R : Nat) (s : ByteArray) (hs : s.size ≤ 16777216) (t : List UInt8) (a b : Nat) (fs : List (Cls × Value)) (ss : List Src) (A1 : Option Addr) (c1 : Nat) (A2 : Option Addr) (c2 : Nat)
    (h : RkW w0 w R s b fs ss A1 c1 A2 c2) (hb : b ≤ s.size) (hl : fs.length + ss.length + 1 ≤ b) (ht : t.length ≤ 16777216) (hm : MaxAt w0) (hE : ∀ w', Below w0.heap.size w0 w' → EnvL w') :
    Calls Tryz.prog 59 #[.pointer (some ⟨R, 0, none⟩), .string (mkB t), .int .i64 (a : Int)] w (DefPost w0 R s t a b fs ss w) := by
  have hall := all_any (mkB t) w (by rw [mkB_size]; exact ht) (maxAt_low hm h.bel) (fun w' hw => hE w' (h.bel.trans (hw.mono h.bel.size)))
  obtain ⟨U, hU⟩ : ∃ U, defU s t a b = U := ⟨_, rfl⟩
  have HU := Lib.hid hU
  have HRk := Lib.hid h
  unfold defU at hU
  clear h
  go_enter Tryz.func59, Tryz.ntmps59
  have hg := fun (n at_ : Int) w' => giveUpK_any (.pointer (some ⟨R, 0, none⟩)) n at_ w'
  go_wp2_with fail
  refine hall.mono ?_
  rintro e w1 ⟨hb1, (⟨l, A, c, hr, rfl, hown⟩ | ⟨n, q, hr, hq, rfl⟩)⟩
  case inr =>
    rw [hr] at hU
    dsimp only at hU
    have hn0 := allW_err hr
    have hnb : (n != 0) = true := by rw [bne_iff_ne]; exact hn0
    have HB1 := Lib.hid (And.intro (HRk.out.bel.trans (hb1.mono HRk.out.bel.size)) (KpN.below hb1))
    have HU3 := Lib.hid hU
    clear hall hU hr hb1
    go_wp2_with fail
    refine (hg _ _ _).mono ?_
    rintro e w' ⟨rfl, rfl⟩
    exact ⟨rfl, .inl ⟨_, _, HU.out.trans HU3.out.symm, rfl, HB1.out.1, HB1.out.2⟩⟩
  have HU2 := Lib.hid (show (match clsR l (a : Int) with | some c => preU [c] [] (readU s none b) | none => match headL l with | some h => readU s (some h) b | none => .inr ((a : Int), 3)) = U by rw [hr] at hU; exact hU)
  clear hU hall
  have HRk1 := Lib.hid (HRk.out.below hb1)
  have HK1 := Lib.hid (KpN.below hb1)
  have hnw : ∀ x ∈ l, x.2.1.length ≤ 4096 := allW_wd (Nat.zero_le _) hr
  have hnm : ∀ x ∈ l, x.1 = 1 → arityL (mkB x.2.1) = 0 := allW_name (Nat.zero_le _) hr
  have HOwn := Lib.hid hown
  have hrd := ownK_rd hown
  have hlc : l.length ≤ c := by
    rcases hown.2 with ⟨e1, e2⟩ | ⟨g, cap, cur, e1, hbg, hgc, hc, _⟩
    · omega
    · injection e1 with _ _ e3; omega
  have HL := Lib.hid (And.intro hnw hnm)
  clear hown hr hnw hnm HRk hb1
  have hn1 := fun (x : ByteArray) w' => nameK_any x w'
  have hk1 := fun (x : ByteArray) w' => keywordK_any x w'
  go_wp2_with fail
  refine (hn1 _ _).mono ?_
  rintro e w2 ⟨rfl, hb2⟩
  go_wp2_with fail
  refine (hk1 _ _).mono ?_
  rintro e w3 ⟨rfl, hb3⟩
  go_wp2_with fail
  refine (hk1 _ _).mono ?_
  rintro e w4 ⟨rfl, hb4⟩
  have hB4 : Below w1.heap.size w1 w4 := hb2.trans ((hb3.trans (hb4.mono hb3.size)).mono hb2.size)
  have hB5 : Below w1.heap.size w1 (w4.alloc (.cells #[.int .i64 1, .string ⟨#[]⟩, .int .i64 0, .int .i64 0, .int .i64 2, .string ⟨#[115, 117, 98, 99, 108, 97, 115, 115, 58]⟩, .int .i64 0, .int .i64 0, .int .i64 5, .string ⟨#[]⟩, .int .i64 0, .int .i64 0, .int .i64 2, .string ⟨#[102, 105, 101, 108, 100, 115, 58]⟩, .int .i64 0, .int .i64 0, .int .i64 4, .string ⟨#[]⟩, .int .i64 0, .int .i64 0] 143)) := hB4.alloc hB4.size _
  have hf5 := fits_any l [(1, [], 0, 0), (2, subL, 0, 0), (5, [], 0, 0), (2, fldL, 0, 0), (4, [], 0, 0)] A (some ⟨w4.heap.size, 0, none⟩) c 5 w1.heap.size _ _ (hrd.below hB5 (Nat.le_refl _)) (rd_cells (heap_alloc_new w4 (.cells #[.int .i64 1, .string ⟨#[]⟩, .int .i64 0, .int .i64 0, .int .i64 2, .string ⟨#[115, 117, 98, 99, 108, 97, 115, 115, 58]⟩, .int .i64 0, .int .i64 0, .int .i64 5, .string ⟨#[]⟩, .int .i64 0, .int .i64 0, .int .i64 2, .string ⟨#[102, 105, 101, 108, 100, 115, 58]⟩, .int .i64 0, .int .i64 0, .int .i64 4, .string ⟨#[]⟩, .int .i64 0, .int .i64 0] 143))) hB5.size (Nat.le_refl _) hlc (by simp) (by simp)
  rw [fits_class] at hf5
  clear hb2 hb3 hb4 hB4
  cases hC : classL l
  case some d =>
    rw [hC] at hf5
    go_wp2_with fail
    refine hf5.mono ?_
    rintro e w5 ⟨rfl, hb6⟩
    obtain ⟨nm, sp, ft⟩ := d
    obtain ⟨k0, n0, q0, k1, y1, n1, q1, k2, n2, q2, k3, y3, n3, q3, k4, n4, q4, z, rfl, rfl⟩ := classL_some hC
    have hb5w : Below w1.heap.size w1 w5 := hB5.trans (hb6.mono hB5.size)
    have hw1 := HL.out.1 _ (List.mem_cons_self ..)
    have hw3 := HL.out.1 (k2, nm, n2, q2) (by simp)
    have hw5 := HL.out.1 (k4, ft, n4, q4) (by simp)
    have hasp := HL.out.2 _ (List.mem_cons_self ..) rfl
    dsimp only at hw1 hw3 hw5 hasp
    have hcls := isClass_cls (nm := nm) (ft := ft) hasp
    have HU4 : Hid ((if clsOk nm ft = true then preU [(nm, supN sp, wordsA [] ft, (a : Int))] [] (readU s none b) else .inr ((a : Int), 3)) = U) := Lib.hid (by
      have e := HU2.out
      unfold clsR at e
      rw [hC] at e
      dsimp only at e
      by_cases hk : clsOk nm ft = true
      · rw [if_pos hk] at e ⊢; exact e
      · rw [if_neg hk] at e ⊢; exact e)
    have HRk5 := Lib.hid (HRk1.out.below hb5w)
    have HK5 := Lib.hid (HK1.out.trans (KpN.below hb5w))
    rcases hrd with h0 | ⟨g, o, rfl, hgl, hc⟩
    · cases h0
    have d0 := (hb5w.cell (p := ⟨g, o + 1, none⟩) hgl).trans (hc 1 (.string ⟨sp.toArray⟩) rfl)
    have d2 := (hb5w.cell (p := ⟨g, o + 9, none⟩) hgl).trans (hc 9 (.string ⟨nm.toArray⟩) rfl)
    have d4 := (hb5w.cell (p := ⟨g, o + 17, none⟩) hgl).trans (hc 17 (.string ⟨ft.toArray⟩) rfl)
    have hsp := fun w' => splitK_any ⟨ft.toArray⟩ w' (by show ft.toArray.size ≤ _; simp; omega)
    have hlg : g < w5.heap.size := Nat.lt_of_lt_of_le hgl hb5w.size
    clear hf5 hB5 hb6 hc hC hn1 hk1
    go_upto_region 5 with fail
    refine Code.wp_mono (Q := fun e a' w' => a'.defers = [] ∧ ((e = .normal ∧ DefPost w0 R s t a b fs ss w (.returned (.tuple #[])) w') ∨ ∃ ch, e = .panic ch ∧ DefPost w0 R s t a b fs ss w (.panicked ch) w')) ?_ ?_
    · rintro e a' w' ⟨hd, ⟨rfl, hp⟩ | ⟨ch, rfl, hp⟩⟩
      · refine bodyPost_end (results_none rfl _ _ _) hd ?_
        exact hp
      · exact ⟨hd, hp⟩
    have hS : (fun w' : World => w'.cell? ⟨g, o + 1, none⟩ = some (.string ⟨sp.toArray⟩) ∧ w'.cell? ⟨g, o + 9, none⟩ = some (.string ⟨nm.toArray⟩) ∧ w'.cell? ⟨g, o + 17, none⟩ = some (.string ⟨ft.toArray⟩)) w5.drew := ⟨d0, d2, d4⟩
    refine wp_region_held_drew (S := fun w' : World => w'.cell? ⟨g, o + 1, none⟩ = some (.string ⟨sp.toArray⟩) ∧ w'.cell? ⟨g, o + 9, none⟩ = some (.string ⟨nm.toArray⟩) ∧ w'.cell? ⟨g, o + 17, none⟩ = some (.string ⟨ft.toArray⟩)) (by kernel_rfl) hS (fun hHeld => ?_)
    clear hS
    refine wpAnyH_take (i := 0) (v := ?_) (by first | (simp only [List.getElem?_toArray, List.getElem?_cons_succ, List.getElem?_cons_zero]; rfl) | rfl) (by kernel_rfl) (by kernel_rfl) (by kernel_rfl) (fun _ _ _ h => by rw [put_defers] at h; exact h) (Or.inl ⟨by rfl, ?_⟩) (by assumption) ?_
    rotate_left 1
    · (intro w' hSw; (try dsimp only at hSw); go_simp; (try with_reducible rfl))
    try simp only [Act.put, List.setIfInBounds_toArray, List.set_cons_zero, List.set_cons_succ]
    refine wpAnyH_take (i := 1) (v := ?_) (by first | (simp only [List.getElem?_toArray, List.getElem?_cons_succ, List.getElem?_cons_zero]; rfl) | rfl) (by kernel_rfl) (by kernel_rfl) (by kernel_rfl) (fun _ _ _ h => by rw [put_defers] at h; exact h) (Or.inl ⟨by rfl, ?_⟩) (by assumption) ?_
    rotate_left 1
    · (intro w' hSw; (try dsimp only at hSw); go_simp; (try with_reducible rfl))
    try simp only [Act.put, List.setIfInBounds_toArray, List.set_cons_zero, List.set_cons_succ]
    refine wpAnyH_take (i := 2) (v := ?_) (by first | (simp only [List.getElem?_toArray, List.getElem?_cons_succ, List.getElem?_cons_zero]; rfl) | rfl) (by kernel_rfl) (by kernel_rfl) (by kernel_rfl) (fun _ _ _ h => by rw [put_defers] at h; exact h) (Or.inl ⟨by rfl, ?_⟩) (by assumption) ?_
    rotate_left 1
    · (intro w' hSw; (try dsimp only at hSw); go_simp; (try with_reducible rfl))
    try simp only [Act.put, List.setIfInBounds_toArray, List.set_cons_zero, List.set_cons_succ]
    refine wpAnyH_take (i := 3) (v := ?_) (by first | (simp only [List.getElem?_toArray, List.getElem?_cons_succ, List.getElem?_cons_zero]; rfl) | rfl) (by kernel_rfl) (by kernel_rfl) (by kernel_rfl) (fun _ _ _ h => by rw [put_defers] at h; exact h) (Or.inl ⟨by rfl, ?_⟩) (by assumption) ?_
    rotate_left 1
    · (intro w' hSw; (try dsimp only at hSw); go_simp; (try with_reducible rfl))
    try simp only [Act.put, List.setIfInBounds_toArray, List.set_cons_zero, List.set_cons_succ]
    refine wpAnyH_take (i := 4) (v := ?_) (by first | (simp only [List.getElem?_toArray, List.getElem?_cons_succ, List.getElem?_cons_zero]; rfl) | rfl) (by kernel_rfl) (by kernel_rfl) (by kernel_rfl) (fun _ _ _ h => by rw [put_defers] at h; exact h) (Or.inl ⟨by rfl, ?_⟩) (by assumption) ?_
    rotate_left 1
    · (intro w' hSw; (try dsimp only at hSw); go_simp; (try with_reducible rfl))
    try simp only [Act.put, List.setIfInBounds_toArray, List.set_cons_zero, List.set_cons_succ]
    refine wpAnyH_take (i := 5) (v := ?_) (by first | (simp only [List.getElem?_toArray, List.getElem?_cons_succ, List.getElem?_cons_zero]; rfl) | rfl) (by kernel_rfl) (by kernel_rfl) (by kernel_rfl) (fun _ _ _ h => by rw [put_defers] at h; exact h) (Or.inl ⟨by rfl, ?_⟩) (by assumption) ?_
    rotate_left 1
    · (intro w' hSw; (try dsimp only at hSw); go_simp; (try with_reducible rfl))
    try simp only [Act.put, List.setIfInBounds_toArray, List.set_cons_zero, List.set_cons_succ]
    refine wpAnyH_take (i := 6) (v := ?_) (by first | (simp only [List.getElem?_toArray, List.getElem?_cons_succ, List.getElem?_cons_zero]; rfl) | rfl) (by kernel_rfl) (by kernel_rfl) (by kernel_rfl) (fun _ _ _ h => by rw [put_defers] at h; exact h) (Or.inl ⟨by rfl, ?_⟩) (by assumption) ?_
    rotate_left 1
    · (intro w' hSw; (try dsimp only at hSw); go_simp; (try with_reducible rfl))
    try simp only [Act.put, List.setIfInBounds_toArray, List.set_cons_zero, List.set_cons_succ]
    refine wpAnyH_take (i := 7) (v := ?_) (by first | (simp only [List.getElem?_toArray, List.getElem?_cons_succ, List.getElem?_cons_zero]; rfl) | rfl) (by kernel_rfl) (by kernel_rfl) (by kernel_rfl) (fun _ _ _ h => by rw [put_defers] at h; exact h) (Or.inl ⟨by rfl, ?_⟩) (by assumption) ?_
    rotate_left 1
    · (intro w' hSw; (try dsimp only at hSw); go_simp; (try with_reducible rfl))
    try simp only [Act.put, List.setIfInBounds_toArray, List.set_cons_zero, List.set_cons_succ]
    refine wpAnyH_take (i := 8) (v := ?_) (by first | (simp only [List.getElem?_toArray, List.getElem?_cons_succ, List.getElem?_cons_zero]; rfl) | rfl) (by kernel_rfl) (by kernel_rfl) (by kernel_rfl) (fun _ _ _ h => by rw [put_defers] at h; exact h) (Or.inl ⟨by rfl, ?_⟩) (by assumption) ?_
    rotate_left 1
    · (intro w' hSw; (try dsimp only at hSw); go_simp; (try with_reducible rfl))
    try simp only [Act.put, List.setIfInBounds_toArray, List.set_cons_zero, List.set_cons_succ]
    refine wpAnyH_take (i := 9) (v := ?_) (by first | (simp only [List.getElem?_toArray, List.getElem?_cons_succ, List.getElem?_cons_zero]; rfl) | rfl) (by kernel_rfl) (by kernel_rfl) (by kernel_rfl) (fun _ _ _ h => by rw [put_defers] at h; exact h) (Or.inl ⟨by rfl, ?_⟩) (by assumption) ?_
    rotate_left 1
    · (intro w' hSw; (try dsimp only at hSw); go_simp; (try with_reducible rfl))
    try simp only [Act.put, List.setIfInBounds_toArray, List.set_cons_zero, List.set_cons_succ]
    refine wpAnyH_take (i := 10) (v := ?_) (by first | (simp only [List.getElem?_toArray, List.getElem?_cons_succ, List.getElem?_cons_zero]; rfl) | rfl) (by kernel_rfl) (by kernel_rfl) (by kernel_rfl) (fun _ _ _ h => by rw [put_defers] at h; exact h) (Or.inl ⟨by rfl, ?_⟩) (by assumption) ?_
    rotate_left 1
    · (intro w' hSw; (try dsimp only at hSw); go_simp; (try with_reducible rfl))
    try simp only [Act.put, List.setIfInBounds_toArray, List.set_cons_zero, List.set_cons_succ]
    refine wpAnyH_take (i := 11) (v := ?_) (by first | (simp only [List.getElem?_toArray, List.getElem?_cons_succ, List.getElem?_cons_zero]; rfl) | rfl) (by kernel_rfl) (by kernel_rfl) (by kernel_rfl) (fun _ _ _ h => by rw [put_defers] at h; exact h) (Or.inl ⟨by rfl, ?_⟩) (by assumption) ?_
    rotate_left 1
    · (intro w' hSw; (try dsimp only at hSw); go_simp; (try with_reducible rfl))
    try simp only [Act.put, List.setIfInBounds_toArray, List.set_cons_zero, List.set_cons_succ]
    refine wpAnyH_take (i := 12) (v := ?_) (by first | (simp only [List.getElem?_toArray, List.getElem?_cons_succ, List.getElem?_cons_zero]; rfl) | rfl) (by kernel_rfl) (by kernel_rfl) (by kernel_rfl) (fun _ _ _ h => by rw [put_defers] at h; exact h) (Or.inl ⟨by rfl, ?_⟩) (by assumption) ?_
    rotate_left 1
    · (intro w' hSw; (try dsimp only at hSw); go_simp; (try with_reducible rfl))
    try simp only [Act.put, List.setIfInBounds_toArray, List.set_cons_zero, List.set_cons_succ]
    refine wpAnyH_take (i := 14) (v := ?_) (by first | (simp only [List.getElem?_toArray, List.getElem?_cons_succ, List.getElem?_cons_zero]; rfl) | rfl) (by kernel_rfl) (by kernel_rfl) (by kernel_rfl) (fun _ _ _ h => by rw [put_defers] at h; exact h) (Or.inl ⟨by rfl, ?_⟩) (by assumption) ?_
    rotate_left 1
    · (intro w' hSw; (try dsimp only at hSw); go_simp; (try with_reducible rfl))
    try simp only [Act.put, List.setIfInBounds_toArray, List.set_cons_zero, List.set_cons_succ]
    refine wpAnyH_ready (rs := [13]) (by kernel_rfl) (by simp) ?_
    refine AllReadyH.cons (by first | (simp only [List.getElem?_toArray, List.getElem?_cons_succ, List.getElem?_cons_zero]; rfl) | rfl) (fun K hK => ?_) AllReadyH.nil
    go_simp
    refine (hsp _).mono ?_
    rintro e w6 ⟨hb6, A6, c6, rfl, ho6⟩
    rw [show sb ⟨ft.toArray⟩ = ft from sb_mk ft] at ho6
    have hb6w : Below w5.heap.size w5 w6 := ((Below.refl w5.heap.size w5).drew).trans hb6
    rw [show sb ⟨ft.toArray⟩ = ft from sb_mk ft]
    dsimp only
    have HO6 := Lib.hid (OwnS.wide ho6 (Nat.le_trans HRk5.out.bel.size (Nat.le_refl _)))
    have HWl := Lib.hid (show (∀ x ∈ wordsA [] ft, x.length ≤ 16777216) ∧ (wordsA [] ft).length ≤ 100000000 from ⟨fun x hx => by have := wordsA_le ft [] x hx; simp at this; omega, by have := wordsA_cnt ft []; omega⟩)
    refine hK.out _ _ ⟨(hb6w.cell (p := ⟨g, o + 1, none⟩) hlg).trans d0, (hb6w.cell (p := ⟨g, o + 9, none⟩) hlg).trans d2, (hb6w.cell (p := ⟨g, o + 17, none⟩) hlg).trans d4⟩ (fun hHeld => ?_)
    clear hK K
    try simp only [Act.put, List.setIfInBounds_toArray, List.set_cons_zero, List.set_cons_succ]
    refine wpAnyH_take (i := 15) (v := ?_) (by first | (simp only [List.getElem?_toArray, List.getElem?_cons_succ, List.getElem?_cons_zero]; rfl) | rfl) (by kernel_rfl) (by kernel_rfl) (by kernel_rfl) (fun _ _ _ h => by rw [put_defers] at h; exact h) (Or.inl ⟨by rfl, ?_⟩) (by assumption) ?_
    rotate_left 1
    · (intro w' hSw; (try dsimp only at hSw); go_simp; (try with_reducible rfl))
    try simp only [Act.put, List.setIfInBounds_toArray, List.set_cons_zero, List.set_cons_succ]
    refine wpAnyH_ready (rs := [16]) (by kernel_rfl) (by simp) ?_
    refine AllReadyH.cons (by first | (simp only [List.getElem?_toArray, List.getElem?_cons_succ, List.getElem?_cons_zero]; rfl) | rfl) (fun K hK => ?_) AllReadyH.nil
    go_simp
    have hcl := classK_any w0 w6 R s b fs ss A1 c1 A2 c2 nm sp (wordsA [] ft) A6 c6 (a : Int) (HRk5.out.below hb6w) HO6.out (by omega) (by omega) HWl.out.1 HWl.out.2 (by omega)
    refine hcl.mono ?_
    rintro e w7 (⟨hno, rfl, hb7⟩ | ⟨hyes, rfl, A3, c3, ts, hts, hrk7, hkp7, hk7⟩)
    · have hU5 := HU4.out
      rw [← hcls, hno, if_neg (by decide)] at hU5
      exact .inl ⟨_, _, HU.out.trans hU5.symm, rfl, HRk5.out.bel.trans ((hb6w.trans (hb7.mono hb6w.size)).mono HRk5.out.bel.size), HK5.out.trans (KpN.below (hb6w.trans (hb7.mono hb6w.size)))⟩
    · have hU5 := HU4.out
      rw [← hcls, hyes, if_pos rfl] at hU5
      have hgb := (hk7 g (Nat.lt_of_lt_of_le hlg hb6w.size) (fun e => own_ne HOwn.out HRk1.out.rd (by decide) (by rw [e]; rfl)) (fun e => own_far HRk1.out.ownC HOwn.out (by decide) e.symm rfl)).trans (hb6w.block g hlg)
      dsimp only
      refine hK.out _ _ ⟨(World.cell?_of_block (a := ⟨g, o + 1, none⟩) hgb).trans d0, (World.cell?_of_block (a := ⟨g, o + 9, none⟩) hgb).trans d2, (World.cell?_of_block (a := ⟨g, o + 17, none⟩) hgb).trans d4⟩ (fun _ => ?_)
      refine wpAnyH_done (by kernel_rfl) ⟨rfl, .inl ⟨rfl, ?_⟩⟩ _
      refine .inr ⟨b, ts, ss, A3, c3, A2, c2, rfl, hrk7, Nat.le_refl _, hb, ?_, ?_, HK5.out.trans ((KpN.below hb6w).trans hkp7)⟩
      · rw [hts, List.length_append, List.length_singleton]; omega
      · rw [HU.out, ← hU5, preU_pre, List.append_nil, hts, List.map_append]; rfl
  case none =>
    rw [hC] at hf5
    have HU3 : Hid ((match headL l with | some h => readU s (some h) b | none => .inr ((a : Int), 3)) = U) := Lib.hid (by
      have e := HU2.out
      unfold clsR at e
      rw [hC] at e
      exact e)
    clear HU2 hC
    go_wp2_with fail
    refine hf5.mono ?_
    rintro e w5 ⟨rfl, hb6⟩
    have hb5w : Below w1.heap.size w1 w5 := hB5.trans (hb6.mono hB5.size)
    clear hf5 hB5 hb6 hk1
    go_wp2_with fail
    refine (hn1 _ _).mono ?_
    rintro e w6 ⟨rfl, hb2⟩
    go_wp2_with fail
    refine (hn1 _ _).mono ?_
    rintro e w7 ⟨rfl, hb3⟩
    have hB7 : Below w1.heap.size w1 w7 := hb5w.trans ((hb2.trans (hb3.mono hb2.size)).mono hb5w.size)
    have hB8 : Below w1.heap.size w1 (w7.alloc (.cells #[.int .i64 1, .string ⟨#[]⟩, .int .i64 0, .int .i64 0, .int .i64 1, .string ⟨#[109, 101, 116, 104, 111, 100, 115]⟩, .int .i64 0, .int .i64 0] 143)) := hB7.alloc hB7.size _
    have hf2 := fits_any l [(1, [], 0, 0), (1, methL, 0, 0)] A (some ⟨w7.heap.size, 0, none⟩) c 2 w1.heap.size _ _ (hrd.below hB8 (Nat.le_refl _)) (rd_cells (heap_alloc_new w7 (.cells #[.int .i64 1, .string ⟨#[]⟩, .int .i64 0, .int .i64 0, .int .i64 1, .string ⟨#[109, 101, 116, 104, 111, 100, 115]⟩, .int .i64 0, .int .i64 0] 143))) hB8.size (Nat.le_refl _) hlc (by simp) (by simp)
    have hHd := fits_head l
    clear hb2 hb3 hb5w hB7
    cases hF2 : fitsR l [(1, [], 0, 0), (1, methL, 0, 0)]
    case true =>
      rw [hF2] at hf2
      rw [hF2, if_pos rfl] at hHd
      go_wp2_with fail
      refine hf2.mono ?_
      rintro e w9 ⟨rfl, hb9⟩
      have hb9w : Below w1.heap.size w1 w9 := hB8.trans (hb9.mono hB8.size)
      clear hf2 hB8 hb9
      obtain ⟨⟨k0, y0, n0, q0⟩, l', rfl⟩ := fitsR_cons hF2
      have hU9 : readU s (some (y0, false)) b = U := by
        have e := HU3.out
        rw [hHd] at e
        exact e
      have HRk9 := Lib.hid (HRk1.out.below hb9w)
      have HK9 := Lib.hid (HK1.out.trans (KpN.below hb9w))
      have HUm := Lib.hid (HU.out.trans hU9.symm)
      rcases hrd with h0 | ⟨g, o, rfl, hgl, hc⟩
      · cases h0
      have d0 := (hb9w.cell (p := ⟨g, o + 1, none⟩) hgl).trans (hc 1 (.string ⟨y0.toArray⟩) rfl)
      have hl0 : (0 : Int) < ((((k0, y0, n0, q0) :: l').length : Nat) : Int) := by simp
      have hmt := methodsK_any w0 w9 R s hs b fs ss A1 c1 A2 c2 y0 false HRk9.out hb (by omega) hm
      generalize ((k0, y0, n0, q0) :: l').length = L at *
      clear hc hHd hU9 hn1 HOwn HL HU3 hF2
      go_wp2_with fail
      refine hmt.mono ?_
      rintro e w10 (⟨at_, hr, rfl, hb10, hkp10⟩ | ⟨q, ss', A3, c3, rfl, hrk, hbq, hqs, hlq, he, hkp10⟩)
      · exact ⟨rfl, .inl ⟨_, _, HUm.out.trans hr, rfl, hb10, HK9.out.trans hkp10⟩⟩
      · clear hmt
        go_wp2_with fail
        refine bodyPost_end (results_none rfl _ _ _) rfl ?_
        exact .inr ⟨q, fs, ss', A1, c1, A3, c3, rfl, hrk, hbq, hqs, hlq, by rw [HUm.out]; exact he _, HK9.out.trans hkp10⟩
    case false =>
      rw [hF2] at hf2
      rw [hF2, if_neg (by decide)] at hHd
      go_wp2_with fail
      refine hf2.mono ?_
      rintro e w9 ⟨rfl, hb9⟩
      have hb9w : Below w1.heap.size w1 w9 := hB8.trans (hb9.mono hB8.size)
      clear hf2 hB8 hb9
      go_wp2_with fail
      refine (hn1 _ _).mono ?_
      rintro e w10 ⟨rfl, hb2⟩
      go_wp2_with fail
      refine (hn1 _ _).mono ?_
      rintro e w11 ⟨rfl, hb3⟩
      go_wp2_with fail
      refine (hn1 _ _).mono ?_
      rintro e w12 ⟨rfl, hb4⟩
      have hB12 : Below w1.heap.size w1 w12 := hb9w.trans ((hb2.trans ((hb3.trans (hb4.mono hb3.size)).mono hb2.size)).mono hb9w.size)
      have hB13 : Below w1.heap.size w1 (w12.alloc (.cells #[.int .i64 1, .string ⟨#[]⟩, .int .i64 0, .int .i64 0, .int .i64 1, .string ⟨#[99, 108, 97, 115, 115]⟩, .int .i64 0, .int .i64 0, .int .i64 1, .string ⟨#[109, 101, 116, 104, 111, 100, 115]⟩, .int .i64 0, .int .i64 0] 143)) := hB12.alloc hB12.size _
      have hf3 := fits_any l [(1, [], 0, 0), (1, clsL, 0, 0), (1, methL, 0, 0)] A (some ⟨w12.heap.size, 0, none⟩) c 3 w1.heap.size _ _ (hrd.below hB13 (Nat.le_refl _)) (rd_cells (heap_alloc_new w12 (.cells #[.int .i64 1, .string ⟨#[]⟩, .int .i64 0, .int .i64 0, .int .i64 1, .string ⟨#[99, 108, 97, 115, 115]⟩, .int .i64 0, .int .i64 0, .int .i64 1, .string ⟨#[109, 101, 116, 104, 111, 100, 115]⟩, .int .i64 0, .int .i64 0] 143))) hB13.size (Nat.le_refl _) hlc (by simp) (by simp)
      clear hb2 hb3 hb4 hB12 hb9w
      cases hF3 : fitsR l [(1, [], 0, 0), (1, clsL, 0, 0), (1, methL, 0, 0)]
      case true =>
        rw [hF3] at hf3
        rw [hF3, if_pos rfl] at hHd
        go_wp2_with fail
        refine hf3.mono ?_
        rintro e w14 ⟨rfl, hb14⟩
        have hb14w : Below w1.heap.size w1 w14 := hB13.trans (hb14.mono hB13.size)
        clear hf3 hB13 hb14
        obtain ⟨⟨k0, y0, n0, q0⟩, l', rfl⟩ := fitsR_cons hF3
        have hU9 : readU s (some (y0, true)) b = U := by
          have e := HU3.out
          rw [hHd] at e
          exact e
        have HRk9 := Lib.hid (HRk1.out.below hb14w)
        have HK9 := Lib.hid (HK1.out.trans (KpN.below hb14w))
        have HUm := Lib.hid (HU.out.trans hU9.symm)
        rcases hrd with h0 | ⟨g, o, rfl, hgl, hc⟩
        · cases h0
        have d0 := (hb14w.cell (p := ⟨g, o + 1, none⟩) hgl).trans (hc 1 (.string ⟨y0.toArray⟩) rfl)
        have hl0 : (0 : Int) < ((((k0, y0, n0, q0) :: l').length : Nat) : Int) := by simp
        have hmt := methodsK_any w0 w14 R s hs b fs ss A1 c1 A2 c2 y0 true HRk9.out hb (by omega) hm
        generalize ((k0, y0, n0, q0) :: l').length = L at *
        clear hc hF3 hHd hU9 hn1 HOwn HL HU3 hF2
        go_wp2_with fail
        refine hmt.mono ?_
        rintro e w10 (⟨at_, hr, rfl, hb10, hkp10⟩ | ⟨q, ss', A3, c3, rfl, hrk, hbq, hqs, hlq, he, hkp10⟩)
        · exact ⟨rfl, .inl ⟨_, _, HUm.out.trans hr, rfl, hb10, HK9.out.trans hkp10⟩⟩
        · clear hmt
          go_wp2_with fail
          refine bodyPost_end (results_none rfl _ _ _) rfl ?_
          exact .inr ⟨q, fs, ss', A1, c1, A3, c3, rfl, hrk, hbq, hqs, hlq, by rw [HUm.out]; exact he _, HK9.out.trans hkp10⟩
      case false =>
        rw [hF3] at hf3
        rw [hF3, if_neg (by decide)] at hHd
        have hU9 : .inr ((a : Int), 3) = U := by
          have e := HU3.out
          rw [hHd] at e
          exact e
        go_wp2_with fail
        refine hf3.mono ?_
        rintro e w14 ⟨rfl, hb14⟩
        have hb14w : Below w1.heap.size w1 w14 := hB13.trans (hb14.mono hB13.size)
        have HBk := Lib.hid (And.intro (HRk1.out.bel.trans (hb14w.mono HRk1.out.bel.size)) (HK1.out.trans (KpN.below hb14w)))
        have HUm := Lib.hid (HU.out.trans hU9.symm)
        clear hf3 hB13 hb14 hb14w hHd hU9 hn1
        go_wp2_with fail
        refine (hg _ _ _).mono ?_
        rintro e w' ⟨rfl, rfl⟩
        exact ⟨rfl, .inl ⟨_, _, HUm.out, rfl, HBk.out.1, HBk.out.2⟩⟩
end Go.Proofs.YtmdkneollidkfaaGreatDoor.Fl
