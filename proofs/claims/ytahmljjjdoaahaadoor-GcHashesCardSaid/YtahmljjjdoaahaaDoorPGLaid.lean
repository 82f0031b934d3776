/-
  A region that draws its order within a round: walked as any other region, where nothing is deferred and nothing panics.
-/
import Derived.Test.YtahmljjjdoaahaaDoorRoundQ
import Derived.Deep.RegionHeld3
import Derived.Test.YtahmljjjdoaahaaDoorPGTurn
import Derived.Test.YtahmljjjdoaahaaDoorDecode
namespace Go.Proofs.YtahmljjjdoaahaaDoor.Fl
open Go.RowKit

/-- what is asked at the end of a region that runs to its end -/
def nrm (K : Act → World → Prop) (e : Exit) (a : Act) (w : World) : Prop := e = .normal ∧ K a w
theorem nrm_lets {K : Act → World → Prop} : ¬ LetsOut (nrm K) := fun ⟨_, _, h, _⟩ => by cases h
section
variable {P : Program} {n l : Nat} {ops : Array Oper} {K0 : Act → World → Prop} {Q : Exit → Act → World → Prop}
theorem lift_op {o : Oper} {a : Act} {K K' : Act → World → Prop} {w : World} (hd : Undeferred o) (h : ∀ a w, K a w → K' a w) (hh : o.wp P a w K (nrm K0)) : o.wpIn (Fence.wide.inRound l) n P a w K' Q := by
  refine ⟨fun _ _ => trivial, ?_⟩
  rw [Oper.semAt_plain _ _ _ hd]
  unfold Oper.wp at hh
  revert hh
  generalize (execOp a.eval o).run P w = r
  intro hh
  match r, hh with
  | .ok (.value v) w', hh => exact h _ _ hh
  | .ok .skip w', hh => exact h _ _ hh
  | .ok (.defer d) w', hh => exact h _ _ hh
  | .ok (.enter f args) w', hh =>
    refine ⟨fun hi => (by cases hi), CallsIn.inRound l (callsIn_wide.2 (Calls.mono hh ?_))⟩
    intro e w'' he
    cases e with
    | returned v => exact h _ _ he
    | panicked c => cases he.1
    | outgrown => exact absurd he nrm_lets
  | .ok (.row row args) w', hh =>
    refine ⟨fun hi => (by cases hi), fun c cs _ => ?_⟩
    obtain ⟨v, w'', hr, hs⟩ := hh c cs
    exact ⟨v, w'', h _ _ hr, stepsIn_wide.2 hs⟩
  | .halt (.panic v) w', hh => cases hh.1
theorem lift_at {i : Nat} {a : Act} {K K' : Act → World → Prop} {w : World} (hd : ∀ (i : Nat) (o : Oper), ops[i]? = some o → Undeferred o) (h : ∀ a w, K a w → K' a w) (hh : wpOp P ops (nrm K0) i K a w) : wpOpIn (Fence.wide.inRound l) n P ops Q i K' a w := by
  unfold wpOp at hh
  unfold wpOpIn
  cases ho : ops[i]? with
  | none => rw [ho] at hh; exact h _ _ hh
  | some o =>
    rw [ho] at hh
    show if Region.wanted o (yielded ops a.tmps) = true then _ else _
    by_cases hw : Region.wanted o (yielded ops a.tmps) = true
    · rw [if_pos hw]
      simp only [hw, if_true] at hh
      rcases hh with hh | ⟨_, hh⟩
      · exact lift_op (hd i o ho) h hh
      · exact absurd hh nrm_lets
    · rw [if_neg hw]
      simp only [hw] at hh
      exact ⟨fun _ _ => trivial, h _ _ hh⟩
theorem lift_any {md : Region.Mode} (hd : ∀ (i : Nat) (o : Oper), ops[i]? = some o → Undeferred o) (hQ : ∀ a w, K0 a w → Q .normal a w) : ∀ (fuel : Nat) (listed : Array Bool) (a : Act) (w : World),
    wpAny P md ops (nrm K0) fuel listed a w → wpAnyIn (Fence.wide.inRound l) n P md ops Q fuel listed a w
  | 0, _, _, _, h => ⟨h.1, hQ _ _ h.2.2⟩
  | fuel + 1, _, _, _, h => ⟨fun h0 => hQ _ _ (h.1 h0).2, fun i hi => lift_at hd (fun a' w' hw' => lift_any hd hQ fuel _ a' w' hw') (h.2 i hi)⟩
theorem wpIn_round_held {id : Nat} {a : Act} {w : World} {S : World → Prop} {li : List Oper} (hd : ∀ o ∈ li, Undeferred o) (hm : P.follows .mixedOrders = true) (hS : S w.drew)
    (h : S w.drew → wpAnyH P .any li.toArray (nrm fun a' w' => Q .normal a' w') S li.toArray.size (Array.replicate li.toArray.size false) a w.drew) : (Code.region id li.toArray true).wpIn (Fence.wide.inRound l) n P Q a w :=
  wpIn_region_any hm (lift_any (K0 := fun a' w' => Q .normal a' w') (fun i o ho => hd o (by simpa using List.mem_of_getElem? (by simpa using ho))) (fun _ _ h => h) _ _ _ _ (wpAny_of_held _ _ _ _ (h hS)))
end
end Go.Proofs.YtahmljjjdoaahaaDoor.Fl

/-
  What stays of memory: where each object will stand (plan).
-/
namespace Go.Proofs.YtahmljjjdoaahaaDoor.Fl
open Go.RowKit Go.Shelf
attribute [local go_sem] Oper.semAt_some wide_fn

section
variable {base g gc cap gb gb2 size last lk sb gG U Bn : Nat} {os : List Ob} {ws fs : List Nat} {xs : List (Kx os fs)}
/-- what stands between two rounds -/
structure PlanI (w0 : World) (base g gc cap gb gb2 size last sb : Nat) (os : List Ob) (ws fs : List Nat) (pre : List (Kx os fs)) (W : World) : Prop where
  gcof : GcOf base g gc cap gb gb2 size last (w0.heap.size + 1) sb w0.heap.size (Lof os).length (w0.heap.size + 4) os ws fs W
  l5 : W.heap[w0.heap.size + 2]? = some (.cells #[.pointer (some ⟨w0.heap.size + 1, 0, none⟩)] 85 (0, 0))
  l6 : W.heap[w0.heap.size + 3]? = some (.cells #[.int .i64 ((Lof (obsX pre)).length : Int)] 3 (0, 0))
  row : OwnH W w0.heap.size (.slice (some ⟨w0.heap.size, 0, none⟩) (Lof os).length (Lof os).length) (gofX (List.replicate (Lof os).length 0) pre)
  below : Below w0.heap.size w0 W
  top : w0.heap.size + 5 ≤ W.heap.size
  sbs : ∃ sb2 bs, BitsAt w0 sb sb2 size bs ∧ ∀ i, bitAt bs i = true ↔ 2 * i ∈ fs
theorem GcOf.keepAll {W W' : World} (h : GcOf base g gc cap gb gb2 size last lk sb gG U Bn os ws fs W) (hk : ∀ (k : Nat) cs T fr, W.heap[k]? = some (Obj.cells cs T fr) → W'.heap[k]? = W.heap[k]?) : GcOf base g gc cap gb gb2 size last lk sb gG U Bn os ws fs W' := by
  obtain ⟨sb2, bs, h1, h2⟩ := h.found
  obtain ⟨c, hb⟩ := h1.hd
  obtain ⟨cu, hb2, _⟩ := h1.wd
  refine ⟨h.obs.kept (fun k cs T fr hc _ => hk k cs T fr hc), ⟨sb2, bs, h1.at_ (hk _ _ _ _ hb) (hk _ _ _ _ hb2), h2⟩, ?_, (hk _ _ _ _ h.look).trans h.look, (hk _ _ _ _ h.box).trans h.box⟩
  intro j hj
  have h0 := h.env j hj
  obtain ⟨cs, T, fr, hc⟩ : ∃ cs T fr, W.heap[0]? = some (Obj.cells cs T fr) := by
    unfold World.cell? at h0
    split at h0
    · exact ⟨_, _, _, by assumption⟩
    · cases h0
  rw [World.cell?_of_block (a := ⟨0, j, none⟩) (hk _ _ _ _ hc)]
  exact h0
theorem PlanI.own {w0 : World} : OwnFrom (w0.heap.size + 5) (PlanI w0 base g gc cap gb gb2 size last sb os ws fs) := fun pre W W' row h hg hr => by
  have hk : ∀ (k : Nat) cs T fr, W.heap[k]? = some (Obj.cells cs T fr) → W'.heap[k]? = W.heap[k]? := fun k cs T fr hc => grownBy_keeps_cells hg (fun r e => (hr r e).2) hc rfl
  have hlow : ∀ k, k < w0.heap.size + 5 → W'.heap[k]? = W.heap[k]? := fun k hk => hg.block k (Nat.lt_of_lt_of_le hk h.top) (fun e => by have := (hr k e.symm).1; omega)
  exact ⟨h.gcof.keepAll hk, (hk _ _ _ _ h.l5).trans h.l5, (hk _ _ _ _ h.l6).trans h.l6, h.row.keep (fun k cur hc => hk _ _ _ _ hc), ⟨hg.os.trans h.below.os, hg.tape.trans h.below.tape, hg.output.trans h.below.output, Nat.le_trans h.below.size hg.size, fun k hk => (hlow k (by omega)).trans (h.below.block k hk)⟩, Nat.le_trans h.top hg.size, h.sbs⟩
theorem PlanI.grown {w0 W W' : World} {pre : List (Kx os fs)} (h : PlanI w0 base g gc cap gb gb2 size last sb os ws fs pre W) (hb : Below W.heap.size W W') : PlanI w0 base g gc cap gb gb2 size last sb os ws fs pre W' :=
  PlanI.own pre W W' none h (grown_below hb) (fun r e => by cases e)
theorem obsX_grow (pre : List (Kx os fs)) (x : Kx os fs) : (Lof (obsX (pre ++ [x]))).length = (Lof (obsX pre)).length + 2 + (os[x.1]'x.2.1).xs.length := by
  rw [obsX_snoc, Lof_snoc, List.length_append, Ob.cells_len]; omega
/-- a round of plan: a goal is laid, and the next place told -/
theorem PlanI.step {w0 W W1 W2 W3 : World} {pre : List (Kx os fs)} {x : Kx os fs} (h : PlanI w0 base g gc cap gb gb2 size last sb os ws fs pre W) (hlt : g < w0.heap.size ∧ gc < w0.heap.size ∧ gb < w0.heap.size ∧ gb2 < w0.heap.size) (he : 0 < w0.heap.size)
    (h1 : One w0.heap.size W W1) (hrow : OwnH W1 w0.heap.size (.slice (some ⟨w0.heap.size, 0, none⟩) (Lof os).length (Lof os).length) (gofX (List.replicate (Lof os).length 0) (pre ++ [x])))
    (h2 : Below W1.heap.size W1 W2) (h3 : One (w0.heap.size + 3) W2 W3) (hl6 : W3.heap[w0.heap.size + 3]? = some (.cells #[.int .i64 ((Lof (obsX (pre ++ [x]))).length : Int)] 3 (0, 0))) :
    (W.heap.size ≤ W3.heap.size ∧ ∀ k, k < W.heap.size → k ≠ w0.heap.size → k ≠ w0.heap.size + 3 → W3.heap[k]? = W.heap[k]?) ∧
    KpG (fun k _ => k = w0.heap.size ∨ k = w0.heap.size + 3) base g gc cap gb gb2 size last (w0.heap.size + 1) sb w0.heap.size (Lof os).length (w0.heap.size + 4) os ws fs W W3 ∧ PlanI w0 base g gc cap gb gb2 size last sb os ws fs (pre ++ [x]) W3 := by
  have hs : W.heap.size ≤ W3.heap.size := by rw [h3.size, ← h1.size]; exact h2.size
  have hk : ∀ k, k < W.heap.size → k ≠ w0.heap.size → k ≠ w0.heap.size + 3 → W3.heap[k]? = W.heap[k]? := fun k k1 k2 k3 =>
    (h3.block k k3).trans ((h2.block k (by rw [h1.size]; exact k1)).trans (h1.block k k2))
  have htop := h.top
  have hkk : ∀ (k : Nat) cs T fr, W.heap[k]? = some (Obj.cells cs T fr) → k < w0.heap.size ∨ k = w0.heap.size + 1 ∨ k = w0.heap.size + 4 → W3.heap[k]? = W.heap[k]? := fun k cs T fr hc hx => hk k (lt_of_block hc) (by omega) (by omega)
  obtain ⟨sb2, bs, hbs, hbm⟩ := h.sbs
  have hfs : ∃ sb2 bs, BitsAt W sb sb2 size bs ∧ (∀ i, bitAt bs i = true ↔ 2 * i ∈ fs) ∧ sb < w0.heap.size ∧ sb2 < w0.heap.size := ⟨sb2, bs, hbs.at_ (h.below.block _ hbs.gl) (h.below.block _ hbs.gl2), hbm, hbs.gl, hbs.gl2⟩
  have hG : ∀ V : World, GcOf base g gc cap gb gb2 size last (w0.heap.size + 1) sb w0.heap.size (Lof os).length (w0.heap.size + 4) os ws fs W → GcOf base g gc cap gb gb2 size last (w0.heap.size + 1) sb w0.heap.size (Lof os).length (w0.heap.size + 4) os ws fs W3 := fun _ hh => hh.kept hkk hlt hfs he
  have hrow3 : w0.heap.size < W1.heap.size := by rw [h1.size]; omega
  refine ⟨⟨hs, hk⟩, ⟨hs, fun k cs T fr hc hz => hk k (lt_of_block hc) (fun e => hz (.inl e)) (fun e => hz (.inr e)), hG W⟩, ⟨hG W h.gcof, (hk _ (by omega) (by omega) (by omega)).trans h.l5, hl6, ownH_at hrow ((h3.block _ (by omega)).trans (h2.block _ hrow3)), ?_, by omega, h.sbs⟩⟩
  exact ⟨h3.os.trans (h2.os.trans (h1.os.trans h.below.os)), h3.tape.trans (h2.tape.trans (h1.tape.trans h.below.tape)), h3.output.trans (h2.output.trans (h1.output.trans h.below.output)), Nat.le_trans h.below.size hs, fun k hk2 => (hk k (by have := h.below.size; omega) (by omega) (by omega)).trans (h.below.block k hk2)⟩
def PlanPost (U g sb : Nat) (os : List Ob) (fs : List Nat) (xs : List (Kx os fs)) (w : World) (e : Ending) (w' : World) : Prop :=
  ∃ lk gG G, e = .returned (.pointer (some ⟨lk, 0, none⟩)) ∧ GLook w' lk g sb gG U ∧ OwnH w' w.heap.size (.slice (some ⟨gG, 0, none⟩) U U) G ∧ G.length = U ∧ GoalsOk os fs xs G ∧ w.heap.size ≤ lk ∧ w.heap.size ≤ gG ∧ Below w.heap.size w w'
theorem make_wlen (w : World) (n : Nat) (h : n ≤ 200000) :
    (Instr.makeSlice 44 (.int .i64 (n : Int)) (.int .i64 (n : Int))).run Tryd.prog w = .ok (.slice (some ⟨w.heap.size, 0, none⟩) n n) (w.alloc (.cells (cw (List.replicate n 0)).toArray 38)) := by
  have hmk := run_make_row' (P := Tryd.prog) 44 38 (.int .u64 0) 8 Tryd.underlying44 wordinfo rfl .i64 .i64 n (by omega) (by omega) w
  rw [hmk, made_eq]
set_option maxRecDepth 100000 in
set_option maxHeartbeats 4000000 in
theorem plan_any (w : World) (h : ObsAt w base g gc cap gb gb2 size last os ws) (hf : Found w sb size fs) (he : EnvB w) (hst : Stays os fs xs) (hsm : (Lof os).length ≤ 400) :
    Calls Tryd.prog 27 #[.pointer (some ⟨g, 0, none⟩), .pointer (some ⟨sb, 0, none⟩)] w (PlanPost (Lof os).length g sb os fs xs w) := by
  have hus := used_any w h.heap
  have hmk := fun w' => make_wlen w' (Lof os).length (by omega)
  refine (callsIn_wide (n := 4)).1 ?_
  refine callsIn_of_wp_marks Tryd.func27 rfl trivial ?_ rfl
  simp only [Tryd.ntmps27, List.size_toArray, List.length_cons, List.length_nil, Nat.reduceAdd, Nat.reduceSub, Array.replicate_succ, Array.replicate_zero, List.push_toArray, List.append_toArray, List.nil_append, List.cons_append]
  gi_wp2_with (first
    | (gi_at_call 14; refine (callsIn_wide.2 hus).mono ?_; rintro e w' ⟨rfl, rfl⟩)
    | (gi_at_call 53; refine (callsIn_wide.2 (each_any (lk := w.heap.size + 1) _)).mono ?_; rintro e w' ⟨rfl, rfl⟩))
  obtain ⟨W0, hW0⟩ : ∃ W0, (((((w.alloc (.cells (cw (List.replicate (Lof os).length 0)).toArray 38)).alloc (.cells #[.pointer (some ⟨g, 0, none⟩), .pointer (some ⟨sb, 0, none⟩), .slice (some ⟨w.heap.size, 0, none⟩) (Lof os).length (Lof os).length] 117)).alloc (.cells #[.pointer (some ⟨w.heap.size + 1, 0, none⟩)] 85)).alloc (.cells #[.int .i64 2] 3)).alloc (.cells #[.pointer (some ⟨w.heap.size + 1, 0, none⟩)] 85)) = W0 := ⟨_, rfl⟩
  have hb0 : Below w.heap.size w W0 := by rw [← hW0]; exact (((((Below.refl _ _).alloc (Nat.le_refl _) _).alloc (by simp) _).alloc (by simp; omega) _).alloc (by simp; omega) _).alloc (by simp; omega) _
  have hsz : W0.heap.size = w.heap.size + 5 := by rw [← hW0]; simp
  obtain ⟨q1, q2, q3, q4, hBn⟩ := five_allocs w (.cells (cw (List.replicate (Lof os).length 0)).toArray 38) (.cells #[.pointer (some ⟨g, 0, none⟩), .pointer (some ⟨sb, 0, none⟩), .slice (some ⟨w.heap.size, 0, none⟩) (Lof os).length (Lof os).length] 117) (.cells #[.pointer (some ⟨w.heap.size + 1, 0, none⟩)] 85) (.cells #[.int .i64 2] 3) (.cells #[.pointer (some ⟨w.heap.size + 1, 0, none⟩)] 85)
  rw [hW0] at q1 q2 q3 q4 hBn ⊢
  clear hW0
  have hR0 : OwnH W0 w.heap.size (.slice (some ⟨w.heap.size, 0, none⟩) (Lof os).length (Lof os).length) (List.replicate (Lof os).length 0) := by
    unfold OwnH
    rw [List.length_replicate]
    exact ⟨by simp [cw], .inr ⟨_, _, _, rfl, Nat.le_refl _, q1, Nat.le_refl _, by unfold maxLen; omega, by simp [cw], by rw [List.take_of_length_le (by simp [cw])]⟩⟩
  have hS0 : PlanI w base g gc cap gb gb2 size last sb os ws fs [] W0 :=
    ⟨⟨h.below hb0, hf.below hb0, he.below hb0, q2, hBn⟩, q3, q4, hR0, hb0, by omega, hf⟩
  have hlt0 : g < w.heap.size ∧ gc < w.heap.size ∧ gb < w.heap.size ∧ gb2 < w.heap.size := h.heap.gl
  have henv : 0 < w.heap.size := he.lt
  have hxl : xs.length ≤ os.length := by
    have h1 : (ksOf xs).Nodup := hst.ks.nd
    have := len_le os.length (ksOf xs) h1 (fun x hx => hst.ks.lt x hx)
    unfold ksOf at this
    simpa using this
  have hol : os.length ≤ (Lof os).length := by
    have key : ∀ k, k ≤ os.length → k ≤ pos os k := fun k => by
      induction k with
      | zero => intro _; exact Nat.zero_le _
      | succ k ih => intro hk; have h1 := pos_lt os (k := k) (m := k + 1) (by omega) hk; have h2 := ih (by omega); omega
    have := key _ (Nat.le_refl _)
    rwa [pos_all] at this
  have hobx : ∀ pre : List (Kx os fs), pre.length < xs.length → (Lof (obsX pre)).length ≤ 200000 := fun pre hp => by
    have h1 := obsX_len pre
    have h2 : pre.length * (Lof os).length ≤ 400 * 400 := Nat.mul_le_mul (by omega) hsm
    omega
  refine wpIn_rangeFunc_ownH rfl (by omega) (gf := 65) (lb := #[.pointer (some ⟨w.heap.size + 4, 0, none⟩)]) rfl trivial (enters_of Tryd.func65 (by kernel_rfl) rfl)
    (each_stops 3 (by omega) hst (fun k _ => k = w.heap.size ∨ k = w.heap.size + 3) W0 (fun k hk hz => by omega) hS0.gcof) KpG.trans (fun W l o o' _ h1 h2 _ => kpg_put W l o o' h1 h2) (Below.refl _ _) (fun _ => rfl)
    (fun pre W => PlanI w base g gc cap gb gb2 size last sb os ws fs pre W)
    (fun _ _ _ => False)
    (fun pre W W' row hs hg hr => PlanI.own pre W W' row hs hg (fun r e => ⟨by rw [← hsz]; exact (hr r e).1, (hr r e).2⟩))
    (fun _ _ _ _ _ hs _ _ => hs)
    hS0
    (fun x a' W => ∃ Bx, w.heap.size + 5 ≤ Bx ∧ W.heap[Bx]? = some (.cells #[.int .u64 ((os[x.1]'x.2.1).cl : Int), .int .i64 ((os[x.1]'x.2.1).kind : Int), .int .i64 ((os[x.1]'x.2.1).sz : Int), .int .u32 ((os[x.1]'x.2.1).hash : Int), .bool (os[x.1]'x.2.1).mark] 52 (0, 0)) ∧
      a' = { tmps := #[.pointer (some ⟨g, 0, none⟩), .pointer (some ⟨sb, 0, none⟩), undef, undef, .pointer none, .pointer (some ⟨w.heap.size + 1 + 1, 0, none⟩), .pointer (some ⟨w.heap.size + 1 + 1 + 1, 0, none⟩), .int .i64 (pos os x.1 : Int), .pointer (some ⟨Bx, 0, none⟩), .pointer (some ⟨g, 0, none⟩), .pointer (some ⟨sb, 0, none⟩), .pointer (some ⟨g, 0, none⟩), .int .i64 ((Lof os).length : Int), .slice (some ⟨w.heap.size, 0, none⟩) (Lof os).length (Lof os).length, .agg #[.pointer (some ⟨g, 0, none⟩), .pointer (some ⟨sb, 0, none⟩), .slice (some ⟨w.heap.size, 0, none⟩) (Lof os).length (Lof os).length], .pointer (some ⟨w.heap.size + 1, 0, none⟩), .pointer (some ⟨w.heap.size + 1, 0, none⟩), .func (.func 65) #[] #[.pointer (some ⟨w.heap.size + 1 + 1 + 1 + 1, 0, none⟩)], .int .i64 (pos os x.1 : Int), headV (os[x.1]'x.2.1), undef, undef, undef, undef, undef, undef, undef, undef, undef, undef, undef, undef, undef, undef, undef, undef, undef], defers := [] })
    (fun x a' _ X Y row hs hg hr => by obtain ⟨Bx, h1, h2, h3⟩ := hs; exact ⟨Bx, h1, (grownBy_keeps_cells hg (fun r e => (hr r e).2) h2 rfl).trans h2, h3⟩)
    ?assign ?body ?done ?stop
  case assign =>
    rintro l pre x W K hS hK
    unfold encK headV
    have hsw := hS.top
    gi_wp2
    exact hK _ _ ((KeepsOthers.alloc _ _).from _) ⟨by simp, fun k cs T fr hc _ => Below.heap_alloc W _ k (lt_of_block hc), fun hh => hh.below ((Below.refl _ _).alloc (Nat.le_refl _) _)⟩ (hS.grown ((Below.refl _ _).alloc (Nat.le_refl _) _)) ⟨W.heap.size, hsw, heap_alloc_new W _, rfl⟩
  case body =>
    rintro l pre x a' W hl - hS ⟨Bx, hBx, hX, rfl⟩ hlt
    have hob := hobx pre hlt
    have htop := pos_top os x.2.1
    have hxl2 : (gofX (List.replicate (Lof os).length 0) pre).length = (Lof os).length := by rw [gofX_len, List.length_replicate]
    have hG2 : 2 ≤ (Lof (obsX pre)).length := by unfold Lof; simp
    have hpt := fun w' => pointer_in ((Lof (obsX pre)).length : Int) w' (by omega) (by omega)
    have hok := hS.gcof.obs.okAt x.2.1
    have hce := fun w' => cells_any (os[x.1]'x.2.1).cl (os[x.1]'x.2.1).kind (os[x.1]'x.2.1).sz (os[x.1]'x.2.1).hash (os[x.1]'x.2.1).mark w' (by omega) (by have := hok.lt; omega)
    rw [hok.len] at hce
    have fL := rdrd_of_row hS.gcof.look
    have f5 := one_cellW hS.l5
    have f6 := one_cellW hS.l6
    have fX := cells5 hX
    have hgc := ownH_cell hS.row hxl2 (j := pos os x.1) (by omega)
    have hgf := ownH_free hS.row hxl2 (pos os x.1)
    have hset := ownH_set hS.row hxl2 (pos os x.1) (2 * (Lof (obsX pre)).length)
    rw [← gofX_snoc] at hset
    have hrow : ∃ cur, W.heap[w.heap.size]? = some (.cells cur 38 (0, 0)) := by
      rcases hS.row.2 with ⟨e, _⟩ | ⟨g', cap', cur, e, _, hg, _⟩
      · cases e
      · injection e with e1
        injection e1 with e1
        injection e1 with e1
        subst e1
        exact ⟨cur, hg⟩
    gi_wp2
    rename_i hKo
    have HKo := Lib.hid hKo
    clear hKo
    refine wpIn_round_held (S := fun w' : World => w'.cell? ⟨w.heap.size + 2, 0, none⟩ = some (.pointer (some ⟨w.heap.size + 1, 0, none⟩)) ∧ w'.cell? ⟨w.heap.size + 1, 2, none⟩ = some (.slice (some ⟨w.heap.size, 0, none⟩) (Lof os).length (Lof os).length) ∧ w'.cell? ⟨w.heap.size + 3, 0, none⟩ = some (.int .i64 ((Lof (obsX pre)).length : Int))) (by simp [Undeferred]) (by kernel_rfl) ⟨f5.1, fL.2.2.1, f6.1⟩ (fun hHeld => ?_)
    have hpU : pos os x.1 < (Lof os).length := by omega
    refine wpAnyH_take (i := 0) (v := ?_) (by first | (simp only [List.getElem?_toArray, List.getElem?_cons_zero]; rfl) | rfl) (by kernel_rfl) (by kernel_rfl) (by kernel_rfl) (fun _ _ _ h => (by cases h.1)) (Or.inl ⟨by rfl, ?_⟩) (by assumption) ?_
    rotate_left 1
    · (intro w' hSw; (try dsimp only at hSw); go_simp; (try with_reducible rfl))
    try simp only [Act.put, List.setIfInBounds_toArray, List.set_cons_zero, List.set_cons_succ]
    refine wpAnyH_take (i := 1) (v := ?_) (by first | (simp only [List.getElem?_toArray, List.getElem?_cons_succ, List.getElem?_cons_zero]; rfl) | rfl) (by kernel_rfl) (by kernel_rfl) (by kernel_rfl) (fun _ _ _ h => (by cases h.1)) (Or.inl ⟨by rfl, ?_⟩) (by assumption) ?_
    rotate_left 1
    · (intro w' hSw; (try dsimp only at hSw); go_simp; (try with_reducible rfl))
    try simp only [Act.put, List.setIfInBounds_toArray, List.set_cons_zero, List.set_cons_succ]
    refine wpAnyH_take (i := 2) (v := ?_) (by first | (simp only [List.getElem?_toArray, List.getElem?_cons_succ, List.getElem?_cons_zero]; rfl) | rfl) (by kernel_rfl) (by kernel_rfl) (by kernel_rfl) (fun _ _ _ h => (by cases h.1)) (Or.inl ⟨by rfl, ?_⟩) (by assumption) ?_
    rotate_left 1
    · (intro w' hSw; (try dsimp only at hSw); go_simp; (try with_reducible rfl))
    try simp only [Act.put, List.setIfInBounds_toArray, List.set_cons_zero, List.set_cons_succ]
    refine wpAnyH_take (i := 3) (v := ?_) (by first | (simp only [List.getElem?_toArray, List.getElem?_cons_succ, List.getElem?_cons_zero]; rfl) | rfl) (by kernel_rfl) (by kernel_rfl) (by kernel_rfl) (fun _ _ _ h => (by cases h.1)) (Or.inl ⟨by rfl, ?_⟩) (by assumption) ?_
    rotate_left 1
    · (intro w' hSw; (try dsimp only at hSw); go_simp; (try with_reducible rfl))
    try simp only [Act.put, List.setIfInBounds_toArray, List.set_cons_zero, List.set_cons_succ]
    refine wpAnyH_take (i := 4) (v := ?_) (by first | (simp only [List.getElem?_toArray, List.getElem?_cons_succ, List.getElem?_cons_zero]; rfl) | rfl) (by kernel_rfl) (by kernel_rfl) (by kernel_rfl) (fun _ _ _ h => (by cases h.1)) (Or.inl ⟨by rfl, ?_⟩) (by assumption) ?_
    rotate_left 1
    · (intro w' hSw; (try dsimp only at hSw); go_simp; (try with_reducible rfl))
    try simp only [Act.put, List.setIfInBounds_toArray, List.set_cons_zero, List.set_cons_succ]
    refine wpAnyH_take (i := 5) (v := ?_) (by first | (simp only [List.getElem?_toArray, List.getElem?_cons_succ, List.getElem?_cons_zero]; rfl) | rfl) (by kernel_rfl) (by kernel_rfl) (by kernel_rfl) (fun _ _ _ h => (by cases h.1)) (Or.inl ⟨by rfl, ?_⟩) (by assumption) ?_
    rotate_left 1
    · (intro w' hSw; (try dsimp only at hSw); go_simp; (try with_reducible rfl))
    try simp only [Act.put, List.setIfInBounds_toArray, List.set_cons_zero, List.set_cons_succ]
    refine wpAnyH_ready (rs := [6]) (by kernel_rfl) (by simp) ?_
    refine AllReadyH.cons (by first | (simp only [List.getElem?_toArray, List.getElem?_cons_succ, List.getElem?_cons_zero]; rfl) | rfl) (fun K hK => ?_) AllReadyH.nil
    go_simp
    with_reducible refine (hpt _).mono ?_
    rintro e wA ⟨rfl, rfl⟩
    try (go_wp2_with fail)
    refine hK.out _ _ ⟨f5.1, fL.2.2.1, f6.1⟩ (fun hHeld => ?_)
    clear hK K
    try simp only [Act.put, List.setIfInBounds_toArray, List.set_cons_zero, List.set_cons_succ]
    refine wpAnyH_take (i := 7) (v := ?_) (by first | (simp only [List.getElem?_toArray, List.getElem?_cons_succ, List.getElem?_cons_zero]; rfl) | rfl) (by kernel_rfl) (by kernel_rfl) (by kernel_rfl) (fun _ _ _ h => (by cases h.1)) (Or.inl ⟨by rfl, ?_⟩) (by assumption) ?_
    rotate_left 1
    · (intro w' hSw; (try dsimp only at hSw); go_simp; (try with_reducible rfl))
    try simp only [Act.put, List.setIfInBounds_toArray, List.set_cons_zero, List.set_cons_succ]
    refine wpAnyH_take (i := 8) (v := ?_) (by first | (simp only [List.getElem?_toArray, List.getElem?_cons_succ, List.getElem?_cons_zero]; rfl) | rfl) (by kernel_rfl) (by kernel_rfl) (by kernel_rfl) (fun _ _ _ h => (by cases h.1)) (Or.inl ⟨by rfl, ?_⟩) (by assumption) ?_
    rotate_left 1
    · (intro w' hSw; (try dsimp only at hSw); go_simp; (try with_reducible rfl))
    try simp only [Act.put, List.setIfInBounds_toArray, List.set_cons_zero, List.set_cons_succ]
    refine wpAnyH_take (i := 9) (v := ?_) (by first | (simp only [List.getElem?_toArray, List.getElem?_cons_succ, List.getElem?_cons_zero]; rfl) | rfl) (by kernel_rfl) (by kernel_rfl) (by kernel_rfl) (fun _ _ _ h => (by cases h.1)) (Or.inl ⟨by rfl, ?_⟩) (by assumption) ?_
    rotate_left 1
    · (intro w' hSw; (try dsimp only at hSw); go_simp; (try with_reducible rfl))
    try simp only [Act.put, List.setIfInBounds_toArray, List.set_cons_zero, List.set_cons_succ]
    refine wpAnyH_take (i := 10) (v := ?_) (by first | (simp only [List.getElem?_toArray, List.getElem?_cons_succ, List.getElem?_cons_zero]; rfl) | rfl) (by kernel_rfl) (by kernel_rfl) (by kernel_rfl) (fun _ _ _ h => (by cases h.1)) (Or.inl ⟨by rfl, ?_⟩) (by assumption) ?_
    rotate_left 1
    · (intro w' hSw; (try dsimp only at hSw); go_simp; (try with_reducible rfl))
    try simp only [Act.put, List.setIfInBounds_toArray, List.set_cons_zero, List.set_cons_succ]
    refine wpAnyH_ready (rs := [11]) (by kernel_rfl) (by simp) ?_
    refine AllReadyH.cons (by first | (simp only [List.getElem?_toArray, List.getElem?_cons_succ, List.getElem?_cons_zero]; rfl) | rfl) (fun K hK => ?_) AllReadyH.nil
    go_simp
    have e2 : ((Lof (obsX pre)).length : Int) * 2 = ((2 * (Lof (obsX pre)).length : Nat) : Int) := by omega
    rw [e2]
    have h1 : One w.heap.size W (W.setCell ⟨w.heap.size, pos os x.1, none⟩ (.int .u64 ((2 * (Lof (obsX pre)).length : Nat) : Int))) := (One.refl _ _).setCell _ _
    obtain ⟨W1, hW1⟩ : ∃ W1, W.setCell ⟨w.heap.size, pos os x.1, none⟩ (.int .u64 ((2 * (Lof (obsX pre)).length : Nat) : Int)) = W1 := ⟨_, rfl⟩
    rw [hW1] at h1 hset ⊢
    clear hW1
    have k5 := (h1.block _ (by omega : w.heap.size + 2 ≠ w.heap.size)).trans hS.l5
    have k6 := (h1.block _ (by omega : w.heap.size + 3 ≠ w.heap.size)).trans hS.l6
    have kL := (h1.block _ (by omega : w.heap.size + 1 ≠ w.heap.size)).trans hS.gcof.look
    have kX := (h1.block _ (by omega : Bx ≠ w.heap.size)).trans hX
    refine hK.out _ _ ⟨(one_cellW k5).1, (rdrd_of_row kL).2.2.1, (one_cellW k6).1⟩ (fun _ => ?_)
    clear hK K hHeld
    try simp only [Act.put, List.setIfInBounds_toArray, List.set_cons_zero, List.set_cons_succ]
    refine wpAnyH_done (by kernel_rfl) ⟨rfl, ?_⟩ _
    refine HKo.out _ _ ?_
    clear HKo fL f5 f6 fX hgc hgf hpt
    have f6 := one_cellW k6
    have fX := cells5 kX
    refine wpIn_round_held (S := fun w' : World => w'.cell? ⟨Bx, 0, none⟩ = some (.int .u64 ((os[x.1]'x.2.1).cl : Int)) ∧ w'.cell? ⟨Bx, 1, none⟩ = some (.int .i64 ((os[x.1]'x.2.1).kind : Int)) ∧ w'.cell? ⟨Bx, 2, none⟩ = some (.int .i64 ((os[x.1]'x.2.1).sz : Int)) ∧ w'.cell? ⟨Bx, 3, none⟩ = some (.int .u32 ((os[x.1]'x.2.1).hash : Int)) ∧ w'.cell? ⟨Bx, 4, none⟩ = some (.bool (os[x.1]'x.2.1).mark)) (by simp [Undeferred]) (by kernel_rfl) fX (fun hHeld => ?_)
    refine wpAnyH_take (i := 1) (v := ?_) (by first | (simp only [List.getElem?_toArray, List.getElem?_cons_succ, List.getElem?_cons_zero]; rfl) | rfl) (by kernel_rfl) (by kernel_rfl) (by kernel_rfl) (fun _ _ _ h => (by cases h.1)) (Or.inl ⟨by rfl, ?_⟩) (by assumption) ?_
    rotate_left 1
    · (intro w' hSw; (try dsimp only at hSw); go_simp; (try with_reducible rfl))
    try simp only [Act.put, List.setIfInBounds_toArray, List.set_cons_zero, List.set_cons_succ]
    refine wpAnyH_ready (rs := [0, 2]) (by kernel_rfl) (by simp) ?_
    refine AllReadyH.cons (by first | (simp only [List.getElem?_toArray, List.getElem?_cons_zero]; rfl) | rfl) (fun K hK => ?_) (AllReadyH.cons (by first | (simp only [List.getElem?_toArray, List.getElem?_cons_succ, List.getElem?_cons_zero]; rfl) | rfl) (fun K hK => ?_) AllReadyH.nil)
    · go_simp
      refine hK.out _ _ fX (fun hHeld => ?_)
      clear hK K
      try simp only [Act.put, List.setIfInBounds_toArray, List.set_cons_zero, List.set_cons_succ]
      refine wpAnyH_ready (rs := [2]) (by kernel_rfl) (by simp) ?_
      refine AllReadyH.cons (by first | (simp only [List.getElem?_toArray, List.getElem?_cons_succ, List.getElem?_cons_zero]; rfl) | rfl) (fun K hK => ?_) AllReadyH.nil
      go_simp
      with_reducible refine (hce _).mono ?_
      rintro e W2 ⟨rfl, hb2⟩
      try (go_wp2_with fail)
      have h2 : Below W1.heap.size W1 W2 := ((Below.refl W1.heap.size W1).drew.drew).trans hb2
      have m6 := (h2.block _ (lt_of_block k6)).trans k6
      have mX := (h2.block _ (lt_of_block kX)).trans kX
      have f6 := one_cellW m6
      refine hK.out _ _ (cells5 mX) (fun hHeld => ?_)
      clear hK K
      try simp only [Act.put, List.setIfInBounds_toArray, List.set_cons_zero, List.set_cons_succ]
      refine wpAnyH_take (i := 3) (v := ?_) (by first | (simp only [List.getElem?_toArray, List.getElem?_cons_succ, List.getElem?_cons_zero]; rfl) | rfl) (by kernel_rfl) (by kernel_rfl) (by kernel_rfl) (fun _ _ _ h => (by cases h.1)) (Or.inl ⟨by rfl, ?_⟩) (by assumption) ?_
      rotate_left 1
      · (intro w' hSw; (try dsimp only at hSw); go_simp; (try with_reducible rfl))
      try simp only [Act.put, List.setIfInBounds_toArray, List.set_cons_zero, List.set_cons_succ]
      refine wpAnyH_take (i := 4) (v := ?_) (by first | (simp only [List.getElem?_toArray, List.getElem?_cons_succ, List.getElem?_cons_zero]; rfl) | rfl) (by kernel_rfl) (by kernel_rfl) (by kernel_rfl) (fun _ _ _ h => (by cases h.1)) (Or.inl ⟨by rfl, ?_⟩) (by assumption) ?_
      rotate_left 1
      · (intro w' hSw; (try dsimp only at hSw); go_simp; (try with_reducible rfl))
      try simp only [Act.put, List.setIfInBounds_toArray, List.set_cons_zero, List.set_cons_succ]
      refine wpAnyH_ready (rs := [5]) (by kernel_rfl) (by simp) ?_
      refine AllReadyH.cons (by first | (simp only [List.getElem?_toArray, List.getElem?_cons_succ, List.getElem?_cons_zero]; rfl) | rfl) (fun K hK => ?_) AllReadyH.nil
      go_simp
      have hgr := obsX_grow pre x
      have hxl9 : (os[x.1]'x.2.1).xs.length ≤ 400 := by omega
      obtain ⟨n9, hn9⟩ : ∃ n9, (os[x.1]'x.2.1).xs.length = n9 := ⟨_, rfl⟩
      obtain ⟨m9, hm9⟩ : ∃ m9, (Lof (obsX pre)).length = m9 := ⟨_, rfl⟩
      rw [hn9, hm9] at hgr
      rw [hn9] at hxl9
      rw [hm9] at hob
      have e5 : IntKind.i64.wrap (2 + ((os[x.1]'x.2.1).xs.length : Int)) = ((2 + n9 : Nat) : Int) := by rw [hn9]; exact (IntWalk.i64_in _ (by omega)).trans (by omega)
      have e6 : IntKind.i64.wrap (((Lof (obsX pre)).length : Int) + ((2 + n9 : Nat) : Int)) = ((Lof (obsX (pre ++ [x]))).length : Int) := by rw [hgr, hm9]; exact (IntWalk.i64_in _ (by omega)).trans (by omega)
      rw [e5, e6]
      have h3 : One (w.heap.size + 3) W2 (W2.setCell ⟨w.heap.size + 3, 0, none⟩ (.int .i64 ((Lof (obsX (pre ++ [x]))).length : Int))) := (One.refl _ _).setCell _ _
      have hl6 : (W2.setCell ⟨w.heap.size + 3, 0, none⟩ (.int .i64 ((Lof (obsX (pre ++ [x]))).length : Int))).heap[w.heap.size + 3]? = some (.cells #[.int .i64 ((Lof (obsX (pre ++ [x]))).length : Int)] 3 (0, 0)) := heap_setCell_same W2 _ 0 _ _ _ m6
      have hcx := cells5 ((h3.block Bx (by omega)).trans mX)
      obtain ⟨hst1, hst2, hst3⟩ := hS.step hlt0 henv h1 hset h2 h3 hl6
      refine hK.out _ _ hcx (fun _ => ?_)
      refine wpAnyH_done (by kernel_rfl) ⟨rfl, ?_⟩ _
      exact ⟨⟨hst1.1, fun k o hk1 hko _ => (hst1.2 k (lt_of_block hko) (by omega) (by omega)).trans hko⟩, hst2, hst3⟩
    · go_simp
      with_reducible refine (hce _).mono ?_
      rintro e W2 ⟨rfl, hb2⟩
      try (go_wp2_with fail)
      have h2 : Below W1.heap.size W1 W2 := ((Below.refl W1.heap.size W1).drew.drew).trans hb2
      have m6 := (h2.block _ (lt_of_block k6)).trans k6
      have mX := (h2.block _ (lt_of_block kX)).trans kX
      have f6 := one_cellW m6
      refine hK.out _ _ (cells5 mX) (fun hHeld => ?_)
      clear hK K
      try simp only [Act.put, List.setIfInBounds_toArray, List.set_cons_zero, List.set_cons_succ]
      refine wpAnyH_take (i := 3) (v := ?_) (by first | (simp only [List.getElem?_toArray, List.getElem?_cons_succ, List.getElem?_cons_zero]; rfl) | rfl) (by kernel_rfl) (by kernel_rfl) (by kernel_rfl) (fun _ _ _ h => (by cases h.1)) (Or.inl ⟨by rfl, ?_⟩) (by assumption) ?_
      rotate_left 1
      · (intro w' hSw; (try dsimp only at hSw); go_simp; (try with_reducible rfl))
      try simp only [Act.put, List.setIfInBounds_toArray, List.set_cons_zero, List.set_cons_succ]
      refine wpAnyH_ready (rs := [0]) (by kernel_rfl) (by simp) ?_
      refine AllReadyH.cons (by first | (simp only [List.getElem?_toArray, List.getElem?_cons_zero]; rfl) | rfl) (fun K hK => ?_) AllReadyH.nil
      go_simp
      refine hK.out _ _ (cells5 mX) (fun hHeld => ?_)
      clear hK K
      try simp only [Act.put, List.setIfInBounds_toArray, List.set_cons_zero, List.set_cons_succ]
      refine wpAnyH_take (i := 4) (v := ?_) (by first | (simp only [List.getElem?_toArray, List.getElem?_cons_succ, List.getElem?_cons_zero]; rfl) | rfl) (by kernel_rfl) (by kernel_rfl) (by kernel_rfl) (fun _ _ _ h => (by cases h.1)) (Or.inl ⟨by rfl, ?_⟩) (by assumption) ?_
      rotate_left 1
      · (intro w' hSw; (try dsimp only at hSw); go_simp; (try with_reducible rfl))
      try simp only [Act.put, List.setIfInBounds_toArray, List.set_cons_zero, List.set_cons_succ]
      refine wpAnyH_ready (rs := [5]) (by kernel_rfl) (by simp) ?_
      refine AllReadyH.cons (by first | (simp only [List.getElem?_toArray, List.getElem?_cons_succ, List.getElem?_cons_zero]; rfl) | rfl) (fun K hK => ?_) AllReadyH.nil
      go_simp
      have hgr := obsX_grow pre x
      have hxl9 : (os[x.1]'x.2.1).xs.length ≤ 400 := by omega
      obtain ⟨n9, hn9⟩ : ∃ n9, (os[x.1]'x.2.1).xs.length = n9 := ⟨_, rfl⟩
      obtain ⟨m9, hm9⟩ : ∃ m9, (Lof (obsX pre)).length = m9 := ⟨_, rfl⟩
      rw [hn9, hm9] at hgr
      rw [hn9] at hxl9
      rw [hm9] at hob
      have e5 : IntKind.i64.wrap (2 + ((os[x.1]'x.2.1).xs.length : Int)) = ((2 + n9 : Nat) : Int) := by rw [hn9]; exact (IntWalk.i64_in _ (by omega)).trans (by omega)
      have e6 : IntKind.i64.wrap (((Lof (obsX pre)).length : Int) + ((2 + n9 : Nat) : Int)) = ((Lof (obsX (pre ++ [x]))).length : Int) := by rw [hgr, hm9]; exact (IntWalk.i64_in _ (by omega)).trans (by omega)
      rw [e5, e6]
      have h3 : One (w.heap.size + 3) W2 (W2.setCell ⟨w.heap.size + 3, 0, none⟩ (.int .i64 ((Lof (obsX (pre ++ [x]))).length : Int))) := (One.refl _ _).setCell _ _
      have hl6 : (W2.setCell ⟨w.heap.size + 3, 0, none⟩ (.int .i64 ((Lof (obsX (pre ++ [x]))).length : Int))).heap[w.heap.size + 3]? = some (.cells #[.int .i64 ((Lof (obsX (pre ++ [x]))).length : Int)] 3 (0, 0)) := heap_setCell_same W2 _ 0 _ _ _ m6
      have hcx := cells5 ((h3.block Bx (by omega)).trans mX)
      obtain ⟨hst1, hst2, hst3⟩ := hS.step hlt0 henv h1 hset h2 h3 hl6
      refine hK.out _ _ hcx (fun _ => ?_)
      refine wpAnyH_done (by kernel_rfl) ⟨rfl, ?_⟩ _
      exact ⟨⟨hst1.1, fun k o hk1 hko _ => (hst1.2 k (lt_of_block hko) (by omega) (by omega)).trans hko⟩, hst2, hst3⟩
  case done =>
    rintro D ys W hD rfl hS hK
    have f5 := one_cellW hS.l5
    gi_wp2
    have hp : ∀ k, k ≠ D → (W.putObj D (.deferred none)).heap[k]? = W.heap[k]? := fun k hk => World.putObj_heap_other hk
    refine ⟨by simp, .inl ⟨_, _, rfl, run_takeDeferred hK, ?_⟩⟩
    obtain ⟨W3, hW3⟩ : ∃ W3, W.putObj D (.deferred none) = W3 := ⟨_, rfl⟩
    have hs3 : W3.heap.size = W.heap.size := by rw [← hW3]; simp
    have ho3 : W3.os = W.os ∧ W3.tape = W.tape ∧ W3.output = W.output := by rw [← hW3]; exact ⟨rfl, rfl, rfl⟩
    rw [hW3] at hp ⊢
    clear hW3
    have hD5 : w.heap.size + 5 ≤ D := by omega
    refine ⟨.pointer (some ⟨w.heap.size + 1, 0, none⟩), by simp [results, Tryd.results27, go_sem], w.heap.size + 1, w.heap.size, _, rfl, (hp _ (by omega)).trans hS.gcof.look, ownH_at hS.row (hp _ (by omega)), by rw [gofX_len, List.length_replicate], goals_ok hst _ (by rw [List.length_replicate]), by omega, Nat.le_refl _, ⟨ho3.1.trans hS.below.os, ho3.2.1.trans hS.below.tape, ho3.2.2.trans hS.below.output, by rw [hs3]; exact hS.below.size, fun k hk => (hp k (by omega)).trans (hS.below.block k hk)⟩⟩
  case stop =>
    rintro D c pre W hD _ hx hK
    exact hx.elim
end
end Go.Proofs.YtahmljjjdoaahaaDoor.Fl

/-
  What stays of memory: the words of memory with nothing in it but that (laid).
-/
namespace Go.Proofs.YtahmljjjdoaahaaDoor.Fl
open Go.RowKit Go.Shelf
attribute [local go_sem] Oper.semAt_some wide_fn

section
variable {base g gc cap gb gb2 size last lk sb gG U Bn : Nat} {os : List Ob} {ws fs : List Nat} {xs : List (Kx os fs)}
theorem turnL_one (f : Nat → Nat) (F : List Nat) (c : Nat) (r : List Nat) : turnL f F.length 1 (F ++ (c :: r)) = F ++ (f c :: r) := by
  unfold turnL
  rw [List.take_left' rfl, List.drop_left' rfl, List.drop_append, List.drop_of_length_le (by omega), List.nil_append, show F.length + 1 - F.length = 1 by omega]
  rfl
theorem turnL_rest (f : Nat → Nat) (F : List Nat) (a b : Nat) (r : List Nat) : turnL f (F.length + 2) r.length (F ++ (a :: b :: r)) = F ++ (a :: b :: r.map f) := by
  unfold turnL
  rw [List.take_append, List.take_of_length_le (by omega : F.length ≤ F.length + 2), show F.length + 2 - F.length = 2 by omega, List.drop_append, List.drop_of_length_le (by omega : F.length ≤ F.length + 2), List.nil_append, show F.length + 2 - F.length = 2 by omega,
    List.drop_of_length_le (by simp; omega : (F ++ (a :: b :: r)).length ≤ F.length + 2 + r.length), List.append_nil]
  show F ++ [a, b] ++ (r.take r.length).map f = _
  rw [List.take_length, List.append_assoc]; rfl
/-- the cells of some objects, turned -/
def laidF (gl : Nat → Nat) (pre : List (Kx os fs)) : List Nat := flat ((obsX pre).map (turnO gl))
theorem laidF_snoc (gl : Nat → Nat) (pre : List (Kx os fs)) (x : Kx os fs) : laidF gl (pre ++ [x]) = laidF gl pre ++ (turnO gl (os[x.1]'x.2.1)).cells := by
  unfold laidF
  rw [obsX_snoc, List.map_append, flat_append]
  show _ ++ flat [_] = _
  rw [flat_one]
theorem laidF_len (gl : Nat → Nat) (pre : List (Kx os fs)) : (laidF gl pre).length + 2 = (Lof (obsX pre)).length := by
  have := Lof_map_len (turnO gl) (turnO_len gl) (obsX pre)
  unfold Lof at this ⊢
  simpa [laidF] using this
theorem laidF_all (xs : List (Kx os fs)) : laidF (goal os (ksOf xs)) xs = flat (moved os (ksOf xs)) := by
  unfold laidF moved
  rw [sub_ks]; rfl
/-- the cells of an object among all words -/
theorem words_at {k : Nat} (hk : k < os.length) : (((Lof os).drop 2).drop (pos os k - 2)).take (2 + os[k].xs.length) = os[k].cells := by
  have h2 := pos_two os k
  rw [List.drop_drop, show 2 + (pos os k - 2) = pos os k by omega, Lof_split os hk, List.drop_append, List.drop_of_length_le (by unfold pos; omega), List.nil_append, show pos os k - (Lof (os.take k)).length = 0 by unfold pos; omega, List.drop_zero,
    List.take_left' (by rw [Ob.cells_len]; omega)]
/-- all words of memory, also of none -/
def RowPost2 (ws : List Nat) (w : World) (e : Ending) (w' : World) : Prop := ∃ A c, e = .returned (.slice A ws.length c) ∧ (0 < ws.length → OwnH w' w.heap.size (.slice A ws.length c) ws) ∧ Below w.heap.size w w'
theorem hWords_total {L : List Nat} (w : World) (h : HeapAt w base g gc cap gb gb2 size last L ws) : Calls Tryd.prog 56 #[.pointer (some ⟨g, 0, none⟩)] w (RowPost2 (L.drop 2) w) := by
  by_cases h2 : 2 < L.length
  · refine (hWords_any w h h2).mono ?_
    rintro e w' ⟨A, c, rfl, ho, hb⟩
    exact ⟨A, c, rfl, fun _ => ho, hb⟩
  · have hl : L.length = 2 := by have := h.two; omega
    have hu := used_any w h
    have hd : (L.drop 2).length = 0 := by simp; omega
    rw [hl] at hu
    clear h h2
    unfold RowPost2
    rw [hd]
    go_enter Tryd.func56, Tryd.ntmps56
    go_wp2_with (go_at_call 14; (with_reducible refine hu.mono ?_); rintro e w' ⟨rfl, rfl⟩)
    go_ret
    exact ⟨none, 0, rfl, fun h => absurd h (by omega), Below.refl _ _⟩
/-- whatever what stays leads to stays -/
def ClosedF (os : List Ob) (fs : List Nat) : Prop := ∀ k (hk : k < os.length), 2 * pos os k ∈ fs → ∀ y ∈ os[k].leads, isW y → y ∈ fs
/-- what stands between two rounds -/
structure LaidI (w0 : World) (base g gc cap gb gb2 size last lk sb gG B1 B5 B6 NA NB Bn cA : Nat) (A : Option Addr) (os : List Ob) (ws fs : List Nat) (G : List Nat) (gl : Nat → Nat) (pre : List (Kx os fs)) (W : World) : Prop where
  gcof : GcOf base g gc cap gb gb2 size last lk sb gG (Lof os).length Bn os ws fs W
  goals : OwnH W B1 (.slice (some ⟨gG, 0, none⟩) (Lof os).length (Lof os).length) G
  l2 : W.heap[w0.heap.size]? = some (.cells #[.pointer (some ⟨lk, 0, none⟩)] 85 (0, 0))
  l5 : W.heap[B5]? = some (.cells #[.slice A ((Lof os).drop 2).length cA] 44 (0, 0))
  all : 0 < ((Lof os).drop 2).length → OwnH W NA (.slice A ((Lof os).drop 2).length cA) ((Lof os).drop 2)
  out : ∃ bo co, bo ≠ gG ∧ NB ≤ bo ∧ W.heap[B6]? = some (.cells #[.slice (some ⟨bo, 0, none⟩) (laidF gl pre).length co] 44 (0, 0)) ∧ OwnH W NB (.slice (some ⟨bo, 0, none⟩) (laidF gl pre).length co) (laidF gl pre)
  below : Below w0.heap.size w0 W
  top : Bn < W.heap.size ∧ B6 < Bn ∧ B5 < NB ∧ NB < B6 ∧ w0.heap.size < B5 ∧ (0 < ((Lof os).drop 2).length → ∀ a, A = some a → a.block < NB)
theorem LaidI.own {w0 : World} {N B1 B5 B6 NA NB cA : Nat} {A : Option Addr} {G : List Nat} {gl : Nat → Nat} (hN : Bn < N) : OwnFrom N (LaidI w0 base g gc cap gb gb2 size last lk sb gG B1 B5 B6 NA NB Bn cA A os ws fs G gl) := fun pre W W' row h hg hr => by
  have hk : ∀ (k : Nat) cs T fr, W.heap[k]? = some (Obj.cells cs T fr) → W'.heap[k]? = W.heap[k]? := fun k cs T fr hc => grownBy_keeps_cells hg (fun r e => (hr r e).2) hc rfl
  have hlow : ∀ k, k ≤ Bn → W'.heap[k]? = W.heap[k]? := fun k hk => hg.block k (Nat.lt_of_le_of_lt hk h.top.1) (fun e => by have := (hr k e.symm).1; omega)
  obtain ⟨bo, co, o1, o2, o3, o4⟩ := h.out
  obtain ⟨t1, t2, t3, t4, t5, t6⟩ := h.top
  exact ⟨h.gcof.keepAll hk, h.goals.keep (fun k cur hc => hk _ _ _ _ hc), (hk _ _ _ _ h.l2).trans h.l2, (hk _ _ _ _ h.l5).trans h.l5, fun h0 => (h.all h0).keep (fun k cur hc => hk _ _ _ _ hc),
    ⟨bo, co, o1, o2, (hk _ _ _ _ o3).trans o3, o4.keep (fun k cur hc => hk _ _ _ _ hc)⟩, ⟨hg.os.trans h.below.os, hg.tape.trans h.below.tape, hg.output.trans h.below.output, Nat.le_trans h.below.size hg.size, fun k hk => (hlow k (by omega)).trans (h.below.block k hk)⟩, ⟨Nat.lt_of_lt_of_le t1 hg.size, t2, t3, t4, t5, t6⟩⟩
/-- what has changed: nothing that was there but two blocks -/
structure Ch2 (a b : Nat) (W W' : World) : Prop where
  os : W'.os = W.os
  tape : W'.tape = W.tape
  output : W'.output = W.output
  size : W.heap.size ≤ W'.heap.size
  block : ∀ k, k < W.heap.size → k ≠ a → k ≠ b → W'.heap[k]? = W.heap[k]?
theorem Ch2.below {a b : Nat} {W W1 W' : World} (h : Ch2 a b W W1) (hb : Below W1.heap.size W1 W') : Ch2 a b W W' :=
  ⟨hb.os.trans h.os, hb.tape.trans h.tape, hb.output.trans h.output, Nat.le_trans h.size hb.size, fun k k1 k2 k3 => (hb.block k (Nat.lt_of_lt_of_le k1 h.size)).trans (h.block k k1 k2 k3)⟩
theorem Ch2.refl (a b : Nat) (W : World) : Ch2 a b W W := ⟨rfl, rfl, rfl, Nat.le_refl _, fun _ _ _ _ => rfl⟩
theorem Ch2.one {a b c : Nat} {W W1 W' : World} (h : Ch2 a b W W1) (ho : One c W1 W') (hc : c = a ∨ c = b ∨ W.heap.size ≤ c) : Ch2 a b W W' :=
  ⟨ho.os.trans h.os, ho.tape.trans h.tape, ho.output.trans h.output, by rw [ho.size]; exact h.size, fun k k1 k2 k3 => (ho.block k (by omega)).trans (h.block k k1 k2 k3)⟩
theorem Ch2.grown {a b : Nat} {W W1 W' : World} (h : Ch2 a b W W1) (hg : W1.grownBy W' (some b)) : Ch2 a b W W' :=
  ⟨hg.os.trans h.os, hg.tape.trans h.tape, hg.output.trans h.output, Nat.le_trans h.size hg.size, fun k k1 k2 k3 => (hg.block k (Nat.lt_of_lt_of_le k1 h.size) (fun e => k3 (by injection e))).trans (h.block k k1 k2 k3)⟩
theorem step_append_w {w : World} {base c bo co : Nat} {A : Option Addr} {xs news : List Nat} {ops : Array Oper} {o : Oper} {a : Act} {K : Act → World → Prop} {Q : Exit → Act → World → Prop} {E : Prop} (hg : o.guard = none) (s x : Operand) (ho : o.op = .call { callee := .builtin .append, args := #[s, x], argTypes := #[44, 44] })
    (hs : a.eval s = .slice (some ⟨bo, 0, none⟩) xs.length co) (hx : a.eval x = .slice A news.length c) (hown : OwnH w base (.slice (some ⟨bo, 0, none⟩) xs.length co) xs) (hr : Rd w w.heap.size A (cw news)) (hA : A = none → news.length = 0) (hl : xs.length ≤ 1000000) (hl2 : news.length ≤ 1000000) (hp : 0 < xs.length + news.length) (hb : base ≤ w.heap.size)
    (h : ∀ b' c' w', (b' = bo ∨ b' = w.heap.size) → OwnH w' base (.slice (some ⟨b', 0, none⟩) (xs ++ news).length c') (xs ++ news) → w.grownBy w' (some bo) → K (a.put o.dst (.slice (some ⟨b', 0, none⟩) (xs ++ news).length c')) w') :
    if Region.wanted o (yielded ops a.tmps) = true then Oper.wp Tryd.prog o a w K Q else E := by
  obtain ⟨i0, hi, hz0, hz1, hz2⟩ := info_parts wordinfo
  refine step_append_rd (base := base) (size := 1) (bytes := 8) (n := xs.length) (m := news.length) (c := c) (v := .slice (some ⟨bo, 0, none⟩) xs.length co) (xs := cw xs) (news := cw news) hg s x ho Tryd.underlying44 hi hz0 hz1 hz2 rfl (by decide) hs hx hown hr (by rw [cw_len]; omega) hA (cwh_one news) (by unfold maxLen; omega) (by omega) hb ?_
  intro v' w' happ
  obtain ⟨A', c', rfl, hn, ha⟩ := happ.slice
  have e : xs.length + news.length = (xs ++ news).length := by simp
  have ho := happ.own
  cases A' with
  | none => have := hn rfl; omega
  | some ad =>
    obtain ⟨e1, e2, _, _, e5⟩ := ha ad rfl
    obtain ⟨b', off, sp⟩ := ad
    simp only at e1 e2
    subst e1 e2
    rw [e, show cw xs ++ cw news = cw (xs ++ news) by simp [cw]] at ho
    rw [e]
    refine h b' c' w' ?_ ho happ.grown
    have hat := happ.at_
    simp only [Value.ownBlock] at hat
    rcases hat with h1 | h1
    · injection h1 with h1; exact .inl h1
    · injection h1 with h1; exact .inr h1
/-- a round of laid -/
theorem LaidI.step {w0 W W' : World} {B1 B5 B6 NA NB cA bo : Nat} {A : Option Addr} {G : List Nat} {gl : Nat → Nat} {pre : List (Kx os fs)} {x : Kx os fs} (h : LaidI w0 base g gc cap gb gb2 size last lk sb gG B1 B5 B6 NA NB Bn cA A os ws fs G gl pre W) (hlt : g < w0.heap.size ∧ gc < w0.heap.size ∧ gb < w0.heap.size ∧ gb2 < w0.heap.size) (he : 0 < w0.heap.size)
    (hsb : ∃ sb2 bs, BitsAt w0 sb sb2 size bs ∧ ∀ i, bitAt bs i = true ↔ 2 * i ∈ fs) (hlk : lk < w0.heap.size) (hgG : gG < w0.heap.size) (hcur : ∃ cur, W.heap[bo]? = some (.cells cur 38 (0, 0))) (hbo : NB ≤ bo) (hc : Ch2 B6 bo W W')
    (hout : ∃ bo co, bo ≠ gG ∧ NB ≤ bo ∧ W'.heap[B6]? = some (.cells #[.slice (some ⟨bo, 0, none⟩) (laidF gl (pre ++ [x])).length co] 44 (0, 0)) ∧ OwnH W' NB (.slice (some ⟨bo, 0, none⟩) (laidF gl (pre ++ [x])).length co) (laidF gl (pre ++ [x]))) :
    KpG (fun k T => k = B6 ∨ (T = 38 ∧ NB ≤ k)) base g gc cap gb gb2 size last lk sb gG (Lof os).length Bn os ws fs W W' ∧ LaidI w0 base g gc cap gb gb2 size last lk sb gG B1 B5 B6 NA NB Bn cA A os ws fs G gl (pre ++ [x]) W' := by
  obtain ⟨t1, t2, t3, t4, t5, t6⟩ := h.top
  obtain ⟨sb2, bs, hbs, hbm⟩ := hsb
  obtain ⟨cur, hcur⟩ := hcur
  have hBs := h.below.size
  have hkk : ∀ (k : Nat) cs T fr, W.heap[k]? = some (Obj.cells cs T fr) → k < w0.heap.size ∨ k = lk ∨ k = Bn → W'.heap[k]? = W.heap[k]? := fun k cs T fr hk hx => by
    refine hc.block k (lt_of_block hk) (by omega) (fun e => ?_)
    rcases hx with hx | hx | hx
    · omega
    · omega
    · subst e
      rw [hx, h.gcof.box] at hcur
      injection hcur with hcur
      injection hcur with _ hcur
      exact absurd hcur (by decide)
  have hfs : ∃ sb2 bs, BitsAt W sb sb2 size bs ∧ (∀ i, bitAt bs i = true ↔ 2 * i ∈ fs) ∧ sb < w0.heap.size ∧ sb2 < w0.heap.size := ⟨sb2, bs, hbs.at_ (h.below.block _ hbs.gl) (h.below.block _ hbs.gl2), hbm, hbs.gl, hbs.gl2⟩
  have hG := fun hh : GcOf base g gc cap gb gb2 size last lk sb gG (Lof os).length Bn os ws fs W => hh.kept hkk hlt hfs he
  refine ⟨⟨hc.size, fun k cs T fr hk hz => hc.block k (lt_of_block hk) (fun e => hz (.inl e)) (fun e => ?_), hG⟩, ⟨hG h.gcof, ownH_at h.goals (hc.block _ (by omega) (by omega) (by omega)), (hc.block _ (by omega) (by omega) (by omega)).trans h.l2, (hc.block _ (by omega) (by omega) (by omega)).trans h.l5, fun h0 => ?_, hout, ?_, ⟨Nat.lt_of_lt_of_le t1 hc.size, t2, t3, t4, t5, t6⟩⟩⟩
  · subst e
    rw [hk] at hcur
    injection hcur with hcur
    injection hcur with _ hcur
    exact hz (.inr ⟨hcur, hbo⟩)
  · have ha := h.all h0
    rcases ha.2 with ⟨_, e2⟩ | ⟨g', cap', cur', e2, hb', hg, hr⟩
    · omega
    · have e4 := e2
      injection e4 with e3
      have := t6 h0 _ e3
      refine ⟨ha.1, .inr ⟨g', cap', cur', e2, hb', (hc.block _ (lt_of_block hg) (by simp at this; omega) (by simp at this; omega)).trans hg, hr⟩⟩
  · exact ⟨hc.os.trans h.below.os, hc.tape.trans h.below.tape, hc.output.trans h.below.output, Nat.le_trans hBs hc.size, fun k hk => (hc.block k (by omega) (by omega) (by omega)).trans (h.below.block k hk)⟩
def LaidPost (L : List Nat) (w : World) (e : Ending) (w' : World) : Prop := ∃ b c, e = .returned (.slice (some ⟨b, 0, none⟩) L.length c) ∧ OwnH w' w.heap.size (.slice (some ⟨b, 0, none⟩) L.length c) L ∧ Below w.heap.size w w'
theorem cell3 {w : World} {b : Nat} {v : Value} {T : TypeId} (h : w.heap[b]? = some (.cells #[v] T (0, 0))) (o1 o2 o3 : Obj) : (((w.alloc o1).alloc o2).alloc o3).cell? ⟨b, 0, none⟩ = some v := by
  have hl := lt_of_block h
  exact cell_of_row _ _ 0 _ _ _ ((Below.heap_alloc _ o3 _ (by simp; omega)).trans ((Below.heap_alloc _ o2 _ (by simp; omega)).trans ((Below.heap_alloc _ o1 _ hl).trans h)))
set_option maxRecDepth 100000 in
set_option maxHeartbeats 4000000 in
theorem laid_any (n : Nat) (G : List Nat) (B1 : Nat) (w : World) (h : ObsAt w base g gc cap gb gb2 size last os ws) (hf : Found w sb size fs) (he : EnvB w) (hst : Stays os fs xs) (hcl : ClosedF os fs) (hsm : (Lof os).length ≤ 400) (hn : n ≤ 200000)
    (hL : GLook w lk g sb gG (Lof os).length) (hG : OwnH w B1 (.slice (some ⟨gG, 0, none⟩) (Lof os).length (Lof os).length) G) (hGl : G.length = (Lof os).length) (hgo : GoalsOk os fs xs G) (hpos : ∀ o ∈ os, 0 < o.xs.length) :
    Calls Tryd.prog 30 #[.pointer (some ⟨lk, 0, none⟩), .int .i64 (n : Int)] w (LaidPost (flat (moved os (ksOf xs))) w) := by
  have hwd := fun (w' : World) (hb : Below w.heap.size w w') => hWords_total w' (h.below hb).heap
  have hmk := fun w' => make_wcap w' n hn
  have fL0 := rdrd_of_row hL
  have hlk := lt_of_block hL
  refine (callsIn_wide (n := 4)).1 ?_
  refine callsIn_of_wp_marks Tryd.func30 rfl trivial ?_ rfl
  simp only [Tryd.ntmps30, List.size_toArray, List.length_cons, List.length_nil, Nat.reduceAdd, Nat.reduceSub, Array.replicate_succ, Array.replicate_zero, List.push_toArray, List.append_toArray, List.nil_append, List.cons_append]
  obtain ⟨D, hD⟩ : ∃ D, (Lof os).drop 2 = D := ⟨_, rfl⟩
  rw [hD] at hwd
  gi_wp2_with (first
    | (gi_at_call 56; refine (callsIn_wide.2 (hwd _ ((Below.refl _ _).alloc (Nat.le_refl _) _))).mono ?_; rintro e wA ⟨A, cA, rfl, hoA, hbA⟩; have h2A := (hbA.block w.heap.size (by simp)).trans (heap_alloc_new w _); have lt2 := lt_of_block h2A; have f2A := cell3 h2A)
    | (gi_at_call 53; refine (callsIn_wide.2 (each_any (lk := lk) _)).mono ?_; rintro e w' ⟨rfl, rfl⟩))
  have hbA0 : Below w.heap.size w wA := ((Below.refl _ _).alloc (Nat.le_refl _) _).trans (hbA.mono (by simp))
  obtain ⟨N, hN⟩ : ∃ N, wA.heap.size = N := ⟨_, rfl⟩
  have hAo : 0 < D.length → OwnH wA w.heap.size (.slice A D.length cA) D ∧ ∀ a, A = some a → a.off = 0 ∧ a.spot = none ∧ a.block < N := fun h0 => by
    have h1 := hoA h0
    refine ⟨⟨h1.1, h1.2.imp id (fun ⟨g', cap', cur, e, hb', hg, hr⟩ => ⟨g', cap', cur, e, by simp at hb'; omega, hg, hr⟩)⟩, fun a ha => ?_⟩
    rcases h1.2 with ⟨e, _⟩ | ⟨g', cap', cur, e, hb', hg, hr⟩
    · injection e with e1; rw [ha] at e1; cases e1
    · injection e with e1
      rw [ha] at e1
      injection e1 with e1
      subst e1
      exact ⟨rfl, rfl, by rw [← hN]; exact lt_of_block hg⟩
  rw [hN]
  obtain ⟨W0, hW0⟩ : ∃ W0, ((((wA.alloc (.cells #[.slice A D.length cA] 44)).alloc (.cells (cw (List.replicate n 0)).toArray 38)).alloc (.cells #[.slice (some ⟨N + 1, 0, none⟩) 0 n] 44)).alloc (.cells #[.pointer (some ⟨lk, 0, none⟩)] 85)) = W0 := ⟨_, rfl⟩
  have hb0 : Below wA.heap.size wA W0 := by rw [← hW0]; exact ((((Below.refl _ _).alloc (Nat.le_refl _) _).alloc (by simp) _).alloc (by simp; omega) _).alloc (by simp; omega) _
  have hsz : W0.heap.size = N + 4 := by rw [← hW0]; simp; omega
  have q1 : W0.heap[N]? = some (.cells #[.slice A D.length cA] 44 (0, 0)) := by
    rw [← hW0, ← hN]
    exact (Below.heap_alloc _ _ _ (by simp; omega)).trans ((Below.heap_alloc _ _ _ (by simp; omega)).trans ((Below.heap_alloc _ _ _ (by simp)).trans (heap_alloc_new wA _)))
  have q2 : W0.heap[N + 1]? = some (.cells (cw (List.replicate n 0)).toArray 38 (0, 0)) := by
    have := heap_alloc_new (wA.alloc (.cells #[.slice A D.length cA] 44)) (.cells (cw (List.replicate n 0)).toArray 38)
    rw [World.size_alloc, hN] at this
    rw [← hW0]
    exact (Below.heap_alloc _ _ _ (by simp; omega)).trans ((Below.heap_alloc _ _ _ (by simp; omega)).trans this)
  have q3 : W0.heap[N + 2]? = some (.cells #[.slice (some ⟨N + 1, 0, none⟩) 0 n] 44 (0, 0)) := by
    have := heap_alloc_new ((wA.alloc (.cells #[.slice A D.length cA] 44)).alloc (.cells (cw (List.replicate n 0)).toArray 38)) (.cells #[.slice (some ⟨N + 1, 0, none⟩) 0 n] 44)
    rw [World.size_alloc, World.size_alloc, hN] at this
    rw [← hW0]
    exact (Below.heap_alloc _ _ _ (by simp; omega)).trans this
  have q4 : W0.heap[N + 3]? = some (.cells #[.pointer (some ⟨lk, 0, none⟩)] 85 (0, 0)) := by
    have := heap_alloc_new (((wA.alloc (.cells #[.slice A D.length cA] 44)).alloc (.cells (cw (List.replicate n 0)).toArray 38)).alloc (.cells #[.slice (some ⟨N + 1, 0, none⟩) 0 n] 44)) (.cells #[.pointer (some ⟨lk, 0, none⟩)] 85)
    rw [World.size_alloc, World.size_alloc, World.size_alloc, hN] at this
    rw [← hW0]; exact this
  rw [hW0]
  clear hW0
  have hbw : Below w.heap.size w W0 := hbA0.trans (hb0.mono hbA0.size)
  have hNw : w.heap.size < N := by rw [← hN]; exact lt2
  have hgl := h.heap.gl
  obtain ⟨curG, hcG⟩ : ∃ cur, w.heap[gG]? = some (.cells cur 38 (0, 0)) := by
    rcases hG.2 with ⟨e, _⟩ | ⟨g', cap', cur, e, _, hg, _⟩
    · cases e
    · injection e with e1
      injection e1 with e1
      injection e1 with e1
      subst e1
      exact ⟨cur, hg⟩
  have hgGl := lt_of_block hcG
  have hS0 : LaidI w base g gc cap gb gb2 size last lk sb gG B1 N (N + 2) w.heap.size (N + 1) (N + 3) cA A os ws fs G (goal os (ksOf xs)) [] W0 := by
    refine ⟨⟨h.below hbw, hf.below hbw, he.below hbw, (hbw.block _ hlk).trans hL, q4⟩, ownH_at hG (hbw.block _ hgGl), (hb0.block _ (by omega)).trans h2A, by rw [hD]; exact q1, fun h0 => ?_, ⟨N + 1, n, by omega, Nat.le_refl _, q3, ?_⟩, hbw, ⟨by omega, by omega, by omega, by omega, hNw, fun h0 a ha => ?_⟩⟩
    · rw [hD] at h0 ⊢
      exact (hAo h0).1.keep (fun k cur hc => hb0.block k (lt_of_block hc))
    · exact ⟨rfl, .inr ⟨_, _, _, rfl, Nat.le_refl _, q2, Nat.zero_le _, by unfold maxLen; omega, by simp [cw], by simp [cw, laidF, obsX, flat]⟩⟩
    · rw [hD] at h0
      have := ((hAo h0).2 a ha).2.2
      omega
  have henv : 0 < w.heap.size := he.lt
  have hxl : xs.length ≤ os.length := by
    have h1 : (ksOf xs).Nodup := hst.ks.nd
    have := len_le os.length (ksOf xs) h1 (fun x hx => hst.ks.lt x hx)
    unfold ksOf at this
    simpa using this
  have hol : os.length ≤ (Lof os).length := by
    have key : ∀ k, k ≤ os.length → k ≤ pos os k := fun k => by
      induction k with
      | zero => intro _; exact Nat.zero_le _
      | succ k ih => intro hk; have h1 := pos_lt os (k := k) (m := k + 1) (by omega) hk; have h2 := ih (by omega); omega
    have := key _ (Nat.le_refl _)
    rwa [pos_all] at this
  have hobx : ∀ pre : List (Kx os fs), pre.length < xs.length → (laidF (goal os (ksOf xs)) pre).length ≤ 200000 := fun pre hp => by
    have h1 := obsX_len pre
    have h2 : pre.length * (Lof os).length ≤ 400 * 400 := Nat.mul_le_mul (by omega) hsm
    have h3 := laidF_len (goal os (ksOf xs)) pre
    omega
  have hD2 : D.length + 2 = (Lof os).length := by rw [← hD, List.length_drop]; have := h.heap.two; omega
  refine wpIn_rangeFunc_ownH rfl (by omega) (gf := 65) (lb := #[.pointer (some ⟨N + 3, 0, none⟩)]) rfl trivial (enters_of Tryd.func65 (by kernel_rfl) rfl)
    (each_stops 3 (by omega) hst (fun k T => k = N + 2 ∨ (T = 38 ∧ N + 1 ≤ k)) W0 (fun k hk hz => by rcases hz with hz | ⟨hz, _⟩; omega; exact absurd hz (by decide)) hS0.gcof) KpG.trans (fun W l o o' _ h1 h2 _ => kpg_put W l o o' h1 h2) (Below.refl _ _) (fun _ => rfl)
    (fun pre W => LaidI w base g gc cap gb gb2 size last lk sb gG B1 N (N + 2) w.heap.size (N + 1) (N + 3) cA A os ws fs G (goal os (ksOf xs)) pre W)
    (fun _ _ _ => False)
    (fun pre W W' row hs hg hr => LaidI.own (N := N + 4) (by omega) pre W W' row hs hg (fun r e => ⟨by rw [← hsz]; exact (hr r e).1, (hr r e).2⟩))
    (fun _ _ _ _ _ hs _ _ => hs)
    hS0
    (fun x a' W => ∃ Bx, N + 4 ≤ Bx ∧ W.heap[Bx]? = some (.cells #[.int .u64 ((os[x.1]'x.2.1).cl : Int), .int .i64 ((os[x.1]'x.2.1).kind : Int), .int .i64 ((os[x.1]'x.2.1).sz : Int), .int .u32 ((os[x.1]'x.2.1).hash : Int), .bool (os[x.1]'x.2.1).mark] 52 (0, 0)) ∧
      a' = { tmps := #[.pointer (some ⟨lk, 0, none⟩), .int .i64 (n : Int), .pointer (some ⟨w.heap.size, 0, none⟩), undef, .slice none 0 0, .pointer (some ⟨N, 0, none⟩), .pointer (some ⟨N + 1 + 1, 0, none⟩), .int .i64 (pos os x.1 : Int), .pointer (some ⟨Bx, 0, none⟩), undef, .pointer (some ⟨lk, 0, none⟩), .pointer (some ⟨lk, 0, none⟩), .pointer (some ⟨lk, 0, none⟩), .pointer (some ⟨g, 0, none⟩), .slice A D.length cA, .int .i64 (n : Int), .slice (some ⟨N + 1, 0, none⟩) 0 n, .pointer (some ⟨lk, 0, none⟩), .func (.func 65) #[] #[.pointer (some ⟨N + 1 + 1 + 1, 0, none⟩)], .int .i64 (pos os x.1 : Int), headV (os[x.1]'x.2.1), undef, undef, undef, undef, undef, undef, undef, undef, undef, undef, undef, undef, undef, undef, undef, undef, undef, undef, undef, undef, undef, undef, undef, undef, undef, undef, undef, undef, undef], defers := [] })
    (fun x a' _ X Y row hs hg hr => by obtain ⟨Bx, h1, h2, h3⟩ := hs; exact ⟨Bx, h1, (grownBy_keeps_cells hg (fun r e => (hr r e).2) h2 rfl).trans h2, h3⟩)
    ?assign ?body ?done ?stop
  case assign =>
    rintro l pre x W K hS hK
    unfold encK headV
    have hsw := hS.top.1
    gi_wp2
    exact hK _ _ ((KeepsOthers.alloc _ _).from _) ⟨by simp, fun k cs T fr hc _ => Below.heap_alloc W _ k (lt_of_block hc), fun hh => hh.below ((Below.refl _ _).alloc (Nat.le_refl _) _)⟩ (LaidI.own (N := N + 4) (by omega) pre W _ none hS (grown_below ((Below.refl _ _).alloc (Nat.le_refl _) _)) (fun r e => by cases e)) ⟨W.heap.size, by omega, heap_alloc_new W _, rfl⟩
  case body =>
    rintro l pre x a' W hl - hS ⟨Bx, hBx, hX, rfl⟩ hlt
    obtain ⟨bo, co, ho1, ho2, ho3, ho4⟩ := hS.out
    have hob := hobx pre hlt
    have htop := pos_top os x.2.1
    have hp2 := pos_two os x.1
    have hok := hS.gcof.obs.okAt x.2.1
    have hce := fun w' => cells_any (os[x.1]'x.2.1).cl (os[x.1]'x.2.1).kind (os[x.1]'x.2.1).sz (os[x.1]'x.2.1).hash (os[x.1]'x.2.1).mark w' (by omega) (by have := hok.lt; omega)
    rw [hok.len] at hce
    have h5 := hS.l5
    rw [hD] at h5
    have f2 := one_cellW hS.l2
    have f5 := one_cellW h5
    have f6 := one_cellW ho3
    have fX := cells5 hX
    have hwa := words_at x.2.1
    rw [hD] at hwa
    have hFs := laidF_snoc (goal os (ksOf xs)) pre x
    have hcx := hcl x.1 x.2.1 x.2.2
    have hst1 := fun (W' : World) (bo : Nat) (hcur : ∃ cur, W.heap[bo]? = some (.cells cur 38 (0, 0))) (hbo : N + 1 ≤ bo) (hc : Ch2 (N + 2) bo W W') => hS.step (x := x) hgl henv hf hlk hgGl hcur hbo hc
    have hpo := hpos _ (List.getElem_mem x.2.1)
    unfold headV
    generalize os[x.1]'x.2.1 = o at *
    obtain ⟨q, hq⟩ : ∃ q, pos os x.1 = q + 2 := ⟨pos os x.1 - 2, by omega⟩
    rw [hq] at htop hwa ⊢
    rw [show q + 2 - 2 = q by omega] at hwa
    have hq2 : ((q + 2 : Nat) : Int) = (q : Int) + 2 := by omega
    rw [hq2]
    have hall := hS.all (by rw [hD]; omega)
    rw [hD] at hall
    gi_wp2
    rename_i K0 hKo
    have HKo := Lib.hid hKo
    clear hKo
    obtain ⟨bA, rfl⟩ : ∃ bA, A = some ⟨bA, 0, none⟩ := by
      rcases hall.2 with ⟨_, e⟩ | ⟨g', cap', cur, e, _, hg, _⟩
      · omega
      · injection e with e1
        exact ⟨g', e1⟩
    have hcA : D.length ≤ cA := by
      rcases hall.2 with ⟨_, e⟩ | ⟨g', cap', cur, e, _, hg, hn, _⟩
      · omega
      · injection e with _ _ e3
        subst e3
        exact hn
    have hrA : Rd W W.heap.size (some ⟨bA, q, none⟩) (cw o.cells) := by
      have := ((ownH_rd hall).drop_ q).take_ (2 + o.xs.length)
      rw [Nat.zero_add, show (cw D).drop q = cw (D.drop q) by simp [cw, List.map_drop], show (cw (D.drop q)).take (2 + o.xs.length) = cw ((D.drop q).take (2 + o.xs.length)) by simp [cw, List.map_take], hwa] at this
      exact this
    have hcl5 : o.cells.length = 2 + o.xs.length := by rw [Ob.cells_len]; omega
    obtain ⟨m, hm⟩ : ∃ m, o.xs.length = m := ⟨_, rfl⟩
    rw [hm] at hce htop hpo hcl5
    have hqm : q + 2 + m ≤ D.length := by omega
    have hq0 : ¬ (cA = q) := by omega
    have hm4 : m ≤ 400 := by omega
    have hqA : q ≤ 400 := by omega
    have hwq : IntKind.i64.wrap (q : Int) = (q : Int) := IntWalk.i64_in _ (by omega)
    have hqD : q ≤ D.length := by omega
    obtain ⟨F, hF⟩ : ∃ F, laidF (goal os (ksOf xs)) pre = F := ⟨_, rfl⟩
    rw [hF] at hFs hob ho3 ho4 f6 ⊢
    have hwm : IntKind.i64.wrap (2 + (m : Int)) = ((2 + m : Nat) : Int) := (IntWalk.i64_in _ (by omega)).trans (by omega)
    have hmq : 2 + m ≤ cA - q := by omega
    have hmD : 2 + m ≤ D.length - q := by omega
    have hNb : bo ≠ N := by omega
    have hcurW : ∃ cur, W.heap[bo]? = some (.cells cur 38 (0, 0)) := by
      rcases ho4.2 with ⟨e, _⟩ | ⟨g', cap', cur, e, _, hg, _⟩
      · cases e
      · injection e with e1
        injection e1 with e1
        injection e1 with e1
        subst e1
        exact ⟨cur, hg⟩
    have hbB : bo ≠ Bx := by
      obtain ⟨cur, hc⟩ := hcurW
      exact other_type hc hX (by decide)
    have hb6 : bo ≠ N + 2 := by
      obtain ⟨cur, hc⟩ := hcurW
      exact other_type hc ho3 (by decide)
    have ho9 : o.cells.length ≤ 1000000 := by omega
    have hmq1 : (2 + (m : Int)) ≤ ((cA - q : Nat) : Int) := by omega
    have hmq2 : 0 ≤ 2 + (m : Int) := by omega
    have HT : Hid (∀ (b3 c3 : Nat) (W4 : World), Ch2 (N + 2) bo W W4 → b3 ≠ gG ∧ N + 1 ≤ b3 ∧ b3 ≠ N + 2 ∧ (b3 = bo ∨ W.heap.size ≤ b3) → W4.heap[N + 2]? = some (.cells #[.slice (some ⟨b3, 0, none⟩) (F.length + (2 + m)) c3] 44 (0, 0)) → OwnH W4 (N + 1) (.slice (some ⟨b3, 0, none⟩) (F ++ o.cells).length c3) (F ++ o.cells) →
        K0 { tmps := #[.pointer (some ⟨lk, 0, none⟩), .int .i64 (n : Int), .pointer (some ⟨w.heap.size, 0, none⟩), undef, .slice none 0 0, .pointer (some ⟨N, 0, none⟩), .pointer (some ⟨N + 1 + 1, 0, none⟩), .int .i64 ((q : Int) + 2), .pointer (some ⟨Bx, 0, none⟩), .int .i64 (F.length : Int), .pointer (some ⟨lk, 0, none⟩), .pointer (some ⟨lk, 0, none⟩), .pointer (some ⟨lk, 0, none⟩), .pointer (some ⟨g, 0, none⟩), .slice (some ⟨bA, 0, none⟩) D.length cA, .int .i64 (n : Int), .slice (some ⟨N + 1, 0, none⟩) 0 n, .pointer (some ⟨lk, 0, none⟩), .func (.func 65) #[] #[.pointer (some ⟨N + 1 + 1 + 1, 0, none⟩)], .int .i64 ((q : Int) + 2), .agg #[.int .u64 (o.cl : Int), .int .i64 (o.kind : Int), .int .i64 (o.sz : Int), .int .u32 (o.hash : Int), .bool o.mark], .slice (some ⟨bo, 0, none⟩) F.length co, .int .i64 (F.length : Int), .slice (some ⟨bo, 0, none⟩) F.length co, .slice (some ⟨bA, 0, none⟩) D.length cA, .int .i64 ((q : Int) + 2), .int .i64 (q : Int), .slice (some ⟨bA, q, none⟩) (D.length - q) (cA - q), .agg #[.int .u64 (o.cl : Int), .int .i64 (o.kind : Int), .int .i64 (o.sz : Int), .int .u32 (o.hash : Int), .bool o.mark], .int .i64 (m : Int), .int .i64 (2 + (m : Int)), .slice (some ⟨bA, q, none⟩) (2 + m) (cA - q), .slice (some ⟨b3, 0, none⟩) (F.length + (2 + m)) c3, undef, undef, undef, undef, undef, undef, undef, undef, undef, undef, undef, undef, undef, undef, undef, undef, undef], defers := [] } W4) := by
      refine Lib.hid ?_
      rintro b3 c3 W4 hch ⟨hb1, hb2, hb3, hb4⟩ h6 hO4
      refine HKo.out _ _ ?_
      have htp := hS.top
      have k2 := (hch.block _ (by omega) (by omega) (by omega)).trans hS.l2
      have kX := (hch.block _ (lt_of_block hX) (by omega) (fun e => hbB e.symm)).trans hX
      have hBsz := hS.below.size
      have kL : GLook W4 lk g sb gG (Lof os).length := (hch.block _ (by omega) (by omega) (by omega)).trans hS.gcof.look
      have kG := ownH_at hS.goals (hch.block _ (by omega) (by omega) (by omega))
      have f2 := one_cellW k2
      have f6 := one_cellW h6
      have fX := cells5 kX
      have hc3 : F.length + (2 + m) ≤ c3 := by
        rcases hO4.2 with ⟨e, _⟩ | ⟨g', cap', cur, e, _, hg, hn, _⟩
        · cases e
        · injection e with _ _ e3
          subst e3
          rw [List.length_append, hcl5] at hn
          exact hn
      have hTl : (F ++ o.cells).length = F.length + (2 + m) := by rw [List.length_append, hcl5]
      have hfs33 : ∀ y ∈ fs, y < 33554432 := fun y hy => by
        obtain ⟨k, hk, rfl⟩ := hst.led y hy
        have := pos_top os hk
        omega
      have hxlt := hok.lt
      have hxx := hok.xlt
      have hTc : ∀ j (hj : j < (F ++ o.cells).length), F.length ≤ j → (F ++ o.cells)[j] = o.cells[j - F.length]'(by rw [hcl5]; omega) := fun j hj hlo => List.getElem_append_right hlo
      have hg1 : GoodAt fs (F ++ o.cells) F.length 1 := fun i hi h1 h2 => by
        have e : i = F.length := by omega
        subst e
        rw [hTc _ hi (Nat.le_refl _)]
        have e0 : o.cells[F.length - F.length]'(by rw [hcl5]; omega) = o.cl := by simp [Ob.cells]
        rw [e0]
        exact ⟨hxlt, fun hw => hcx _ (by unfold Ob.leads; simp) hw⟩
      have ht1 := fun (W' : World) (hb : Below W4.heap.size W4 W') (c : Nat) => turn_any (F ++ o.cells) G b3 F.length 1 c3 c (N + 1) B1 W' ((hb.block _ (lt_of_block kL)).trans kL) (kG.keep fun k cur hc => hb.block k (lt_of_block hc)) hGl hgo (hO4.keep fun k cur hc => hb.block k (lt_of_block hc)) (by rw [hTl]; omega) (fun e => hb1 e.symm) hfs33 hg1 (by rw [hTl]; omega)
      have hT1 : turnL (goal os (ksOf xs)) F.length 1 (F ++ o.cells) = F ++ (goal os (ksOf xs) o.cl :: pk o.kind o.sz o.hash o.mark :: o.xs) := turnL_one _ _ _ _
      rw [hT1] at ht1
      have w1 : IntKind.i64.wrap ((F.length : Int) + 1) = ((F.length + 1 : Nat) : Int) := (IntWalk.i64_in _ (by omega)).trans (by omega)
      have i1 : F.length ≤ c3 := by omega
      have i2 : F.length + 1 ≤ c3 := by omega
      have i3 : ¬ (c3 = F.length) := by omega
      have i4 : 0 ≤ (F.length : Int) + 1 := by omega
      have i5 : (F.length : Int) + 1 ≤ (c3 : Int) := by omega
      gi_wp2
      rename_i K1 hK1
      have HK1 := Lib.hid hK1
      clear hK1
      refine wpIn_round_held (S := fun w' : World => w'.cell? ⟨w.heap.size, 0, none⟩ = some (.pointer (some ⟨lk, 0, none⟩)) ∧ w'.cell? ⟨N + 2, 0, none⟩ = some (.slice (some ⟨b3, 0, none⟩) (F.length + (2 + m)) c3)) (by simp [Undeferred]) (by kernel_rfl) ⟨f2.1, f6.1⟩ (fun hHeld => ?_)
      refine wpAnyH_take (i := 0) (v := ?_) (by first | (simp only [List.getElem?_toArray, List.getElem?_cons_zero]; rfl) | rfl) (by kernel_rfl) (by kernel_rfl) (by kernel_rfl) (fun _ _ _ h => (by cases h.1)) (Or.inl ⟨by rfl, ?_⟩) (by assumption) ?_
      rotate_left 1
      · (intro w' hSw; (try dsimp only at hSw); go_simp; (try with_reducible rfl))
      try simp only [Act.put, List.setIfInBounds_toArray, List.set_cons_zero, List.set_cons_succ]
      refine wpAnyH_take (i := 1) (v := ?_) (by first | (simp only [List.getElem?_toArray, List.getElem?_cons_succ, List.getElem?_cons_zero]; rfl) | rfl) (by kernel_rfl) (by kernel_rfl) (by kernel_rfl) (fun _ _ _ h => (by cases h.1)) (Or.inl ⟨by rfl, ?_⟩) (by assumption) ?_
      rotate_left 1
      · (intro w' hSw; (try dsimp only at hSw); go_simp; (try with_reducible rfl))
      try simp only [Act.put, List.setIfInBounds_toArray, List.set_cons_zero, List.set_cons_succ]
      refine wpAnyH_take (i := 2) (v := ?_) (by first | (simp only [List.getElem?_toArray, List.getElem?_cons_succ, List.getElem?_cons_zero]; rfl) | rfl) (by kernel_rfl) (by kernel_rfl) (by kernel_rfl) (fun _ _ _ h => (by cases h.1)) (Or.inl ⟨by rfl, ?_⟩) (by assumption) ?_
      rotate_left 1
      · (intro w' hSw; (try dsimp only at hSw); go_simp; (try with_reducible rfl))
      try simp only [Act.put, List.setIfInBounds_toArray, List.set_cons_zero, List.set_cons_succ]
      refine wpAnyH_take (i := 3) (v := ?_) (by first | (simp only [List.getElem?_toArray, List.getElem?_cons_succ, List.getElem?_cons_zero]; rfl) | rfl) (by kernel_rfl) (by kernel_rfl) (by kernel_rfl) (fun _ _ _ h => (by cases h.1)) (Or.inl ⟨by rfl, ?_⟩) (by assumption) ?_
      rotate_left 1
      · (intro w' hSw; (try dsimp only at hSw); go_simp; (try with_reducible rfl))
      try simp only [Act.put, List.setIfInBounds_toArray, List.set_cons_zero, List.set_cons_succ]
      refine wpAnyH_take (i := 4) (v := ?_) (by first | (simp only [List.getElem?_toArray, List.getElem?_cons_succ, List.getElem?_cons_zero]; rfl) | rfl) (by kernel_rfl) (by kernel_rfl) (by kernel_rfl) (fun _ _ _ h => (by cases h.1)) (Or.inl ⟨by rfl, ?_⟩) (by assumption) ?_
      rotate_left 1
      · (intro w' hSw; (try dsimp only at hSw); go_simp; (try with_reducible rfl))
      try simp only [Act.put, List.setIfInBounds_toArray, List.set_cons_zero, List.set_cons_succ]
      refine wpAnyH_take (i := 5) (v := ?_) (by first | (simp only [List.getElem?_toArray, List.getElem?_cons_succ, List.getElem?_cons_zero]; rfl) | rfl) (by kernel_rfl) (by kernel_rfl) (by kernel_rfl) (fun _ _ _ h => (by cases h.1)) (Or.inl ⟨by rfl, ?_⟩) (by assumption) ?_
      rotate_left 1
      · (intro w' hSw; (try dsimp only at hSw); go_simp; (try with_reducible rfl))
      try simp only [Act.put, List.setIfInBounds_toArray, List.set_cons_zero, List.set_cons_succ]
      refine wpAnyH_ready (rs := [6]) (by kernel_rfl) (by simp) ?_
      refine AllReadyH.cons (by first | (simp only [List.getElem?_toArray, List.getElem?_cons_succ, List.getElem?_cons_zero]; rfl) | rfl) (fun K hK => ?_) AllReadyH.nil
      go_simp
      with_reducible refine (ht1 _ ((Below.refl W4.heap.size W4).drew) _).mono ?_
      rintro e W5 ⟨rfl, hO5, h15'⟩
      have h15 : One b3 W4 W5 := ⟨h15'.os, h15'.tape, h15'.output, h15'.size, h15'.block⟩
      try (go_wp2_with fail)
      have hwb : w.heap.size ≠ b3 := by omega
      have l2 := (h15.block _ hwb).trans k2
      have l6 := (h15.block _ (fun e => hb3 e.symm)).trans h6
      have hBb : Bx ≠ b3 := by
        rcases hb4 with e | e
        · rw [e]; exact fun e => hbB e.symm
        · have := lt_of_block hX; omega
      have lX := (h15.block _ hBb).trans kX
      have f2 := one_cellW l2
      have f6 := one_cellW l6
      have fX := cells5 lX
      refine hK.out _ _ ⟨f2.1, f6.1⟩ (fun hHeld => ?_)
      clear hK K
      try simp only [Act.put, List.setIfInBounds_toArray, List.set_cons_zero, List.set_cons_succ]
      refine wpAnyH_done (by kernel_rfl) ⟨rfl, ?_⟩ _
      refine HK1.out _ _ ?_
      have hch5 : Ch2 (N + 2) bo W W5 := hch.one h15 (by rcases hb4 with e | e <;> omega)
      have hkeep : ∀ W' : World, Ch2 (N + 2) bo W W' → KeepsFrom W0.heap.size W W' := fun W' hc => ⟨hc.size, fun k o hk1 hko hnc => (hc.block k (lt_of_block hko) (by omega) (fun e => by
        obtain ⟨cur, hcur⟩ := hcurW
        rw [e] at hko
        rw [hko] at hcur
        injection hcur with hcur
        subst hcur
        cases hnc)).trans hko⟩
      by_cases hk2 : o.kind = 2
      · have hk2' : ((o.kind : Int) != 2) = false := by simp [hk2]
        have hfin : laidF (goal os (ksOf xs)) (pre ++ [x]) = F ++ (goal os (ksOf xs) o.cl :: pk o.kind o.sz o.hash o.mark :: o.xs) := by
          rw [hFs]
          unfold turnO Ob.cells
          rw [if_pos hk2]
        obtain ⟨hs1, hs2⟩ := hst1 W5 bo hcurW ho2 hch5 ⟨b3, c3, hb1, hb2, by rw [hfin]; rw [show (F ++ (goal os (ksOf xs) o.cl :: pk o.kind o.sz o.hash o.mark :: o.xs)).length = F.length + (2 + m) by simp; omega]; exact l6, by rw [hfin]; exact hO5⟩
        have hke := hkeep W5 hch5
        clear hk2
        gi_wp2
        exact ⟨hke, hs1, hs2⟩
      · have hk2' : ((o.kind : Int) != 2) = true := by simp; omega
        have hfin : laidF (goal os (ksOf xs)) (pre ++ [x]) = F ++ (goal os (ksOf xs) o.cl :: pk o.kind o.sz o.hash o.mark :: o.xs.map (goal os (ksOf xs))) := by
          rw [hFs]
          unfold turnO Ob.cells
          rw [if_neg hk2]
        have hT1l : (F ++ (goal os (ksOf xs) o.cl :: pk o.kind o.sz o.hash o.mark :: o.xs)).length = F.length + (2 + m) := by simp; omega
        have hg2 : GoodAt fs (F ++ (goal os (ksOf xs) o.cl :: pk o.kind o.sz o.hash o.mark :: o.xs)) (F.length + 2) m := fun i hi h1 h2 => by
          have e0 : (F ++ (goal os (ksOf xs) o.cl :: pk o.kind o.sz o.hash o.mark :: o.xs))[i] = o.xs[i - F.length - 2]'(by omega) := by
            rw [List.getElem_append_right (by omega)]
            obtain ⟨j, rfl⟩ : ∃ j, i = F.length + 2 + j := ⟨i - (F.length + 2), by omega⟩
            simp only [show F.length + 2 + j - F.length = j + 1 + 1 by omega, List.getElem_cons_succ, show j + 1 + 1 - 2 = j by omega]
          rw [e0]
          refine ⟨hxx _ (List.getElem_mem _), fun hw => hcx _ ?_ hw⟩
          unfold Ob.leads
          rw [if_neg hk2]
          exact List.mem_cons_of_mem _ (List.getElem_mem _)
        have hT2 : turnL (goal os (ksOf xs)) (F.length + 2) m (F ++ (goal os (ksOf xs) o.cl :: pk o.kind o.sz o.hash o.mark :: o.xs)) = F ++ (goal os (ksOf xs) o.cl :: pk o.kind o.sz o.hash o.mark :: o.xs.map (goal os (ksOf xs))) := by
          rw [← hm]; exact turnL_rest _ _ _ _ _
        have jL : GLook W5 lk g sb gG (Lof os).length := (h15.block _ (by omega)).trans kL
        have jG := ownH_at kG (h15.block _ (fun e => hb1 e.symm))
        have ht2 := fun (W' : World) (hb : Below W5.heap.size W5 W') (c n : Nat) (hn : n = m) => turn_any (n := n) (F ++ (goal os (ksOf xs) o.cl :: pk o.kind o.sz o.hash o.mark :: o.xs)) G b3 (F.length + 2) c3 c (N + 1) B1 W' ((hb.block _ (lt_of_block jL)).trans jL) (jG.keep fun k cur hc => hb.block k (lt_of_block hc)) hGl hgo (hO5.keep fun k cur hc => hb.block k (lt_of_block hc)) (by rw [hT1l]; omega) (fun e => hb1 e.symm) hfs33 (by rw [hn]; exact hg2) (by rw [hT1l]; omega)
        have w2 : IntKind.i64.wrap ((F.length : Int) + 2) = ((F.length + 2 : Nat) : Int) := (IntWalk.i64_in _ (by omega)).trans (by omega)
        have j0 : 0 ≤ (F.length : Int) + 2 := by omega
        have j1 : (F.length : Int) + 2 ≤ ((F.length + (2 + m) : Nat) : Int) := by omega
        have j3 : ¬ (c3 = F.length + 2) := by omega
        have j4 : 2 ≤ 2 + (m : Int) := by omega
        have j5 : ((F.length : Int) + 2).toNat = F.length + 2 := by omega
        have hkl := hkeep
        clear hk2
        gi_wp2
        refine wpIn_round_held (S := fun w' : World => w'.cell? ⟨w.heap.size, 0, none⟩ = some (.pointer (some ⟨lk, 0, none⟩)) ∧ w'.cell? ⟨N + 2, 0, none⟩ = some (.slice (some ⟨b3, 0, none⟩) (F.length + (2 + m)) c3)) (by simp [Undeferred]) (by kernel_rfl) ⟨f2.1, f6.1⟩ (fun hHeld => ?_)
        refine wpAnyH_take (i := 0) (v := ?_) (by first | (simp only [List.getElem?_toArray, List.getElem?_cons_zero]; rfl) | rfl) (by kernel_rfl) (by kernel_rfl) (by kernel_rfl) (fun _ _ _ h => (by cases h.1)) (Or.inl ⟨by rfl, ?_⟩) (by assumption) ?_
        rotate_left 1
        · (intro w' hSw; (try dsimp only at hSw); go_simp; (try with_reducible rfl))
        try simp only [Act.put, List.setIfInBounds_toArray, List.set_cons_zero, List.set_cons_succ]
        refine wpAnyH_take (i := 1) (v := ?_) (by first | (simp only [List.getElem?_toArray, List.getElem?_cons_succ, List.getElem?_cons_zero]; rfl) | rfl) (by kernel_rfl) (by kernel_rfl) (by kernel_rfl) (fun _ _ _ h => (by cases h.1)) (Or.inl ⟨by rfl, ?_⟩) (by assumption) ?_
        rotate_left 1
        · (intro w' hSw; (try dsimp only at hSw); go_simp; (try with_reducible rfl))
        try simp only [Act.put, List.setIfInBounds_toArray, List.set_cons_zero, List.set_cons_succ]
        refine wpAnyH_take (i := 2) (v := ?_) (by first | (simp only [List.getElem?_toArray, List.getElem?_cons_succ, List.getElem?_cons_zero]; rfl) | rfl) (by kernel_rfl) (by kernel_rfl) (by kernel_rfl) (fun _ _ _ h => (by cases h.1)) (Or.inl ⟨by rfl, ?_⟩) (by assumption) ?_
        rotate_left 1
        · (intro w' hSw; (try dsimp only at hSw); go_simp; (try with_reducible rfl))
        try simp only [Act.put, List.setIfInBounds_toArray, List.set_cons_zero, List.set_cons_succ]
        refine wpAnyH_take (i := 3) (v := ?_) (by first | (simp only [List.getElem?_toArray, List.getElem?_cons_succ, List.getElem?_cons_zero]; rfl) | rfl) (by kernel_rfl) (by kernel_rfl) (by kernel_rfl) (fun _ _ _ h => (by cases h.1)) (Or.inl ⟨by rfl, ?_⟩) (by assumption) ?_
        rotate_left 1
        · (intro w' hSw; (try dsimp only at hSw); go_simp; (try with_reducible rfl))
        try simp only [Act.put, List.setIfInBounds_toArray, List.set_cons_zero, List.set_cons_succ]
        refine wpAnyH_take (i := 4) (v := ?_) (by first | (simp only [List.getElem?_toArray, List.getElem?_cons_succ, List.getElem?_cons_zero]; rfl) | rfl) (by kernel_rfl) (by kernel_rfl) (by kernel_rfl) (fun _ _ _ h => (by cases h.1)) (Or.inl ⟨by rfl, ?_⟩) (by assumption) ?_
        rotate_left 1
        · (intro w' hSw; (try dsimp only at hSw); go_simp; (try with_reducible rfl))
        try simp only [Act.put, List.setIfInBounds_toArray, List.set_cons_zero, List.set_cons_succ]
        refine wpAnyH_ready (rs := [5]) (by kernel_rfl) (by simp) ?_
        refine AllReadyH.cons (by first | (simp only [List.getElem?_toArray, List.getElem?_cons_succ, List.getElem?_cons_zero]; rfl) | rfl) (fun K hK => ?_) AllReadyH.nil
        go_simp
        with_reducible refine (ht2 _ ((Below.refl W5.heap.size W5).drew) _ _ (by omega)).mono ?_
        rintro e W6 ⟨rfl, hO6, h16'⟩
        have h16 : One b3 W5 W6 := ⟨h16'.os, h16'.tape, h16'.output, h16'.size, h16'.block⟩
        try (go_wp2_with fail)
        have p2 := (h16.block _ hwb).trans l2
        have p6 := (h16.block _ (fun e => hb3 e.symm)).trans l6
        refine hK.out _ _ ⟨(one_cellW p2).1, (one_cellW p6).1⟩ (fun hHeld => ?_)
        clear hK K
        try simp only [Act.put, List.setIfInBounds_toArray, List.set_cons_zero, List.set_cons_succ]
        refine wpAnyH_done (by kernel_rfl) ⟨rfl, ?_⟩ _
        rw [show turnL (goal os (ksOf xs)) (F.length + 2) (F.length + (2 + m) - (F.length + 2)) (F ++ (goal os (ksOf xs) o.cl :: pk o.kind o.sz o.hash o.mark :: o.xs)) = F ++ (goal os (ksOf xs) o.cl :: pk o.kind o.sz o.hash o.mark :: o.xs.map (goal os (ksOf xs))) by rw [show F.length + (2 + m) - (F.length + 2) = m by omega, hT2]] at hO6
        have hch6 : Ch2 (N + 2) bo W W6 := hch5.one h16 (by rcases hb4 with e | e <;> omega)
        obtain ⟨hs1, hs2⟩ := hst1 W6 bo hcurW ho2 hch6 ⟨b3, c3, hb1, hb2, by rw [hfin]; rw [show (F ++ (goal os (ksOf xs) o.cl :: pk o.kind o.sz o.hash o.mark :: o.xs.map (goal os (ksOf xs)))).length = F.length + (2 + m) by simp; omega]; exact p6, by rw [hfin]; exact hO6⟩
        exact ⟨hkeep W6 hch6, hs1, hs2⟩
    refine wpIn_round_held (S := fun w' : World => w'.cell? ⟨N, 0, none⟩ = some (.slice (some ⟨bA, 0, none⟩) D.length cA) ∧ w'.cell? ⟨Bx, 0, none⟩ = some (.int .u64 (o.cl : Int)) ∧ w'.cell? ⟨Bx, 1, none⟩ = some (.int .i64 (o.kind : Int)) ∧ w'.cell? ⟨Bx, 2, none⟩ = some (.int .i64 (o.sz : Int)) ∧ w'.cell? ⟨Bx, 3, none⟩ = some (.int .u32 (o.hash : Int)) ∧ w'.cell? ⟨Bx, 4, none⟩ = some (.bool o.mark)) (by simp [Undeferred]) (by kernel_rfl) ⟨f5.1, fX⟩ (fun hHeld => ?_)
    refine wpAnyH_take (i := 1) (v := ?_) (by first | (simp only [List.getElem?_toArray, List.getElem?_cons_succ, List.getElem?_cons_zero]; rfl) | rfl) (by kernel_rfl) (by kernel_rfl) (by kernel_rfl) (fun _ _ _ h => (by cases h.1)) (Or.inl ⟨by rfl, ?_⟩) (by assumption) ?_
    rotate_left 1
    · (intro w' hSw; (try dsimp only at hSw); go_simp; (try with_reducible rfl))
    try simp only [Act.put, List.setIfInBounds_toArray, List.set_cons_zero, List.set_cons_succ]
    refine wpAnyH_take (i := 2) (v := ?_) (by first | (simp only [List.getElem?_toArray, List.getElem?_cons_succ, List.getElem?_cons_zero]; rfl) | rfl) (by kernel_rfl) (by kernel_rfl) (by kernel_rfl) (fun _ _ _ h => (by cases h.1)) (Or.inl ⟨by rfl, ?_⟩) (by assumption) ?_
    rotate_left 1
    · (intro w' hSw; (try dsimp only at hSw); go_simp; (try with_reducible rfl))
    try simp only [Act.put, List.setIfInBounds_toArray, List.set_cons_zero, List.set_cons_succ]
    refine wpAnyH_take (i := 3) (v := ?_) (by first | (simp only [List.getElem?_toArray, List.getElem?_cons_succ, List.getElem?_cons_zero]; rfl) | rfl) (by kernel_rfl) (by kernel_rfl) (by kernel_rfl) (fun _ _ _ h => (by cases h.1)) (Or.inl ⟨by rfl, ?_⟩) (by assumption) ?_
    rotate_left 1
    · (intro w' hSw; (try dsimp only at hSw); go_simp; (try with_reducible rfl))
    try simp only [Act.put, List.setIfInBounds_toArray, List.set_cons_zero, List.set_cons_succ]
    refine wpAnyH_take (i := 4) (v := ?_) (by first | (simp only [List.getElem?_toArray, List.getElem?_cons_succ, List.getElem?_cons_zero]; rfl) | rfl) (by kernel_rfl) (by kernel_rfl) (by kernel_rfl) (fun _ _ _ h => (by cases h.1)) (Or.inl ⟨by rfl, ?_⟩) (by assumption) ?_
    rotate_left 1
    · (intro w' hSw; (try dsimp only at hSw); go_simp; (try with_reducible rfl))
    try simp only [Act.put, List.setIfInBounds_toArray, List.set_cons_zero, List.set_cons_succ]
    refine wpAnyH_take (i := 5) (v := ?_) (by first | (simp only [List.getElem?_toArray, List.getElem?_cons_succ, List.getElem?_cons_zero]; rfl) | rfl) (by kernel_rfl) (by kernel_rfl) (by kernel_rfl) (fun _ _ _ h => (by cases h.1)) (Or.inl ⟨by rfl, ?_⟩) (by assumption) ?_
    rotate_left 1
    · (intro w' hSw; (try dsimp only at hSw); go_simp; (try with_reducible rfl))
    try simp only [Act.put, List.setIfInBounds_toArray, List.set_cons_zero, List.set_cons_succ]
    refine wpAnyH_ready (rs := [0, 6]) (by kernel_rfl) (by simp) ?_
    refine AllReadyH.cons (by first | (simp only [List.getElem?_toArray, List.getElem?_cons_zero]; rfl) | rfl) (fun K hK => ?_) (AllReadyH.cons (by first | (simp only [List.getElem?_toArray, List.getElem?_cons_succ, List.getElem?_cons_zero]; rfl) | rfl) (fun K hK => ?_) AllReadyH.nil)
    · go_simp
      refine hK.out _ _ ⟨f5.1, fX⟩ (fun hHeld => ?_)
      clear hK K
      try simp only [Act.put, List.setIfInBounds_toArray, List.set_cons_zero, List.set_cons_succ]
      refine wpAnyH_ready (rs := [6]) (by kernel_rfl) (by simp) ?_
      refine AllReadyH.cons (by first | (simp only [List.getElem?_toArray, List.getElem?_cons_succ, List.getElem?_cons_zero]; rfl) | rfl) (fun K hK => ?_) AllReadyH.nil
      go_simp
      with_reducible refine (hce _).mono ?_
      rintro e W2 ⟨rfl, hb2⟩
      try (go_wp2_with fail)
      have h2 : Below W.heap.size W W2 := ((Below.refl W.heap.size W).drew).trans hb2
      have m5 := (h2.block _ (lt_of_block h5)).trans h5
      have m6 := (h2.block _ (lt_of_block ho3)).trans ho3
      have mX := (h2.block _ (lt_of_block hX)).trans hX
      have f6 := one_cellW m6
      refine hK.out _ _ ⟨(one_cellW m5).1, cells5 mX⟩ (fun hHeld => ?_)
      clear hK K
      try simp only [Act.put, List.setIfInBounds_toArray, List.set_cons_zero, List.set_cons_succ]
      refine wpAnyH_take (i := 7) (v := ?_) (by first | (simp only [List.getElem?_toArray, List.getElem?_cons_succ, List.getElem?_cons_zero]; rfl) | rfl) (by kernel_rfl) (by kernel_rfl) (by kernel_rfl) (fun _ _ _ h => (by cases h.1)) (Or.inl ⟨by rfl, ?_⟩) (by assumption) ?_
      rotate_left 1
      · (intro w' hSw; (try dsimp only at hSw); go_simp; (try with_reducible rfl))
      try simp only [Act.put, List.setIfInBounds_toArray, List.set_cons_zero, List.set_cons_succ]
      refine wpAnyH_take (i := 8) (v := ?_) (by first | (simp only [List.getElem?_toArray, List.getElem?_cons_succ, List.getElem?_cons_zero]; rfl) | rfl) (by kernel_rfl) (by kernel_rfl) (by kernel_rfl) (fun _ _ _ h => (by cases h.1)) (Or.inl ⟨by rfl, ?_⟩) (by assumption) ?_
      rotate_left 1
      · (intro w' hSw; (try dsimp only at hSw); go_simp; (try with_reducible rfl))
      try simp only [Act.put, List.setIfInBounds_toArray, List.set_cons_zero, List.set_cons_succ]
      refine wpAnyH_ready (rs := [9]) (by kernel_rfl) (by simp) ?_
      refine AllReadyH.cons (by first | (simp only [List.getElem?_toArray, List.getElem?_cons_succ, List.getElem?_cons_zero]; rfl) | rfl) (fun K hK => ?_) AllReadyH.nil
      refine step_append_w (base := N + 1) (bo := bo) (co := co) (xs := F) (news := o.cells) (A := some ⟨bA, q, none⟩) (c := cA - q) rfl _ _ rfl rfl (by rw [hcl5]; rfl) (ho4.keep fun k cur hc => h2.block k (lt_of_block hc)) ((hrA.below h2 (Nat.le_refl _)).more h2.size) (fun h => by cases h) (by omega) ho9 (by rw [hcl5]; omega) (by have := hS.top; have := h2.size; omega) ?_
      intro b3 c3 W3 hb3 hO3 hg3
      have n5 := (hg3.block _ (lt_of_block m5) (by simpa using fun e : N = bo => hNb e.symm)).trans m5
      have n6 := (hg3.block _ (lt_of_block m6) (by simpa using fun e : N + 2 = bo => hb6 e.symm)).trans m6
      have nX := (hg3.block _ (lt_of_block mX) (by simpa using fun e : Bx = bo => hbB e.symm)).trans mX
      have f6 := one_cellW n6
      refine hK.out _ _ ⟨(one_cellW n5).1, cells5 nX⟩ (fun hHeld => ?_)
      clear hK K
      try simp only [Act.put, List.setIfInBounds_toArray, List.set_cons_zero, List.set_cons_succ]
      refine wpAnyH_ready (rs := [10]) (by kernel_rfl) (by simp) ?_
      refine AllReadyH.cons (by first | (simp only [List.getElem?_toArray, List.getElem?_cons_succ, List.getElem?_cons_zero]; rfl) | rfl) (fun K hK => ?_) AllReadyH.nil
      go_simp
      have hc4 : Ch2 (N + 2) bo W (W3.setCell ⟨N + 2, 0, none⟩ (.slice (some ⟨b3, 0, none⟩) (F.length + (2 + m)) c3)) := (((Ch2.refl (N + 2) bo W).below h2).grown hg3).one ((One.refl (N + 2) W3).setCell 0 _) (.inl rfl)
      have h64 : (W3.setCell ⟨N + 2, 0, none⟩ (.slice (some ⟨b3, 0, none⟩) (F.length + (2 + m)) c3)).heap[N + 2]? = some (.cells #[.slice (some ⟨b3, 0, none⟩) (F.length + (2 + m)) c3] 44 (0, 0)) := heap_setCell_same W3 _ 0 _ _ _ n6
      have hsz2 := h2.size
      have htp := hS.top
      have hBsz := hS.below.size
      have h36 : b3 ≠ N + 2 := by rcases hb3 with e | e <;> omega
      have hO4 := ownH_at hO3 (Below.heap_setCell W3 ⟨N + 2, 0, none⟩ (.slice (some ⟨b3, 0, none⟩) (F.length + (2 + m)) c3) b3 h36)
      have hx4 := cells5 ((Below.heap_setCell W3 ⟨N + 2, 0, none⟩ (.slice (some ⟨b3, 0, none⟩) (F.length + (2 + m)) c3) Bx (by show Bx ≠ N + 2; omega)).trans nX)
      have h54 := one_cellW ((Below.heap_setCell W3 ⟨N + 2, 0, none⟩ (.slice (some ⟨b3, 0, none⟩) (F.length + (2 + m)) c3) N (by show N ≠ N + 2; omega)).trans n5)
      refine hK.out _ _ ⟨h54.1, hx4⟩ (fun _ => ?_)
      refine wpAnyH_done (by kernel_rfl) ⟨rfl, ?_⟩ _
      exact HT.out b3 c3 _ hc4 ⟨by rcases hb3 with e | e <;> omega, by rcases hb3 with e | e <;> omega, h36, by rcases hb3 with e | e <;> omega⟩ h64 hO4
    · go_simp
      with_reducible refine (hce _).mono ?_
      rintro e W2 ⟨rfl, hb2⟩
      try (go_wp2_with fail)
      have h2 : Below W.heap.size W W2 := ((Below.refl W.heap.size W).drew).trans hb2
      have m5 := (h2.block _ (lt_of_block h5)).trans h5
      have m6 := (h2.block _ (lt_of_block ho3)).trans ho3
      have mX := (h2.block _ (lt_of_block hX)).trans hX
      have f6 := one_cellW m6
      refine hK.out _ _ ⟨(one_cellW m5).1, cells5 mX⟩ (fun hHeld => ?_)
      clear hK K
      try simp only [Act.put, List.setIfInBounds_toArray, List.set_cons_zero, List.set_cons_succ]
      refine wpAnyH_take (i := 7) (v := ?_) (by first | (simp only [List.getElem?_toArray, List.getElem?_cons_succ, List.getElem?_cons_zero]; rfl) | rfl) (by kernel_rfl) (by kernel_rfl) (by kernel_rfl) (fun _ _ _ h => (by cases h.1)) (Or.inl ⟨by rfl, ?_⟩) (by assumption) ?_
      rotate_left 1
      · (intro w' hSw; (try dsimp only at hSw); go_simp; (try with_reducible rfl))
      try simp only [Act.put, List.setIfInBounds_toArray, List.set_cons_zero, List.set_cons_succ]
      refine wpAnyH_take (i := 8) (v := ?_) (by first | (simp only [List.getElem?_toArray, List.getElem?_cons_succ, List.getElem?_cons_zero]; rfl) | rfl) (by kernel_rfl) (by kernel_rfl) (by kernel_rfl) (fun _ _ _ h => (by cases h.1)) (Or.inl ⟨by rfl, ?_⟩) (by assumption) ?_
      rotate_left 1
      · (intro w' hSw; (try dsimp only at hSw); go_simp; (try with_reducible rfl))
      try simp only [Act.put, List.setIfInBounds_toArray, List.set_cons_zero, List.set_cons_succ]
      refine wpAnyH_ready (rs := [0]) (by kernel_rfl) (by simp) ?_
      refine AllReadyH.cons (by first | (simp only [List.getElem?_toArray, List.getElem?_cons_zero]; rfl) | rfl) (fun K hK => ?_) AllReadyH.nil
      go_simp
      refine hK.out _ _ ⟨(one_cellW m5).1, cells5 mX⟩ (fun hHeld => ?_)
      clear hK K
      try simp only [Act.put, List.setIfInBounds_toArray, List.set_cons_zero, List.set_cons_succ]
      refine wpAnyH_ready (rs := [9]) (by kernel_rfl) (by simp) ?_
      refine AllReadyH.cons (by first | (simp only [List.getElem?_toArray, List.getElem?_cons_succ, List.getElem?_cons_zero]; rfl) | rfl) (fun K hK => ?_) AllReadyH.nil
      refine step_append_w (base := N + 1) (bo := bo) (co := co) (xs := F) (news := o.cells) (A := some ⟨bA, q, none⟩) (c := cA - q) rfl _ _ rfl rfl (by rw [hcl5]; rfl) (ho4.keep fun k cur hc => h2.block k (lt_of_block hc)) ((hrA.below h2 (Nat.le_refl _)).more h2.size) (fun h => by cases h) (by omega) ho9 (by rw [hcl5]; omega) (by have := hS.top; have := h2.size; omega) ?_
      intro b3 c3 W3 hb3 hO3 hg3
      have n5 := (hg3.block _ (lt_of_block m5) (by simpa using fun e : N = bo => hNb e.symm)).trans m5
      have n6 := (hg3.block _ (lt_of_block m6) (by simpa using fun e : N + 2 = bo => hb6 e.symm)).trans m6
      have nX := (hg3.block _ (lt_of_block mX) (by simpa using fun e : Bx = bo => hbB e.symm)).trans mX
      have f6 := one_cellW n6
      refine hK.out _ _ ⟨(one_cellW n5).1, cells5 nX⟩ (fun hHeld => ?_)
      clear hK K
      try simp only [Act.put, List.setIfInBounds_toArray, List.set_cons_zero, List.set_cons_succ]
      refine wpAnyH_ready (rs := [10]) (by kernel_rfl) (by simp) ?_
      refine AllReadyH.cons (by first | (simp only [List.getElem?_toArray, List.getElem?_cons_succ, List.getElem?_cons_zero]; rfl) | rfl) (fun K hK => ?_) AllReadyH.nil
      go_simp
      have hc4 : Ch2 (N + 2) bo W (W3.setCell ⟨N + 2, 0, none⟩ (.slice (some ⟨b3, 0, none⟩) (F.length + (2 + m)) c3)) := (((Ch2.refl (N + 2) bo W).below h2).grown hg3).one ((One.refl (N + 2) W3).setCell 0 _) (.inl rfl)
      have h64 : (W3.setCell ⟨N + 2, 0, none⟩ (.slice (some ⟨b3, 0, none⟩) (F.length + (2 + m)) c3)).heap[N + 2]? = some (.cells #[.slice (some ⟨b3, 0, none⟩) (F.length + (2 + m)) c3] 44 (0, 0)) := heap_setCell_same W3 _ 0 _ _ _ n6
      have hsz2 := h2.size
      have htp := hS.top
      have hBsz := hS.below.size
      have h36 : b3 ≠ N + 2 := by rcases hb3 with e | e <;> omega
      have hO4 := ownH_at hO3 (Below.heap_setCell W3 ⟨N + 2, 0, none⟩ (.slice (some ⟨b3, 0, none⟩) (F.length + (2 + m)) c3) b3 h36)
      have hx4 := cells5 ((Below.heap_setCell W3 ⟨N + 2, 0, none⟩ (.slice (some ⟨b3, 0, none⟩) (F.length + (2 + m)) c3) Bx (by show Bx ≠ N + 2; omega)).trans nX)
      have h54 := one_cellW ((Below.heap_setCell W3 ⟨N + 2, 0, none⟩ (.slice (some ⟨b3, 0, none⟩) (F.length + (2 + m)) c3) N (by show N ≠ N + 2; omega)).trans n5)
      refine hK.out _ _ ⟨h54.1, hx4⟩ (fun _ => ?_)
      refine wpAnyH_done (by kernel_rfl) ⟨rfl, ?_⟩ _
      exact HT.out b3 c3 _ hc4 ⟨by rcases hb3 with e | e <;> omega, by rcases hb3 with e | e <;> omega, h36, by rcases hb3 with e | e <;> omega⟩ h64 hO4
  case done =>
    rintro D' ys W hD' rfl hS hK
    obtain ⟨bo, co, ho1, ho2, ho3, ho4⟩ := hS.out
    have f6 := one_cellW ho3
    gi_wp2
    have hp : ∀ k, k ≠ D' → (W.putObj D' (.deferred none)).heap[k]? = W.heap[k]? := fun k hk => World.putObj_heap_other hk
    refine ⟨by simp, .inl ⟨_, _, rfl, run_takeDeferred hK, ?_⟩⟩
    obtain ⟨W3, hW3⟩ : ∃ W3, W.putObj D' (.deferred none) = W3 := ⟨_, rfl⟩
    have hs3 : W3.heap.size = W.heap.size := by rw [← hW3]; simp
    have ho3' : W3.os = W.os ∧ W3.tape = W.tape ∧ W3.output = W.output := by rw [← hW3]; exact ⟨rfl, rfl, rfl⟩
    rw [hW3] at hp ⊢
    clear hW3
    have hbD : bo ≠ D' := fun e => by
      subst e
      rcases ho4.2 with ⟨e, _⟩ | ⟨g', cap', cur, e, _, hg, _⟩
      · cases e
      · injection e with e1
        injection e1 with e1
        injection e1 with e1
        subst e1
        rw [hK] at hg
        cases hg
    have hl := laidF_all (os := os) (fs := fs) ys
    rw [hl] at ho4
    rw [hl]
    refine ⟨.slice (some ⟨bo, 0, none⟩) (flat (moved os (ksOf ys))).length co, by simp [results, Tryd.results30, go_sem], bo, co, rfl, ?_, ⟨ho3'.1.trans hS.below.os, ho3'.2.1.trans hS.below.tape, ho3'.2.2.trans hS.below.output, by rw [hs3]; exact hS.below.size, fun k hk => (hp k (by omega)).trans (hS.below.block k hk)⟩⟩
    have := ownH_at ho4 (hp _ hbD)
    refine ⟨this.1, this.2.imp id (fun ⟨g', cap', cur, e, hb', hg, hr⟩ => ⟨g', cap', cur, e, by omega, hg, hr⟩)⟩
  case stop =>
    rintro D c pre W hD _ hx hK
    exact hx.elim
end
end Go.Proofs.YtahmljjjdoaahaaDoor.Fl
