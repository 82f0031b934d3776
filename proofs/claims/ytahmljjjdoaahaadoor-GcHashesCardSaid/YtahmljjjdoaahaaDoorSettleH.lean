/-
  Loading memory: where the objects stand among loaded cells, objects with numbers of their own too.
-/
import Derived.Test.YtahmljjjdoaahaaDoorSettle
namespace Go.Proofs.YtahmljjjdoaahaaDoor.Fl
open Go.RowKit Go.Shelf
attribute [local go_sem] Oper.semAt_some wide_fn

/-- no two of them have one number of their own -/
def Dist (os : List Ob) (l : List (Ix os)) : Prop := l.Pairwise fun a b => (os[a.1]'a.2).hash = 0 ∨ (os[a.1]'a.2).hash ≠ (os[b.1]'b.2).hash
/-- the map holds the numbers that were met -/
def HasH (os : List Ob) (pre : List (Ix os)) (D : DataW Unit) : Prop := ∀ h : Nat, Maps.has D (.int .u32 (h : Int)) = true ↔ h ≠ 0 ∧ ∃ k ∈ pre, (os[k.1]'k.2).hash = h
section
variable {base g gc cap gb gb2 size last : Nat} {os : List Ob} {ws : List Nat}
theorem HasH.void (os : List Ob) : HasH os [] (.map []) := fun h => ⟨fun e => (by cases e), fun ⟨_, k, hk, _⟩ => (by cases hk)⟩
theorem HasH.zero {pre : List (Ix os)} {x : Ix os} {D : DataW Unit} (h : HasH os pre D) (hx : (os[x.1]'x.2).hash = 0) : HasH os (pre ++ [x]) D := fun n => by
  rw [h n]
  constructor
  · rintro ⟨h0, k, hk, e⟩
    exact ⟨h0, k, by simp [hk], e⟩
  · rintro ⟨h0, k, hk, e⟩
    rcases List.mem_append.1 hk with hk | hk
    · exact ⟨h0, k, hk, e⟩
    · rw [List.mem_singleton] at hk
      subst hk
      omega
theorem HasH.put {pre : List (Ix os)} {x : Ix os} {D : DataW Unit} (h : HasH os pre D) (hD : Maps.IsMap D) (hx : (os[x.1]'x.2).hash ≠ 0) (d : DataW Unit) : HasH os (pre ++ [x]) (D.put (.int .u32 ((os[x.1]'x.2).hash : Int)) d) := fun n => by
  have hk1 : WideAt.IsKeyLit (.int .u32 ((os[x.1]'x.2).hash : Int)) := by simp [WideAt.IsKeyLit]
  by_cases e : n = (os[x.1]'x.2).hash
  · subst e
    rw [Maps.has_put_same hD hk1]
    exact ⟨fun _ => ⟨hx, x, by simp, rfl⟩, fun _ => rfl⟩
  · have hne : (Lit.int .u32 (n : Int)) ≠ .int .u32 ((os[x.1]'x.2).hash : Int) := fun e2 => by
      injection e2 with _ e2
      exact e (Int.ofNat.inj e2)
    rw [Maps.has_put_other hne, h n]
    constructor
    · rintro ⟨h0, k, hk, e⟩
      exact ⟨h0, k, by simp [hk], e⟩
    · rintro ⟨h0, k, hk, e3⟩
      rcases List.mem_append.1 hk with hk | hk
      · exact ⟨h0, k, hk, e3⟩
      · rw [List.mem_singleton] at hk
        subst hk
        exact absurd e3.symm e
theorem Dist.snoc {pre : List (Ix os)} {x : Ix os} (h : Dist os pre) (hx : (os[x.1]'x.2).hash = 0 ∨ ¬ ∃ k ∈ pre, (os[k.1]'k.2).hash = (os[x.1]'x.2).hash) : Dist os (pre ++ [x]) := by
  refine List.pairwise_append.2 ⟨h, List.pairwise_singleton _ _, fun a ha b hb => ?_⟩
  rw [List.mem_singleton] at hb
  subst hb
  rcases hx with hx | hx
  · by_cases e : (os[a.1]'a.2).hash = 0
    · exact .inl e
    · exact .inr (by omega)
  · exact .inr fun e => hx ⟨a, ha, e⟩
theorem Dist.not {pre : List (Ix os)} {x : Ix os} (hx : (os[x.1]'x.2).hash ≠ 0) (hk : ∃ k ∈ pre, (os[k.1]'k.2).hash = (os[x.1]'x.2).hash) : ¬ Dist os (pre ++ [x]) := fun h => by
  obtain ⟨k, hk, e⟩ := hk
  rcases (List.pairwise_append.1 h).2.2 k hk x (by simp) with h1 | h1
  · omega
  · exact h1 e
end
section
variable {base g gc cap gb gb2 size last : Nat} {os : List Ob} {ws : List Nat}
/-- what stands between two rounds -/
structure SetK (w0 : World) (base g gc cap gb gb2 size last : Nat) (os : List Ob) (pre : List (Ix os)) (W : World) : Prop where
  heap : ∃ ws, HeapAt W base g gc cap gb gb2 size last (Lof os) ws ∧ SetIn ws os pre
  bh : W.heap[w0.heap.size]? = some (.cells #[.pointer (some ⟨g, 0, none⟩)] 27 (0, 0))
  bok : W.heap[w0.heap.size + 1]? = some (.cells #[.bool false] 4 (0, 0))
  bmb : W.heap[w0.heap.size + 1 + 1 + 1]? = some (.cells #[.map (some (w0.heap.size + 1 + 1))] 134 (0, 0))
  aside : Aside g gc gb2 w0 W
  top : w0.heap.size + 5 ≤ W.heap.size
theorem SetK.own {w0 : World} : OwnFrom (w0.heap.size + 5) (SetK w0 base g gc cap gb gb2 size last os) := fun pre W W' row h hg hr => by
  have hk : ∀ (k : Nat) cs T fr, W.heap[k]? = some (Obj.cells cs T fr) → W'.heap[k]? = W.heap[k]? := fun k cs T fr hc => grownBy_keeps_cells hg (fun r e => (hr r e).2) hc rfl
  obtain ⟨ws, hA, hS⟩ := h.heap
  have hlow : ∀ k, k < w0.heap.size + 5 → W'.heap[k]? = W.heap[k]? := fun k hk => hg.block k (Nat.lt_of_lt_of_le hk h.top) (fun e => by have := (hr k e.symm).1; omega)
  exact ⟨⟨ws, hA.kept hk, hS⟩, (hk _ _ _ _ h.bh).trans h.bh, (hk _ _ _ _ h.bok).trans h.bok, (hk _ _ _ _ h.bmb).trans h.bmb,
    ⟨hg.os.trans h.aside.os, hg.tape.trans h.aside.tape, hg.output.trans h.aside.output, Nat.le_trans h.aside.size hg.size, fun k h1 h2 h3 h4 => (hlow k (by omega)).trans (h.aside.block k h1 h2 h3 h4)⟩, Nat.le_trans h.top hg.size⟩
theorem SetK.grown {w0 W W' : World} {pre : List (Ix os)} (h : SetK w0 base g gc cap gb gb2 size last os pre W) (hb : Below W.heap.size W W') : SetK w0 base g gc cap gb gb2 size last os pre W' :=
  SetK.own pre W W' none h (grown_below hb) (fun r e => by cases e)
theorem SetK.of {w0 W : World} {pre : List (Ix os)} (h : SetK w0 base g gc cap gb gb2 size last os pre W) (hB : W.heap[w0.heap.size + 4]? = some (.cells #[.pointer (some ⟨g, 0, none⟩)] 27 (0, 0))) : HeapOf base g gc cap gb gb2 size last (w0.heap.size + 4) os W := by
  obtain ⟨ws, hA, _⟩ := h.heap
  exact ⟨⟨ws, hA⟩, hB⟩
/-- a round: another place is set -/
theorem SetK.step {w0 W W' : World} {pre : List (Ix os)} {x : Ix os} {ws ws' : List Nat} (h : SetK w0 base g gc cap gb gb2 size last os pre W) (hA : HeapAt W base g gc cap gb gb2 size last (Lof os) ws) (hS : SetIn ws os pre)
    (hB : BitsAt W' gb gb2 size ws') (hb : ∀ i, bitAt ws' i = true ↔ bitAt ws i = true ∨ i = pos os x.1) (hw : w0.heap.size ≤ gb2 → False) (hbl : W'.os = W.os ∧ W'.tape = W.tape ∧ W'.output = W.output) (hs : W'.heap.size = W.heap.size) (hk : ∀ k, k ≠ gb2 → W'.heap[k]? = W.heap[k]?) :
    SetK w0 base g gc cap gb gb2 size last os (pre ++ [x]) W' := by
  have ne : ∀ k, w0.heap.size ≤ k → k ≠ gb2 := fun k hk e => hw (by omega)
  refine ⟨⟨ws', hA.bit hB hk, fun i => ?_⟩, (hk _ (ne _ (Nat.le_refl _))).trans h.bh, (hk _ (ne _ (by omega))).trans h.bok, (hk _ (ne _ (by omega))).trans h.bmb,
    ⟨hbl.1.trans h.aside.os, hbl.2.1.trans h.aside.tape, hbl.2.2.trans h.aside.output, by rw [hs]; exact h.aside.size, fun k h1 h2 h3 h4 => (hk k h4).trans (h.aside.block k h1 h2 h3 h4)⟩, by rw [hs]; exact h.top⟩
  rw [hb i, hS i]
  constructor
  · rintro (⟨k, hk, e⟩ | e)
    · exact ⟨k, by simp [hk], e⟩
    · exact ⟨x, by simp, e⟩
  · rintro ⟨k, hk, e⟩
    rcases List.mem_append.1 hk with hk | hk
    · exact .inl ⟨k, hk, e⟩
    · rw [List.mem_singleton] at hk; subst hk; exact .inr e
theorem SetK.map {w0 W W' : World} {pre : List (Ix os)} {n : Nat} {D : DataW Unit} (h : SetK w0 base g gc cap gb gb2 size last os pre W) (hm : W.ownsMap Tryd.prog 29 (plainElem Tryd.prog 3) (w0.heap.size + 1 + 1) n D) (hg : W.grownBy W' (some (w0.heap.size + 1 + 1))) : SetK w0 base g gc cap gb gb2 size last os pre W' := by
  have hk : ∀ (k : Nat) cs T fr, W.heap[k]? = some (Obj.cells cs T fr) → W'.heap[k]? = W.heap[k]? := fun k cs T fr hc => hg.block k (lt_of_block hc) (fun e => by
    injection e with e
    subst e
    obtain ⟨es, cl, hm2, _⟩ := hm
    rw [hc] at hm2
    cases hm2)
  obtain ⟨ws, hA, hS⟩ := h.heap
  exact ⟨⟨ws, hA.kept hk, hS⟩, (hk _ _ _ _ h.bh).trans h.bh, (hk _ _ _ _ h.bok).trans h.bok, (hk _ _ _ _ h.bmb).trans h.bmb,
    ⟨hg.os.trans h.aside.os, hg.tape.trans h.aside.tape, hg.output.trans h.aside.output, Nat.le_trans h.aside.size hg.size, fun k h1 h2 h3 h4 => (hg.block k (by have := h.top; omega) (fun e => by injection e with e; omega)).trans (h.aside.block k h1 h2 h3 h4)⟩, Nat.le_trans h.top hg.size⟩
/-- what stands between two rounds: the map too -/
structure SetH (w0 : World) (base g gc cap gb gb2 size last : Nat) (os : List Ob) (pre : List (Ix os)) (W : World) : Prop where
  core : SetK w0 base g gc cap gb gb2 size last os pre W
  bm : ∃ D : DataW Unit, W.ownsMap Tryd.prog 29 (plainElem Tryd.prog 3) (w0.heap.size + 1 + 1) pre.length D ∧ HasH os pre D
  dist : Dist os pre
theorem SetH.own {w0 : World} : OwnFrom (w0.heap.size + 5) (SetH w0 base g gc cap gb gb2 size last os) := fun pre W W' row h hg hr => by
  obtain ⟨D, ⟨es, cl, h1, h2⟩, h3⟩ := h.bm
  exact ⟨SetK.own pre W W' row h.core hg hr, ⟨D, ⟨es, cl, (hg.block _ (Nat.lt_of_lt_of_le (by omega) h.core.top) (fun e => by have := (hr _ e.symm).1; omega)).trans h1, h2⟩, h3⟩, h.dist⟩
theorem SetH.grown {w0 W W' : World} {pre : List (Ix os)} (h : SetH w0 base g gc cap gb gb2 size last os pre W) (hb : Below W.heap.size W W') : SetH w0 base g gc cap gb gb2 size last os pre W' :=
  SetH.own pre W W' none h (grown_below hb) (fun r e => by cases e)
theorem ixs_sub {k n : Nat} (h : k ≤ n) : (ixs os k).Sublist (ixs os n) := (List.range_sublist.2 h).filterMap _
theorem gcells32 {w w' : World} {B n : Nat} {D : DataW Unit} (hm : w.ownsMap Tryd.prog 29 (plainElem Tryd.prog 3) B n D) (hg : w.grownBy w' (some B)) (k : Nat) (cs : Array Value) (T : TypeId) (fr) (hc : w.heap[k]? = some (Obj.cells cs T fr)) : w'.heap[k]? = w.heap[k]? :=
  hg.block k (lt_of_block hc) (fun e => by
    injection e with e
    subst e
    obtain ⟨es, cl, hm2, _⟩ := hm
    rw [hc] at hm2
    cases hm2)
theorem map_at {w w' : World} {B n n' : Nat} {D : DataW Unit} (hm : w.ownsMap Tryd.prog 29 (plainElem Tryd.prog 3) B n D) (hk : w'.heap[B]? = w.heap[B]?) (hn : n ≤ n') : w'.ownsMap Tryd.prog 29 (plainElem Tryd.prog 3) B n' D := by
  obtain ⟨es, cl, h1, h2⟩ := hm
  exact World.ownsMap.mono ⟨es, cl, hk.trans h1, h2⟩ hn
set_option maxRecDepth 100000 in
set_option maxHeartbeats 4000000 in
theorem settleh_any (w : World) (h : HeapAt w base g gc cap gb gb2 size last (Lof os) ws) (hz : ∀ i, bitAt ws i = false) (hok : ∀ o ∈ os, o.Ok) (hcl : ∀ o ∈ os, CleanO o) (hh : ∀ o ∈ os, o.hash ≤ last) (hla : last < 4294967296) (hd : Dist os (ixs os os.length)) :
    Calls Tryd.prog 55 #[.pointer (some ⟨g, 0, none⟩)] w fun e w' => e = .returned (.bool true) ∧ (∃ ws', ObsAt w' base g gc cap gb gb2 size last os ws') ∧ Aside g gc gb2 w w' := by
  have HH := Lib.hid hh
  have HDi := Lib.hid hd
  clear hh hd
  refine (callsIn_wide (n := 4)).1 ?_
  refine callsIn_of_wp_marks Tryd.func55 rfl trivial ?_ rfl
  simp only [Tryd.ntmps55, List.size_toArray, List.length_cons, List.length_nil, Nat.reduceAdd, Nat.reduceSub, Array.replicate_succ, Array.replicate_zero, List.push_toArray, List.append_toArray, List.nil_append, List.cons_append]
  have hmm := @run_makeMap Tryd.prog
  gi_wp2_with (gi_at_call 67; refine (callsIn_wide.2 (objects_any _)).mono ?_; rintro e w' ⟨rfl, rfl⟩)
  obtain ⟨W0, hW0⟩ : ∃ W0, (((((w.alloc (.cells #[.pointer (some ⟨g, 0, none⟩)] 27)).alloc (.cells #[.bool false] 4)).alloc (.map #[] 0)).alloc (.cells #[.map (some (w.heap.size + 1 + 1))] 134)).alloc (.cells #[.pointer (some ⟨g, 0, none⟩)] 27)) = W0 := ⟨_, rfl⟩
  have hb0 : Below w.heap.size w W0 := by rw [← hW0]; exact (((((Below.refl _ _).alloc (Nat.le_refl _) _).alloc (by simp) _).alloc (by simp; omega) _).alloc (by simp; omega) _).alloc (by simp; omega) _
  have hsz : W0.heap.size = w.heap.size + 5 := by rw [← hW0]; simp
  have hgl := h.gl
  have hol : os.length ≤ 16777216 := by
    have h1 := pos_all os
    have h2 := pos_ge os (k := os.length) (Nat.le_refl _)
    have h3 := h.room
    have h4 := h.small
    omega
  obtain ⟨q1, q2, q3, q4, hBn⟩ := five_allocs w (.cells #[.pointer (some ⟨g, 0, none⟩)] 27) (.cells #[.bool false] 4) (.map #[] 0) (.cells #[.map (some (w.heap.size + 1 + 1))] 134) (.cells #[.pointer (some ⟨g, 0, none⟩)] 27)
  rw [hW0] at q1 q2 q3 q4 hBn
  have hS0 : SetH w base g gc cap gb gb2 size last os [] W0 := by
    exact ⟨⟨⟨ws, h.below hb0, fun i => by rw [hz i]; simp⟩, q1, q2, q4, Aside.of_below hb0, by omega⟩, ⟨.map [], ownsMap_empty' q3, HasH.void os⟩, List.Pairwise.nil⟩
  rw [hW0]
  clear hW0
  refine wpIn_rangeFunc_ownH rfl (by omega) (gf := 74) (lb := #[.pointer (some ⟨w.heap.size + 4, 0, none⟩)]) rfl trivial (enters_of Tryd.func74 (by kernel_rfl) rfl)
    (objs_stops 3 (by omega) hok (fun k => k = gb2) W0 (fun k hk => by have : k = gb2 := hk; subst this; omega) (hS0.core.of hBn)) KpO.trans (fun W l o o' _ h1 h2 _ => kpo_put W l o o' h1 h2) (Below.refl _ _) (fun _ => rfl)
    (fun pre W => SetH w base g gc cap gb gb2 size last os pre W ∧ W.heap[w.heap.size + 4]? = some (.cells #[.pointer (some ⟨g, 0, none⟩)] 27 (0, 0)))
    (fun c pre _ => c = .ret ∧ ¬ Dist os pre)
    (fun pre W W' row hs hg hr => ⟨SetH.own pre W W' row hs.1 hg (fun r e => ⟨by rw [← hsz]; exact (hr r e).1, (hr r e).2⟩), (grownBy_keeps_cells hg (fun r e => (hr r e).2) hs.2 rfl).trans hs.2⟩)
    (fun _ _ _ _ _ hs _ _ => hs)
    ⟨hS0, hBn⟩
    (fun x a' W => ∃ Bx, w.heap.size + 5 ≤ Bx ∧ W.heap[Bx]? = some (.cells #[.int .u64 ((os[x.1]'x.2).cl : Int), .int .i64 ((os[x.1]'x.2).kind : Int), .int .i64 ((os[x.1]'x.2).sz : Int), .int .u32 ((os[x.1]'x.2).hash : Int), .bool (os[x.1]'x.2).mark] 52 (0, 0)) ∧
      a' = { tmps := #[.pointer (some ⟨g, 0, none⟩), .pointer (some ⟨w.heap.size, 0, none⟩), .pointer (some ⟨w.heap.size + 1, 0, none⟩), .pointer (some ⟨w.heap.size + 1 + 1 + 1, 0, none⟩), .int .i64 (pos os x.1 : Int), .pointer (some ⟨Bx, 0, none⟩), undef, undef, .map (some (w.heap.size + 1 + 1)), .pointer (some ⟨g, 0, none⟩), .func (.func 74) #[] #[.pointer (some ⟨w.heap.size + 1 + 1 + 1 + 1, 0, none⟩)], .int .i64 (pos os x.1 : Int), headV (os[x.1]'x.2), undef, undef, undef, undef, undef, undef, undef, undef, undef, undef, undef, undef, undef, undef, undef, undef, undef, undef, undef, undef, undef, undef, undef, undef, undef, undef, undef, undef, undef, undef, undef, undef, undef, undef, undef, undef, undef, undef, undef, undef], defers := [] })
    (fun x a' _ X Y row hs hg hr => by obtain ⟨Bx, h1, h2, h3⟩ := hs; exact ⟨Bx, h1, (grownBy_keeps_cells hg (fun r e => (hr r e).2) h2 rfl).trans h2, h3⟩)
    ?assign ?body ?done ?stop
  case assign =>
    rintro l pre x W K ⟨hS, hB⟩ hK
    unfold encO headV
    have hsw := hS.core.top
    gi_wp2
    exact hK _ _ ((KeepsOthers.alloc _ _).from _) ⟨by simp, fun k cs T fr hc _ => Below.heap_alloc W _ k (lt_of_block hc), fun hh => hh.below ((Below.refl _ _).alloc (Nat.le_refl _) _)⟩ ⟨hS.grown ((Below.refl _ _).alloc (Nat.le_refl _) _), (Below.heap_alloc W _ _ (lt_of_block hB)).trans hB⟩ ⟨W.heap.size, hsw, heap_alloc_new W _, rfl⟩
  case body =>
    rintro l pre x a' W hl - ⟨hS, hB⟩ ⟨Bx, hBx, hX, rfl⟩ hlt
    obtain ⟨us, hA, hU⟩ := hS.core.heap
    have fX := cells5 hX
    have fH := one_cellW hS.core.bh
    have fM := one_cellW hS.core.bmb
    have fc2 := hA.c2
    have fc3 := hA.c3
    obtain ⟨H, hhx⟩ : ∃ H, (os[x.1]'x.2).hash = H := ⟨_, rfl⟩
    have hHl := HH.out _ (List.getElem_mem x.2)
    rw [hhx] at fX hHl
    have hX' := hX
    rw [hhx] at hX'
    have hgt : ¬ ((H : Int) > (last : Int)) := by omega
    have hclx := hcl _ (List.getElem_mem x.2)
    have hcln := fun (y : Grow W) => clean_any x.2 (hA.below y.below) hok hclx
    have hq : ∀ w', (Op.equalIn 10000 52 (.agg #[.int .u64 ((os[x.1]'x.2).cl : Int), .int .i64 ((os[x.1]'x.2).kind : Int), .int .i64 ((os[x.1]'x.2).sz : Int), .int .u32 (H : Int), .bool (os[x.1]'x.2).mark]) (.agg #[.int .u64 0, .int .i64 0, .int .i64 0, .int .u32 0, .bool false])).run Tryd.prog w' = .ok false w' := fun w' => by
      rw [eq_head, show (((os[x.1]'x.2).cl : Int) == 0) = false from beq_eq_false_iff_ne.2 (hErr_ok (hok _ (List.getElem_mem x.2)).ok).1.1]; rfl
    have hmx : Tryd.prog.follows .mixedOrders = true := by kernel_rfl
    have hd : 1 ≤ 4 - 1 - 1 := by omega
    unfold headV at hcln ⊢
    rw [hhx] at hcln ⊢
    have HCl := Lib.hid hcln
    clear hcln
    gi_wp2
    have hx := fun (y : Grow W) => y.cell
    have lBx := lt_of_block hX
    have lH := lt_of_block hS.core.bh
    have lG := hA.gl.1
    refine wpIn_round_grow (by simp [Undeferred]) (by kernel_rfl) (by kernel_rfl) ?_
    repeat (gi_big_quiet_step ((gi_at_call 68; exact Grow.callIn _ (CallsIn.inRound l (callsIn_wide.2 (HCl.out _))))))
    refine wpQuietIn_nil ?_
    intro _ hw'
    obtain ⟨y, rfl⟩ := hw'
    obtain ⟨W1, hW1⟩ : ∃ W1, y.w = W1 := ⟨_, rfl⟩
    have hb1 := y.below
    have hzs := y.size
    rw [hW1] at hb1 hzs ⊢
    clear hW1 hx fX fH fM fc2 fc3 HCl
    have hS1 := hS.grown hb1
    have hB1 := (hb1.block _ (lt_of_block hB)).trans hB
    have hA1 := hA.below hb1
    have f1 := cells5 ((hb1.block _ (lt_of_block hX')).trans hX')
    have f2 := one_cellW hS1.core.bh
    have f3 := one_cellW hS1.core.bmb
    have f4 := hA1.c2
    obtain ⟨D, hown, hD1⟩ := hS1.bm
    have hkey := Maps.keyOf_int_mk (P := Tryd.prog) (a := (H : Int)) Tryd.underlying29 (WalkArith.wf_u32 (by omega))
    obtain ⟨gl1, gl2, gl3, gl4⟩ := hgl
    by_cases hseen : H ≠ 0 ∧ ∃ k ∈ pre, (os[k.1]'k.2).hash = H
    · have hhas := (hD1 H).2 hseen
      have f5 := one_cellW hS1.core.bok
      gi_wp2_with (gi_at_lookup; refine wpListIn_lookup_own_ok_int _ rfl _ _ 134 rfl 29 3 .i64 (Maps.int_keyed Tryd.underlying29) Tryd.underlying134 Tryd.underlying3 (Tryd.zeroValue3 _) (w.heap.size + 1 + 1) _ _ rfl hown _ _ rfl hkey ?_; intro c hat hwc; rw [hhas])
      exact ⟨⟨by simpa using hzs, fun k o hk1 hko hc => (Below.heap_setCell _ _ _ _ (by show k ≠ w.heap.size + 1; omega)).trans ((hb1.block k (lt_of_block hko)).trans hko)⟩, rfl, Dist.not (by rw [hhx]; exact hseen.1) (by rw [hhx]; exact hseen.2)⟩
    · have hhas : Maps.has D (.int .u32 (H : Int)) = false := by
        cases hc : Maps.has D (.int .u32 (H : Int)) with
        | false => rfl
        | true => exact absurd ((hD1 H).1 hc) hseen
      have HSeen := Lib.hid hseen
      clear hseen
      have hps : pos os x.1 < size := by have := pos_top os x.2; have := hA.room; omega
      have hpi : (pos os x.1 : Int) ≤ 16777216 := by have := hA.small; omega
      by_cases h0 : H = 0
      · have hset := set_more gb gb2 size (pos os x.1) us W1 hA1.bits hps
        have hz0 : ((H : Int) != 0) = false := by rw [h0]; rfl
        have H0 := Lib.hid h0
        clear h0 hps hpi
        gi_wp2_with (first
          | (gi_at_lookup; refine wpListIn_lookup_own_ok_int _ rfl _ _ 134 rfl 29 3 .i64 (Maps.int_keyed Tryd.underlying29) Tryd.underlying134 Tryd.underlying3 (Tryd.zeroValue3 _) (w.heap.size + 1 + 1) _ _ rfl hown _ _ rfl hkey ?_; intro c hat hwc; rw [hhas])
          | (gi_at_call 38; refine (CallsIn.inRound l (callsIn_wide.2 hset)).mono ?_; rintro e w2 ⟨b, us', rfl, hB2, hor, hbl2, hs2, hk2⟩))
        have b0 := hbl2 0 (Nat.zero_le _)
        have hst := SetK.step hS1.core hA1 hU hB2 hor (fun h => by omega) ⟨b0.os, b0.tape, b0.output⟩ hs2 hk2
        have hbx := (hk2 _ (by omega : w.heap.size + 4 ≠ gb2)).trans hB1
        exact ⟨⟨by rw [hs2]; exact hzs, fun k o hk1 hko hc => (hk2 k (by omega)).trans ((hb1.block k (lt_of_block hko)).trans hko)⟩,
          ⟨by rw [hs2]; exact hzs, fun k cs T fr hko hne => (hk2 k hne).trans (hb1.block k (lt_of_block hko)), fun _ => hst.of hbx⟩,
          ⟨hst, ⟨D, map_at hown (hk2 _ (by omega)) (by simp), HasH.zero hD1 (by rw [hhx]; exact H0.out)⟩, hS1.dist.snoc (.inl (by rw [hhx]; exact H0.out))⟩, hbx⟩
      · have hz0 : ((H : Int) != 0) = true := by simp; omega
        have H0 := Lib.hid h0
        clear h0 hps hpi
        gi_wp2_with (first
          | (gi_at_lookup; refine wpListIn_lookup_own_ok_int _ rfl _ _ 134 rfl 29 3 .i64 (Maps.int_keyed Tryd.underlying29) Tryd.underlying134 Tryd.underlying3 (Tryd.zeroValue3 _) (w.heap.size + 1 + 1) _ _ rfl hown _ _ rfl hkey ?_; intro c hat hwc; rw [hhas])
          | (gi_at_mapUpdate; refine wpListIn_mapUpdate_own _ rfl _ _ _ 134 rfl 29 3 (Maps.int_keyed Tryd.underlying29) Tryd.underlying134 _ (w.heap.size + 1 + 1) _ _ rfl hown (by unfold maxLen; omega) _ _ _ rfl rfl hkey _ [] (plainElem_int Tryd.underlying3 (WalkArith.wf_i64 (by have := pos_top os x.2; have := hA.room; have := hA.small; omega))) ?_; intro w3 hown3 hgrow3; have HC3 := Lib.hid (gcells32 hown hgrow3); have HS3 := Lib.hid (hS1.core.map hown hgrow3); have HA3 := Lib.hid (hA1.kept HC3.out); have g2 := one_cellW HS3.out.bh; have g4 := HA3.out.c2; have HSet3 := Lib.hid (set_more gb gb2 size (pos os x.1) us w3 HA3.out.bits (by have := pos_top os x.2; have := hA.room; omega)); have HO3 := Lib.hid hown3; have HG3 := Lib.hid hgrow3; clear hown3 hgrow3)
          | (gi_at_call 38; refine (CallsIn.inRound l (callsIn_wide.2 HSet3.out)).mono ?_; rintro e w2 ⟨b, us', rfl, hB2, hor, hbl2, hs2, hk2⟩))
        have b0 := hbl2 0 (Nat.zero_le _)
        have hst := SetK.step HS3.out HA3.out hU hB2 hor (fun h => by omega) ⟨b0.os, b0.tape, b0.output⟩ hs2 hk2
        have hbx := (hk2 _ (by omega : w.heap.size + 4 ≠ gb2)).trans ((HC3.out _ _ _ _ hB1).trans hB1)
        have hzs3 := Nat.le_trans hzs HG3.out.size
        have hput := hD1.put hown.isMap (by rw [hhx]; exact H0.out) (.lit (.int .i64 (pos os x.1 : Int)))
        rw [hhx] at hput
        exact ⟨⟨by rw [hs2]; exact hzs3, fun k o hk1 hko hc => (hk2 k (by omega)).trans ((HG3.out.block k (Nat.lt_of_lt_of_le (lt_of_block hko) hzs) (fun e => by injection e with e; omega)).trans ((hb1.block k (lt_of_block hko)).trans hko))⟩,
          ⟨by rw [hs2]; exact hzs3, fun k cs T fr hko hne => (hk2 k hne).trans ((HC3.out _ _ _ _ ((hb1.block k (lt_of_block hko)).trans hko)).trans (hb1.block k (lt_of_block hko))), fun _ => hst.of hbx⟩,
          ⟨hst, ⟨_, map_at HO3.out (hk2 _ (by omega)) (by simp), hput⟩, hS1.dist.snoc (.inr (by rw [hhx]; exact fun h => HSeen.out ⟨H0.out, h⟩))⟩, hbx⟩
  case done =>
    rintro D xs W hD rfl ⟨hS, hB⟩ hK
    have fok := one_cellW hS.core.bok
    gi_wp2
    have hDne : D ≠ w.heap.size + 1 := by omega
    have hK' := (KeepsOthers.setCell W ⟨w.heap.size + 1, 0, none⟩ (.bool true)).same D _ hK rfl
    obtain ⟨W2, hW2⟩ : ∃ W2, W.setCell ⟨w.heap.size + 1, 0, none⟩ (.bool true) = W2 := ⟨_, rfl⟩
    have hbk : ∀ k, k ≠ w.heap.size + 1 → W2.heap[k]? = W.heap[k]? := fun k hk => by rw [← hW2]; exact Below.heap_setCell _ _ _ _ hk
    have hok2 : W2.heap[w.heap.size + 1]? = some (.cells #[.bool true] 4 (0, 0)) := by rw [← hW2]; exact heap_setCell_same W _ 0 _ _ _ hS.core.bok
    have hsz2 : W2.heap.size = W.heap.size := by rw [← hW2]; simp
    have hos2 : W2.os = W.os ∧ W2.tape = W.tape ∧ W2.output = W.output := by rw [← hW2]; exact ⟨rfl, rfl, rfl⟩
    rw [hW2] at hK' ⊢
    clear hW2
    refine ⟨by simp, .inl ⟨_, _, rfl, run_takeDeferred hK', ?_⟩⟩
    have hp : ∀ k, k ≠ D → (W2.putObj D (.deferred none)).heap[k]? = W2.heap[k]? := fun k hk => World.putObj_heap_other hk
    have hcell : (W2.putObj D (.deferred none)).cell? ⟨w.heap.size + 1, 0, none⟩ = some (.bool true) := cell_of_row _ _ 0 _ _ _ ((hp _ (fun e => hDne e.symm)).trans hok2)
    obtain ⟨W3, hW3⟩ : ∃ W3, W2.putObj D (.deferred none) = W3 := ⟨_, rfl⟩
    have hs3 : W3.heap.size = W2.heap.size := by rw [← hW3]; simp
    have ho3 : W3.os = W2.os ∧ W3.tape = W2.tape ∧ W3.output = W2.output := by rw [← hW3]; exact ⟨rfl, rfl, rfl⟩
    rw [hW3] at hp hcell ⊢
    clear hW3
    have hkc : ∀ (k : Nat) cs T fr, W.heap[k]? = some (Obj.cells cs T fr) → k ≠ w.heap.size + 1 → W3.heap[k]? = W.heap[k]? := fun k cs T fr hc hk => (hp k (fun e => by subst e; rw [hK] at hc; cases hc)).trans (hbk k hk)
    obtain ⟨us, hA, hU⟩ := hS.core.heap
    obtain ⟨gl1, gl2, gl3, gl4⟩ := hgl
    have hA3 : HeapAt W3 base g gc cap gb gb2 size last (Lof os) us := by
      obtain ⟨cur, hg, _⟩ := hA.row
      obtain ⟨c, hb⟩ := hA.bits.hd
      obtain ⟨cu, hb2, _⟩ := hA.bits.wd
      exact hA.at_ (hkc _ _ _ _ hA.hd (by omega)) (hkc _ _ _ _ hg (by omega)) (hkc _ _ _ _ hb (by omega)) (hkc _ _ _ _ hb2 (by omega))
    refine ⟨.bool true, ?_, rfl, ⟨us, hA3, hU.all, hok⟩, ⟨ho3.1.trans (hos2.1.trans hS.core.aside.os), ho3.2.1.trans (hos2.2.1.trans hS.core.aside.tape), ho3.2.2.trans (hos2.2.2.trans hS.core.aside.output), by rw [hs3, hsz2]; exact hS.core.aside.size, fun k h1 h2 h3 h4 => (hp k (by omega)).trans ((hbk k (by omega)).trans (hS.core.aside.block k h1 h2 h3 h4))⟩⟩
    simp [results, Tryd.results55, go_sem, hcell]
  case stop =>
    rintro D c pre W hD ⟨k, hk, rfl⟩ ⟨_, hx⟩ hK
    refine absurd (HDi.out.sublist ?_) hx
    exact ixs_sub hk
end
end Go.Proofs.YtahmljjjdoaahaaDoor.Fl
