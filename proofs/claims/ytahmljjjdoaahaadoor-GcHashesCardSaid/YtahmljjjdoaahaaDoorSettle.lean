/-
  Loading memory: where the objects stand among loaded cells.
-/
import Derived.Test.YtahmljjjdoaahaaDoorObjIt
import Derived.Maps.OwnIn
import Derived.Sort.BigQuietIn
import Derived.Test.YtahmljjjdoaahaaDoorRoundQ
namespace Go.Proofs.YtahmljjjdoaahaaDoor.Fl
open Go.RowKit Go.Shelf
theorem wide_fn (k : Nat) : Fence.wide.fn k = True := rfl
attribute [local go_sem] Oper.semAt_some wide_fn

section
variable {base g gc cap gb gb2 size last : Nat} {os : List Ob} {ws : List Nat}
theorem objs_stops {Bn : Nat} (n : Nat) (hn : 1 ≤ n) (hok : ∀ o ∈ os, o.Ok) (X : Nat → Prop) (w : World) (hX : ∀ k, X k → k < w.heap.size) (h : HeapOf base g gc cap gb gb2 size last Bn os w) :
    SeqStopsK Fence.wide n Tryd.prog 74 #[.pointer (some ⟨Bn, 0, none⟩)] (encO os) (KpO X base g gc cap gb gb2 size last Bn os) (fun ys => ys = ixs os os.length) (fun pre => ∃ k, k ≤ os.length ∧ pre = ixs os k) os.length w :=
  fun l J Jx W hW hJ _ hY h0 => objects1_in n hn hok l J Jx W.heap.size X hY W (fun k hk => Nat.lt_of_lt_of_le (hX k hk) hW.size) hJ (h.below hW) h0
theorem objects_any (w : World) :
    Calls Tryd.prog 67 #[.pointer (some ⟨g, 0, none⟩)] w fun e w' => e = .returned (.func (.func 74) #[] #[.pointer (some ⟨w.heap.size, 0, none⟩)]) ∧ w' = w.alloc (.cells #[.pointer (some ⟨g, 0, none⟩)] 27) := by
  go_enter Tryd.func67, Tryd.ntmps67
  go_wp2_with fail
  go_ret
  exact ⟨rfl, rfl⟩
theorem ownsMap_empty' {H : Type} {w : World} {P : Program} {k : TypeId} {R : Value → Option (DataW H × List MemPlace)} {b : Nat} (h : w.heap[b]? = some (.map #[] 0)) : w.ownsMap P k R b 0 (.map []) :=
  ⟨#[], 0, h, ⟨by simp, Go.MapKept.stamped_empty 0, by simp⟩, Nat.le_refl _, rfl⟩
theorem KpO.refl {X : Nat → Prop} {Bn : Nat} (W : World) : KpO X base g gc cap gb gb2 size last Bn os W W := ⟨Nat.le_refl _, fun _ _ _ _ _ _ => rfl, fun h => h⟩
theorem HeapAt.kept {W W' : World} {L : List Nat} (h : HeapAt W base g gc cap gb gb2 size last L ws) (hk : ∀ (k : Nat) cs T fr, W.heap[k]? = some (Obj.cells cs T fr) → W'.heap[k]? = W.heap[k]?) : HeapAt W' base g gc cap gb gb2 size last L ws := by
  obtain ⟨cur, hg, _⟩ := h.row
  obtain ⟨c, hb⟩ := h.bits.hd
  obtain ⟨cu, hb2, _⟩ := h.bits.wd
  exact h.at_ (hk _ _ _ _ h.hd) (hk _ _ _ _ hg) (hk _ _ _ _ hb) (hk _ _ _ _ hb2)
theorem kpo_put {X : Nat → Prop} {Bn : Nat} (W : World) (l : Nat) (o o' : Obj) (h : W.heap[l]? = some o) (ho : o.isCells = false) : KpO X base g gc cap gb gb2 size last Bn os W (W.putObj l o') := by
  have hk : ∀ (k : Nat) cs T fr, W.heap[k]? = some (Obj.cells cs T fr) → (W.putObj l o').heap[k]? = W.heap[k]? := fun k cs T fr hc => World.putObj_heap_other (fun e => by subst e; rw [h] at hc; cases hc; cases ho)
  refine ⟨by simp, fun k cs T fr hc _ => hk k cs T fr hc, fun ⟨⟨ws, hA⟩, hB⟩ => ⟨⟨ws, hA.kept hk⟩, (hk _ _ _ _ hB).trans hB⟩⟩
theorem five_allocs (w : World) (o1 o2 o3 o4 o5 : Obj) : (((((w.alloc o1).alloc o2).alloc o3).alloc o4).alloc o5).heap[w.heap.size]? = some o1 ∧ (((((w.alloc o1).alloc o2).alloc o3).alloc o4).alloc o5).heap[w.heap.size + 1]? = some o2 ∧ (((((w.alloc o1).alloc o2).alloc o3).alloc o4).alloc o5).heap[w.heap.size + 1 + 1]? = some o3 ∧ (((((w.alloc o1).alloc o2).alloc o3).alloc o4).alloc o5).heap[w.heap.size + 1 + 1 + 1]? = some o4 ∧ (((((w.alloc o1).alloc o2).alloc o3).alloc o4).alloc o5).heap[w.heap.size + 4]? = some o5 := by
  have s1 : (w.alloc o1).heap.size = w.heap.size + 1 := World.size_alloc w o1
  have s2 : ((w.alloc o1).alloc o2).heap.size = w.heap.size + 1 + 1 := by rw [World.size_alloc, s1]
  have s3 : (((w.alloc o1).alloc o2).alloc o3).heap.size = w.heap.size + 1 + 1 + 1 := by rw [World.size_alloc, s2]
  have s4 : ((((w.alloc o1).alloc o2).alloc o3).alloc o4).heap.size = w.heap.size + 1 + 1 + 1 + 1 := by rw [World.size_alloc, s3]
  have n1 := heap_alloc_new w o1
  have n2 := heap_alloc_new (w.alloc o1) o2
  have n3 := heap_alloc_new ((w.alloc o1).alloc o2) o3
  have n4 := heap_alloc_new (((w.alloc o1).alloc o2).alloc o3) o4
  have n5 := heap_alloc_new ((((w.alloc o1).alloc o2).alloc o3).alloc o4) o5
  rw [s1] at n2
  rw [s2] at n3
  rw [s3] at n4
  rw [s4] at n5
  refine ⟨?_, ?_, ?_, ?_, n5⟩
  · exact (Below.heap_alloc _ o5 _ (by omega)).trans ((Below.heap_alloc _ o4 _ (by omega)).trans ((Below.heap_alloc _ o3 _ (by omega)).trans ((Below.heap_alloc _ o2 _ (by omega)).trans n1)))
  · exact (Below.heap_alloc _ o5 _ (by omega)).trans ((Below.heap_alloc _ o4 _ (by omega)).trans ((Below.heap_alloc _ o3 _ (by omega)).trans n2))
  · exact (Below.heap_alloc _ o5 _ (by omega)).trans ((Below.heap_alloc _ o4 _ (by omega)).trans n3)
  · exact (Below.heap_alloc _ o5 _ (by omega)).trans n4
def SetMore (g g2 n i : Nat) (ws : List Nat) (w : World) (e : Ending) (w' : World) : Prop := ∃ b ws', e = .returned (.bool b) ∧ BitsAt w' g g2 n ws' ∧ (∀ j, bitAt ws' j = true ↔ bitAt ws j = true ∨ j = i) ∧ (∀ B, B ≤ g2 → Below B w w') ∧ w'.heap.size = w.heap.size ∧ ∀ k, k ≠ g2 → w'.heap[k]? = w.heap[k]?
theorem set_more (g g2 n i : Nat) (ws : List Nat) (w : World) (h : BitsAt w g g2 n ws) (hi : i < n) :
    Calls Tryd.prog 38 #[.pointer (some ⟨g, 0, none⟩), .int .i64 (i : Int), .bool true] w (SetMore g g2 n i ws w) := by
  cases hb : bitAt ws i with
  | true =>
    refine (set_same g g2 n i true ws w h hi hb).mono ?_
    rintro e w' ⟨rfl, h1, h2, h3, h4⟩
    refine ⟨_, ws, rfl, h1, fun j => ⟨fun h => .inl h, fun h => ?_⟩, h2, h3, h4⟩
    rcases h with h | rfl
    · exact h
    · exact hb
  | false =>
    refine (set_flip g g2 n i true ws w h hi hb).mono ?_
    rintro e w' ⟨rfl, h1, h2, h3, h4⟩
    refine ⟨_, flip ws i, rfl, h1, fun j => ?_, h2, h3, h4⟩
    rw [bitAt_flip (h.idx hi)]
    by_cases e : j = i
    · subst e; rw [if_pos rfl, hb]; simp
    · rw [if_neg e]; simp [e]
/-- where the objects gone through stand is set -/
def SetIn (ws : List Nat) (os : List Ob) (pre : List (Ix os)) : Prop := ∀ i, bitAt ws i = true ↔ ∃ k ∈ pre, i = pos os k.1
theorem SetIn.all (h : SetIn ws os (ixs os os.length)) : Setd ws os := fun i => by
  rw [h i]
  constructor
  · rintro ⟨k, _, e⟩; exact ⟨k.1, k.2, e⟩
  · rintro ⟨k, hk, e⟩; exact ⟨⟨k, hk⟩, mem_ixs, e⟩
/-- what stands between two rounds -/
structure SetI (w0 : World) (base g gc cap gb gb2 size last : Nat) (os : List Ob) (pre : List (Ix os)) (W : World) : Prop where
  heap : ∃ ws, HeapAt W base g gc cap gb gb2 size last (Lof os) ws ∧ SetIn ws os pre
  bh : W.heap[w0.heap.size]? = some (.cells #[.pointer (some ⟨g, 0, none⟩)] 27 (0, 0))
  bok : W.heap[w0.heap.size + 1]? = some (.cells #[.bool false] 4 (0, 0))
  bm : W.heap[w0.heap.size + 1 + 1]? = some (.map #[] 0)
  bmb : W.heap[w0.heap.size + 1 + 1 + 1]? = some (.cells #[.map (some (w0.heap.size + 1 + 1))] 134 (0, 0))
  aside : Aside g gc gb2 w0 W
  top : w0.heap.size + 5 ≤ W.heap.size
theorem SetI.own {w0 : World} : OwnFrom (w0.heap.size + 5) (SetI w0 base g gc cap gb gb2 size last os) := fun pre W W' row h hg hr => by
  have hk : ∀ (k : Nat) cs T fr, W.heap[k]? = some (Obj.cells cs T fr) → W'.heap[k]? = W.heap[k]? := fun k cs T fr hc => grownBy_keeps_cells hg (fun r e => (hr r e).2) hc rfl
  obtain ⟨ws, hA, hS⟩ := h.heap
  have hlow : ∀ k, k < w0.heap.size + 5 → W'.heap[k]? = W.heap[k]? := fun k hk => hg.block k (Nat.lt_of_lt_of_le hk h.top) (fun e => by have := (hr k e.symm).1; omega)
  exact ⟨⟨ws, hA.kept hk, hS⟩, (hk _ _ _ _ h.bh).trans h.bh, (hk _ _ _ _ h.bok).trans h.bok, (hlow _ (by omega)).trans h.bm, (hk _ _ _ _ h.bmb).trans h.bmb,
    ⟨hg.os.trans h.aside.os, hg.tape.trans h.aside.tape, hg.output.trans h.aside.output, Nat.le_trans h.aside.size hg.size, fun k h1 h2 h3 h4 => (hlow k (by omega)).trans (h.aside.block k h1 h2 h3 h4)⟩, Nat.le_trans h.top hg.size⟩
theorem SetI.grown {w0 W W' : World} {pre : List (Ix os)} (h : SetI w0 base g gc cap gb gb2 size last os pre W) (hb : Below W.heap.size W W') : SetI w0 base g gc cap gb gb2 size last os pre W' :=
  SetI.own pre W W' none h (grown_below hb) (fun r e => by cases e)
theorem SetI.of {w0 W : World} {pre : List (Ix os)} (h : SetI w0 base g gc cap gb gb2 size last os pre W) (hB : W.heap[w0.heap.size + 4]? = some (.cells #[.pointer (some ⟨g, 0, none⟩)] 27 (0, 0))) : HeapOf base g gc cap gb gb2 size last (w0.heap.size + 4) os W := by
  obtain ⟨ws, hA, _⟩ := h.heap
  exact ⟨⟨ws, hA⟩, hB⟩
/-- a round: another place is set -/
theorem SetI.step {w0 W W' : World} {pre : List (Ix os)} {x : Ix os} {ws ws' : List Nat} (h : SetI w0 base g gc cap gb gb2 size last os pre W) (hA : HeapAt W base g gc cap gb gb2 size last (Lof os) ws) (hS : SetIn ws os pre)
    (hB : BitsAt W' gb gb2 size ws') (hb : ∀ i, bitAt ws' i = true ↔ bitAt ws i = true ∨ i = pos os x.1) (hw : w0.heap.size ≤ gb2 → False) (hbl : W'.os = W.os ∧ W'.tape = W.tape ∧ W'.output = W.output) (hs : W'.heap.size = W.heap.size) (hk : ∀ k, k ≠ gb2 → W'.heap[k]? = W.heap[k]?) :
    SetI w0 base g gc cap gb gb2 size last os (pre ++ [x]) W' := by
  have ne : ∀ k, w0.heap.size ≤ k → k ≠ gb2 := fun k hk e => hw (by omega)
  refine ⟨⟨ws', hA.bit hB hk, fun i => ?_⟩, (hk _ (ne _ (Nat.le_refl _))).trans h.bh, (hk _ (ne _ (by omega))).trans h.bok, (hk _ (ne _ (by omega))).trans h.bm, (hk _ (ne _ (by omega))).trans h.bmb,
    ⟨hbl.1.trans h.aside.os, hbl.2.1.trans h.aside.tape, hbl.2.2.trans h.aside.output, by rw [hs]; exact h.aside.size, fun k h1 h2 h3 h4 => (hk k h4).trans (h.aside.block k h1 h2 h3 h4)⟩, by rw [hs]; exact h.top⟩
  rw [hb i, hS i]
  constructor
  · rintro (⟨k, hk, e⟩ | e)
    · exact ⟨k, by simp [hk], e⟩
    · exact ⟨x, by simp, e⟩
  · rintro ⟨k, hk, e⟩
    rcases List.mem_append.1 hk with hk | hk
    · exact .inl ⟨k, hk, e⟩
    · rw [List.mem_singleton] at hk; subst hk; exact .inr e
set_option maxRecDepth 100000 in
set_option maxHeartbeats 4000000 in
theorem settle_any (w : World) (h : HeapAt w base g gc cap gb gb2 size last (Lof os) ws) (hz : ∀ i, bitAt ws i = false) (hok : ∀ o ∈ os, o.Ok) (hcl : ∀ o ∈ os, CleanO o) (hh : ∀ o ∈ os, o.hash = 0) :
    Calls Tryd.prog 55 #[.pointer (some ⟨g, 0, none⟩)] w fun e w' => e = .returned (.bool true) ∧ (∃ ws', ObsAt w' base g gc cap gb gb2 size last os ws') ∧ Aside g gc gb2 w w' := by
  have HH := Lib.hid hh
  clear hh
  refine (callsIn_wide (n := 4)).1 ?_
  refine callsIn_of_wp_marks Tryd.func55 rfl trivial ?_ rfl
  simp only [Tryd.ntmps55, List.size_toArray, List.length_cons, List.length_nil, Nat.reduceAdd, Nat.reduceSub, Array.replicate_succ, Array.replicate_zero, List.push_toArray, List.append_toArray, List.nil_append, List.cons_append]
  have hmm := @run_makeMap Tryd.prog
  gi_wp2_with (gi_at_call 67; refine (callsIn_wide.2 (objects_any _)).mono ?_; rintro e w' ⟨rfl, rfl⟩)
  obtain ⟨W0, hW0⟩ : ∃ W0, (((((w.alloc (.cells #[.pointer (some ⟨g, 0, none⟩)] 27)).alloc (.cells #[.bool false] 4)).alloc (.map #[] 0)).alloc (.cells #[.map (some (w.heap.size + 1 + 1))] 134)).alloc (.cells #[.pointer (some ⟨g, 0, none⟩)] 27)) = W0 := ⟨_, rfl⟩
  have hb0 : Below w.heap.size w W0 := by rw [← hW0]; exact (((((Below.refl _ _).alloc (Nat.le_refl _) _).alloc (by simp) _).alloc (by simp; omega) _).alloc (by simp; omega) _).alloc (by simp; omega) _
  have hsz : W0.heap.size = w.heap.size + 5 := by rw [← hW0]; simp
  have hgl := h.gl
  obtain ⟨q1, q2, q3, q4, hBn⟩ := five_allocs w (.cells #[.pointer (some ⟨g, 0, none⟩)] 27) (.cells #[.bool false] 4) (.map #[] 0) (.cells #[.map (some (w.heap.size + 1 + 1))] 134) (.cells #[.pointer (some ⟨g, 0, none⟩)] 27)
  rw [hW0] at q1 q2 q3 q4 hBn
  have hS0 : SetI w base g gc cap gb gb2 size last os [] W0 := by
    exact ⟨⟨ws, h.below hb0, fun i => by rw [hz i]; simp⟩, q1, q2, q3, q4, Aside.of_below hb0, by omega⟩
  rw [hW0]
  clear hW0
  refine wpIn_rangeFunc_ownH rfl (by omega) (gf := 74) (lb := #[.pointer (some ⟨w.heap.size + 4, 0, none⟩)]) rfl trivial (enters_of Tryd.func74 (by kernel_rfl) rfl)
    (objs_stops 3 (by omega) hok (fun k => k = gb2) W0 (fun k hk => by have : k = gb2 := hk; subst this; omega) (hS0.of hBn)) KpO.trans (fun W l o o' _ h1 h2 _ => kpo_put W l o o' h1 h2) (Below.refl _ _) (fun _ => rfl)
    (fun pre W => SetI w base g gc cap gb gb2 size last os pre W ∧ W.heap[w.heap.size + 4]? = some (.cells #[.pointer (some ⟨g, 0, none⟩)] 27 (0, 0)))
    (fun _ _ _ => False)
    (fun pre W W' row hs hg hr => ⟨SetI.own pre W W' row hs.1 hg (fun r e => ⟨by rw [← hsz]; exact (hr r e).1, (hr r e).2⟩), (grownBy_keeps_cells hg (fun r e => (hr r e).2) hs.2 rfl).trans hs.2⟩)
    (fun _ _ _ _ _ hs _ _ => hs)
    ⟨hS0, hBn⟩
    (fun x a' W => ∃ Bx, w.heap.size + 5 ≤ Bx ∧ W.heap[Bx]? = some (.cells #[.int .u64 ((os[x.1]'x.2).cl : Int), .int .i64 ((os[x.1]'x.2).kind : Int), .int .i64 ((os[x.1]'x.2).sz : Int), .int .u32 ((os[x.1]'x.2).hash : Int), .bool (os[x.1]'x.2).mark] 52 (0, 0)) ∧
      a' = { tmps := #[.pointer (some ⟨g, 0, none⟩), .pointer (some ⟨w.heap.size, 0, none⟩), .pointer (some ⟨w.heap.size + 1, 0, none⟩), .pointer (some ⟨w.heap.size + 1 + 1 + 1, 0, none⟩), .int .i64 (pos os x.1 : Int), .pointer (some ⟨Bx, 0, none⟩), undef, undef, .map (some (w.heap.size + 1 + 1)), .pointer (some ⟨g, 0, none⟩), .func (.func 74) #[] #[.pointer (some ⟨w.heap.size + 1 + 1 + 1 + 1, 0, none⟩)], .int .i64 (pos os x.1 : Int), headV (os[x.1]'x.2), undef, undef, undef, undef, undef, undef, undef, undef, undef, undef, undef, undef, undef, undef, undef, undef, undef, undef, undef, undef, undef, undef, undef, undef, undef, undef, undef, undef, undef, undef, undef, undef, undef, undef, undef, undef, undef, undef, undef, undef], defers := [] })
    (fun x a' _ X Y row hs hg hr => by obtain ⟨Bx, h1, h2, h3⟩ := hs; exact ⟨Bx, h1, (grownBy_keeps_cells hg (fun r e => (hr r e).2) h2 rfl).trans h2, h3⟩)
    ?assign ?body ?done ?stop
  case assign =>
    rintro l pre x W K ⟨hS, hB⟩ hK
    unfold encO headV
    have hsw := hS.top
    gi_wp2
    exact hK _ _ ((KeepsOthers.alloc _ _).from _) ⟨by simp, fun k cs T fr hc _ => Below.heap_alloc W _ k (lt_of_block hc), fun hh => hh.below ((Below.refl _ _).alloc (Nat.le_refl _) _)⟩ ⟨hS.grown ((Below.refl _ _).alloc (Nat.le_refl _) _), (Below.heap_alloc W _ _ (lt_of_block hB)).trans hB⟩ ⟨W.heap.size, hsw, heap_alloc_new W _, rfl⟩
  case body =>
    rintro l pre x a' W hl - ⟨hS, hB⟩ ⟨Bx, hBx, hX, rfl⟩ hlt
    obtain ⟨us, hA, hU⟩ := hS.heap
    have fX := cells5 hX
    have fH := one_cellW hS.bh
    have fM := one_cellW hS.bmb
    have fc2 := hA.c2
    have fc3 := hA.c3
    have hhx := HH.out _ (List.getElem_mem x.2)
    rw [hhx, show ((0 : Nat) : Int) = 0 from rfl] at fX
    have hX' := hX
    rw [hhx, show ((0 : Nat) : Int) = 0 from rfl] at hX'
    have hclx := hcl _ (List.getElem_mem x.2)
    have hcln := fun (y : Grow W) => clean_any x.2 (hA.below y.below) hok hclx
    have hq : ∀ w', (Op.equalIn 10000 52 (.agg #[.int .u64 ((os[x.1]'x.2).cl : Int), .int .i64 ((os[x.1]'x.2).kind : Int), .int .i64 ((os[x.1]'x.2).sz : Int), .int .u32 0, .bool (os[x.1]'x.2).mark]) (.agg #[.int .u64 0, .int .i64 0, .int .i64 0, .int .u32 0, .bool false])).run Tryd.prog w' = .ok false w' := fun w' => by
      rw [eq_head, show (((os[x.1]'x.2).cl : Int) == 0) = false from beq_eq_false_iff_ne.2 (hErr_ok (hok _ (List.getElem_mem x.2)).ok).1.1]; rfl
    have hmx : Tryd.prog.follows .mixedOrders = true := by kernel_rfl
    have hd : 1 ≤ 4 - 1 - 1 := by omega
    unfold headV at hcln ⊢
    rw [hhx, show ((0 : Nat) : Int) = 0 from rfl] at hcln ⊢
    have HCl := Lib.hid hcln
    clear hcln
    gi_wp2
    have hx := fun (y : Grow W) => y.cell
    have lBx := lt_of_block hX
    have lH := lt_of_block hS.bh
    have lG := hA.gl.1
    refine wpIn_round_grow (by simp [Undeferred]) (by kernel_rfl) (by kernel_rfl) ?_
    repeat (gi_big_quiet_step ((gi_at_call 68; exact Grow.callIn _ (CallsIn.inRound l (callsIn_wide.2 (HCl.out _))))))
    refine wpQuietIn_nil ?_
    intro _ hw'
    obtain ⟨y, rfl⟩ := hw'
    obtain ⟨W1, hW1⟩ : ∃ W1, y.w = W1 := ⟨_, rfl⟩
    have hb1 := y.below
    have hzs := y.size
    rw [hW1] at hb1 hzs ⊢
    clear hW1 hx fX fH fM fc2 fc3 HCl
    have hS1 := hS.grown hb1
    have hB1 := (hb1.block _ (lt_of_block hB)).trans hB
    have hA1 := hA.below hb1
    have f1 := cells5 ((hb1.block _ (lt_of_block hX')).trans hX')
    have f2 := one_cellW hS1.bh
    have f3 := one_cellW hS1.bmb
    have f4 := hA1.c2
    have hown := ownsMap_empty' (H := Unit) (P := Tryd.prog) (k := 29) (R := plainElem Tryd.prog 3) hS1.bm
    have hkey := Maps.keyOf_int_mk (P := Tryd.prog) (a := 0) Tryd.underlying29 (by decide)
    have hset := set_more gb gb2 size (pos os x.1) us W1 hA1.bits (by have := pos_top os x.2; have := hA.room; omega)
    gi_wp2_with (first
      | (gi_at_lookup; refine wpListIn_lookup_own_ok_int _ rfl _ _ 134 rfl 29 3 .i64 (Maps.int_keyed Tryd.underlying29) Tryd.underlying134 Tryd.underlying3 (Tryd.zeroValue3 _) (w.heap.size + 1 + 1) 0 _ rfl hown _ _ rfl hkey ?_; intro c hat hwc)
      | (gi_at_call 38; refine (CallsIn.inRound l (callsIn_wide.2 hset)).mono ?_; rintro e w2 ⟨b, us', rfl, hB2, hor, hbl2, hs2, hk2⟩))
    obtain ⟨gl1, gl2, gl3, gl4⟩ := hgl
    have b0 := hbl2 0 (Nat.zero_le _)
    have hst := SetI.step hS1 hA1 hU hB2 hor (fun h => by omega) ⟨b0.os, b0.tape, b0.output⟩ hs2 hk2
    have hbx := (hk2 _ (by omega : w.heap.size + 4 ≠ gb2)).trans hB1
    exact ⟨⟨by rw [hs2]; exact hzs, fun k o hk1 hko hc => (hk2 k (by omega)).trans ((hb1.block k (lt_of_block hko)).trans hko)⟩,
      ⟨by rw [hs2]; exact hzs, fun k cs T fr hko hne => (hk2 k hne).trans (hb1.block k (lt_of_block hko)), fun _ => hst.of hbx⟩, hst, hbx⟩
  case done =>
    rintro D xs W hD rfl ⟨hS, hB⟩ hK
    have fok := one_cellW hS.bok
    gi_wp2
    have hDne : D ≠ w.heap.size + 1 := by omega
    have hK' := (KeepsOthers.setCell W ⟨w.heap.size + 1, 0, none⟩ (.bool true)).same D _ hK rfl
    obtain ⟨W2, hW2⟩ : ∃ W2, W.setCell ⟨w.heap.size + 1, 0, none⟩ (.bool true) = W2 := ⟨_, rfl⟩
    have hbk : ∀ k, k ≠ w.heap.size + 1 → W2.heap[k]? = W.heap[k]? := fun k hk => by rw [← hW2]; exact Below.heap_setCell _ _ _ _ hk
    have hok2 : W2.heap[w.heap.size + 1]? = some (.cells #[.bool true] 4 (0, 0)) := by rw [← hW2]; exact heap_setCell_same W _ 0 _ _ _ hS.bok
    have hsz2 : W2.heap.size = W.heap.size := by rw [← hW2]; simp
    have hos2 : W2.os = W.os ∧ W2.tape = W.tape ∧ W2.output = W.output := by rw [← hW2]; exact ⟨rfl, rfl, rfl⟩
    rw [hW2] at hK' ⊢
    clear hW2
    refine ⟨by simp, .inl ⟨_, _, rfl, run_takeDeferred hK', ?_⟩⟩
    have hp : ∀ k, k ≠ D → (W2.putObj D (.deferred none)).heap[k]? = W2.heap[k]? := fun k hk => World.putObj_heap_other hk
    have hcell : (W2.putObj D (.deferred none)).cell? ⟨w.heap.size + 1, 0, none⟩ = some (.bool true) := cell_of_row _ _ 0 _ _ _ ((hp _ (fun e => hDne e.symm)).trans hok2)
    obtain ⟨W3, hW3⟩ : ∃ W3, W2.putObj D (.deferred none) = W3 := ⟨_, rfl⟩
    have hs3 : W3.heap.size = W2.heap.size := by rw [← hW3]; simp
    have ho3 : W3.os = W2.os ∧ W3.tape = W2.tape ∧ W3.output = W2.output := by rw [← hW3]; exact ⟨rfl, rfl, rfl⟩
    rw [hW3] at hp hcell ⊢
    clear hW3
    have hkc : ∀ (k : Nat) cs T fr, W.heap[k]? = some (Obj.cells cs T fr) → k ≠ w.heap.size + 1 → W3.heap[k]? = W.heap[k]? := fun k cs T fr hc hk => (hp k (fun e => by subst e; rw [hK] at hc; cases hc)).trans (hbk k hk)
    obtain ⟨us, hA, hU⟩ := hS.heap
    obtain ⟨gl1, gl2, gl3, gl4⟩ := hgl
    have hA3 : HeapAt W3 base g gc cap gb gb2 size last (Lof os) us := by
      obtain ⟨cur, hg, _⟩ := hA.row
      obtain ⟨c, hb⟩ := hA.bits.hd
      obtain ⟨cu, hb2, _⟩ := hA.bits.wd
      exact hA.at_ (hkc _ _ _ _ hA.hd (by omega)) (hkc _ _ _ _ hg (by omega)) (hkc _ _ _ _ hb (by omega)) (hkc _ _ _ _ hb2 (by omega))
    refine ⟨.bool true, ?_, rfl, ⟨us, hA3, hU.all, hok⟩, ⟨ho3.1.trans (hos2.1.trans hS.aside.os), ho3.2.1.trans (hos2.2.1.trans hS.aside.tape), ho3.2.2.trans (hos2.2.2.trans hS.aside.output), by rw [hs3, hsz2]; exact hS.aside.size, fun k h1 h2 h3 h4 => (hp k (by omega)).trans ((hbk k (by omega)).trans (hS.aside.block k h1 h2 h3 h4))⟩⟩
    simp [results, Tryd.results55, go_sem, hcell]
  case stop =>
    rintro D c pre W hD _ hx hK
    exact hx.elim
end
end Go.Proofs.YtahmljjjdoaahaaDoor.Fl
