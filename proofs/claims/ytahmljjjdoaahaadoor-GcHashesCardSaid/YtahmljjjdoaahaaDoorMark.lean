/-
  What can be reached: a way through memory, what it is in the program's memory; one word.
-/
import Derived.Test.YtahmljjjdoaahaaDoorHeapF
namespace Go.Proofs.YtahmljjjdoaahaaDoor.Fl
open Go.RowKit

/-- blocks below B, and those that are no part of a look, are as they were -/
structure Keep (B : Nat) (w w' : World) : Prop where
  os : w'.os = w.os
  tape : w'.tape = w.tape
  output : w'.output = w.output
  size : w.heap.size ≤ w'.heap.size
  block : ∀ k, k < w.heap.size → (k < B ∨ ∃ cur T fr, w.heap[k]? = some (.cells cur T fr) ∧ T ≠ 81 ∧ T ≠ 37 ∧ T ≠ 38) → w'.heap[k]? = w.heap[k]?
theorem Keep.refl (B : Nat) (w : World) : Keep B w w := ⟨rfl, rfl, rfl, Nat.le_refl _, fun _ _ _ => rfl⟩
theorem Keep.trans {B : Nat} {w w1 w2 : World} (h : Keep B w w1) (k : Keep B w1 w2) : Keep B w w2 :=
  ⟨k.os.trans h.os, k.tape.trans h.tape, k.output.trans h.output, Nat.le_trans h.size k.size, fun i hi hc => by
    have e := h.block i hi hc
    exact (k.block i (Nat.lt_of_lt_of_le hi h.size) (by rcases hc with hc | hc; exact .inl hc; right; rw [e]; exact hc)).trans e⟩
theorem Keep.of_below {B : Nat} {w w' : World} (h : Below w.heap.size w w') : Keep B w w' := ⟨h.os, h.tape, h.output, h.size, fun k hk _ => h.block k hk⟩
theorem Keep.below {B : Nat} {w w' : World} (h : Keep B w w') (hB : B ≤ w.heap.size) : Below B w w' := ⟨h.os, h.tape, h.output, h.size, fun k hk => h.block k (by omega) (.inl hk)⟩
theorem Keep.set {B : Nat} (w : World) (b i : Nat) (v : Value) {cur : Array Value} {T : TypeId} (hB : B ≤ b) (hb : w.heap[b]? = some (.cells cur T (0, 0))) (hT : T = 81 ∨ T = 37 ∨ T = 38) : Keep B w (w.setCell ⟨b, i, none⟩ v) :=
  ⟨rfl, rfl, rfl, by simp [World.setCell], fun k _ hc => Below.heap_setCell _ _ _ k (by
    rintro rfl
    rcases hc with hc | ⟨c, T', fr, h1, h2, h3, h4⟩
    · omega
    · rw [hb] at h1
      injection h1 with h1
      injection h1 with _ h1 _
      subst h1
      rcases hT with h | h | h
      · exact h2 h
      · exact h3 h
      · exact h4 h)⟩
theorem Keep.grown {B : Nat} {w w' : World} {v : Value} {n : Nat} {xs : List Value} (h : w.ownsRow B 38 1 v n xs) (hg : w.grownBy w' v.ownBlock) : Keep B w w' :=
  ⟨hg.os, hg.tape, hg.output, hg.size, fun k hk hc => hg.block k hk (by
    intro e
    rcases h.2 with ⟨rfl, _⟩ | ⟨g, cap, cur, rfl, hb, hh, _⟩
    · simp [Value.ownBlock] at e
    · simp [Value.ownBlock] at e
      subst e
      rcases hc with hc | ⟨c, T', fr, h1, h2, h3, h4⟩
      · omega
      · rw [hh] at h1
        injection h1 with h1
        injection h1 with _ h1 _
        exact h4 h1.symm)⟩

set_option maxHeartbeats 2000000 in
theorem head_yes {base g gc cap gb gb2 size last : Nat} {L ws : List Nat} (i cl kind sz hash : Nat) (mark : Bool) (w : World) (h : HeapAt w base g gc cap gb gb2 size last L ws) (hi : HeadIn L i cl kind sz hash mark) (hb : bitAt ws i = true) (h1 : 1 ≤ i) :
    Calls Tryd.prog 10 #[.pointer (some ⟨g, 0, none⟩), .int .u64 ((i : Int) * 2)] w fun e w' => e = .returned (.tuple #[.agg #[.int .u64 (cl : Int), .int .i64 (kind : Int), .int .i64 (sz : Int), .int .u32 (hash : Int), .bool mark], .int .i64 0]) ∧ Below w.heap.size w w' := by
  have ho := fun w' (hw' : HeapAt w' base g gc cap gb gb2 size last L ws) => object_yes i cl kind sz hash mark w' hw' hi hb h1
  have HA := Lib.hid (h.below ((Below.refl w.heap.size w).alloc (Nat.le_refl _) (.cells #[.int .u64 0, .int .i64 0, .int .i64 0, .int .u32 0, .bool false] 52)))
  clear h hi hb
  go_enter Tryd.func10, Tryd.ntmps10
  go_wp2_with fail
  refine (ho _ HA.out).mono ?_
  rintro e w1 ⟨rfl, hb1⟩
  have s1 := hb1.size
  simp at s1
  have B2 : w1.heap[w.heap.size]? = some (.cells #[.int .u64 0, .int .i64 0, .int .i64 0, .int .u32 0, .bool false] 52 (0, 0)) := by
    rw [hb1.block _ (by simp)]; exact heap_alloc_new w _
  have hbw : Below w.heap.size w w1 := ((Below.refl _ _).alloc (Nat.le_refl _) _).trans (hb1.mono (by simp))
  have l0 : w.heap.size < w1.heap.size := by omega
  have f2 := cells5 B2
  have r2 := fun k => frozen_of_row w1 w.heap.size k _ _ B2
  clear HA ho hb1
  go_wp2_with fail
  have hR := set5 (v := .int .u64 (cl : Int)) (v1 := .int .i64 (kind : Int)) (v2 := .int .i64 (sz : Int)) (v3 := .int .u32 (hash : Int)) (v4 := .bool mark) B2
  have hB : Below w.heap.size w (((((w1.setCell ⟨w.heap.size, 0, none⟩ (.int .u64 (cl : Int))).setCell ⟨w.heap.size, 1, none⟩ (.int .i64 (kind : Int))).setCell ⟨w.heap.size, 2, none⟩ (.int .i64 (sz : Int))).setCell ⟨w.heap.size, 3, none⟩ (.int .u32 (hash : Int))).setCell ⟨w.heap.size, 4, none⟩ (.bool mark)) :=
    ((((hbw.setCell (by simp) _).setCell (by simp) _).setCell (by simp) _).setCell (by simp) _).setCell (by simp) _
  have hl : w.heap.size < (((((w1.setCell ⟨w.heap.size, 0, none⟩ (.int .u64 (cl : Int))).setCell ⟨w.heap.size, 1, none⟩ (.int .i64 (kind : Int))).setCell ⟨w.heap.size, 2, none⟩ (.int .i64 (sz : Int))).setCell ⟨w.heap.size, 3, none⟩ (.int .u32 (hash : Int))).setCell ⟨w.heap.size, 4, none⟩ (.bool mark)).heap.size := by simp [World.setCell]; exact l0
  change (((((w1.setCell ⟨w.heap.size, 0, none⟩ (.int .u64 (cl : Int))).setCell ⟨w.heap.size, 1, none⟩ (.int .i64 (kind : Int))).setCell ⟨w.heap.size, 2, none⟩ (.int .i64 (sz : Int))).setCell ⟨w.heap.size, 3, none⟩ (.int .u32 (hash : Int))).setCell ⟨w.heap.size, 4, none⟩ (.bool mark)).heap[w.heap.size]? = _ at hR
  clear f2 r2
  generalize (((((w1.setCell ⟨w.heap.size, 0, none⟩ (.int .u64 (cl : Int))).setCell ⟨w.heap.size, 1, none⟩ (.int .i64 (kind : Int))).setCell ⟨w.heap.size, 2, none⟩ (.int .i64 (sz : Int))).setCell ⟨w.heap.size, 3, none⟩ (.int .u32 (hash : Int))).setCell ⟨w.heap.size, 4, none⟩ (.bool mark)) = wf at hR hB hl ⊢
  obtain ⟨wz, hwz⟩ : ∃ wz, wf.alloc (.cells #[.int .u64 (cl : Int), .int .i64 (kind : Int), .int .i64 (sz : Int), .int .u32 (hash : Int), .bool mark] 52) = wz := ⟨_, rfl⟩
  have hz := (congrArg (fun z : World => z.heap[w.heap.size]?) hwz.symm).trans ((heap_alloc_old _ _ hl).trans hR)
  have hbz : Below w.heap.size w wz := by rw [← hwz]; exact hB.alloc (by omega) _
  rw [hwz]
  obtain ⟨q0, q1, q2, q3, q4⟩ := cells5 hz
  exact bodyPost_ret (v := .tuple #[.agg #[.int .u64 (cl : Int), .int .i64 (kind : Int), .int .i64 (sz : Int), .int .u32 (hash : Int), .bool mark], .int .i64 0]) (by simp [results, Tryd.results10, go_sem, q0, q1, q2, q3, q4]) rfl ⟨rfl, hbz⟩

/-- is it a pointer to an object? -/
def isP (ws : List Nat) (x : Nat) : Prop := x % 2 = 0 ∧ 2 ≤ x ∧ x < 33554432 ∧ bitAt ws (x / 2) = true
instance (ws : List Nat) (x : Nat) : Decidable (isP ws x) := by unfold isP; infer_instance
/-- what is found with one word more; none: it is loose -/
def find1 (ws fs : List Nat) (x : Nat) : Option (List Nat) :=
  if x = 0 ∨ x % 2 = 1 then some fs else if isP ws x then (if x ∈ fs then some fs else some (fs ++ [x])) else none
section
variable {w w' : World} {base g gc cap gb gb2 size last LB lk sb sb2 : Nat} {L ws fs : List Nat} {k : Nat}
/-- a look in memory: what it has found, and how many of them were asked -/
structure LookAt (w : World) (base g gc cap gb gb2 size last LB lk sb sb2 : Nat) (L ws fs : List Nat) (k : Nat) : Prop where
  heap : HeapAt w base g gc cap gb gb2 size last L ws
  gs : g < LB ∧ gc < LB ∧ gb < LB ∧ gb2 < LB
  hd : ∃ v, w.heap[lk]? = some (.cells #[.pointer (some ⟨g, 0, none⟩), .pointer (some ⟨sb, 0, none⟩), v, .int .i64 (k : Int)] 81 (0, 0)) ∧ OwnH w LB v fs
  bits : ∃ bs, BitsAt w sb sb2 size bs ∧ ∀ i, bitAt bs i = true ↔ 2 * i ∈ fs
  bl : LB ≤ lk ∧ LB ≤ sb ∧ LB ≤ sb2
  isp : ∀ p ∈ fs, isP ws p
  nd : fs.Nodup
  top : LB ≤ w.heap.size
theorem isP.lt (h : HeapAt w base g gc cap gb gb2 size last L ws) {p : Nat} (hp : isP ws p) : p / 2 < size := by
  rcases Nat.lt_or_ge (p / 2) size with h1 | h1
  · exact h1
  · have := h.bits.top _ h1
    rw [hp.2.2.2] at this; cases this
theorem len_le : ∀ (n : Nat) (l : List Nat), l.Nodup → (∀ x ∈ l, x < n) → l.length ≤ n
  | 0, l, _, h => by
    cases l with
    | nil => exact Nat.le_refl _
    | cons a t => exact absurd (h a (by simp)) (by omega)
  | n + 1, l, hn, h => by
    have := len_le n (l.erase n) (hn.erase n) (fun x hx => by
      have hx := hn.mem_erase_iff.1 hx
      have := h x hx.2
      omega)
    have := List.le_length_erase (l := l) (a := n)
    omega
theorem LookAt.len (h : LookAt w base g gc cap gb gb2 size last LB lk sb sb2 L ws fs k) : fs.length ≤ size := by
  have h1 : (fs.map (· / 2)).Nodup := by
    refine List.pairwise_map.2 ?_
    refine h.nd.imp_of_mem ?_
    intro x y hx hy hne e
    have := (h.isp x hx).1
    have := (h.isp y hy).1
    exact hne (by omega)
  have := len_le size _ h1 (fun x hx => by
    obtain ⟨p, hp, rfl⟩ := List.mem_map.1 hx
    exact (h.isp p hp).lt h.heap)
  simpa using this
theorem LookAt.keep (h : LookAt w base g gc cap gb gb2 size last LB lk sb sb2 L ws fs k) (hb : Below w.heap.size w w') : LookAt w' base g gc cap gb gb2 size last LB lk sb sb2 L ws fs k := by
  obtain ⟨v, h1, h2⟩ := h.hd
  obtain ⟨bs, h3, h4⟩ := h.bits
  refine ⟨h.heap.below hb, h.gs, ⟨v, (hb.block _ (lt_of_block h1)).trans h1, h2.1, ?_⟩, ⟨bs, h3.below hb h3.gl h3.gl2, h4⟩, h.bl, h.isp, h.nd, Nat.le_trans h.top hb.size⟩
  rcases h2.2 with h | ⟨g', cap', cur, e, hb', hg, hr⟩
  · exact .inl h
  · exact .inr ⟨g', cap', cur, e, hb', (hb.block _ (lt_of_block hg)).trans hg, hr⟩
theorem LookAt.c (h : LookAt w base g gc cap gb gb2 size last LB lk sb sb2 L ws fs k) : w.cell? ⟨lk, 0, none⟩ = some (.pointer (some ⟨g, 0, none⟩)) ∧ w.cell? ⟨lk, 1, none⟩ = some (.pointer (some ⟨sb, 0, none⟩)) ∧ w.cell? ⟨lk, 3, none⟩ = some (.int .i64 (k : Int)) ∧ (∀ i, w.frozen? ⟨lk, i, none⟩ = false) ∧ lk < w.heap.size := by
  obtain ⟨v, h1, h2⟩ := h.hd
  exact ⟨cell_of_row _ _ _ _ _ _ h1, cell_of_row _ _ _ _ _ _ h1, cell_of_row _ _ _ _ _ _ h1, fun i => frozen_of_row _ _ _ _ _ h1, lt_of_block h1⟩
theorem LookAt.found (h : LookAt w base g gc cap gb gb2 size last LB lk sb sb2 L ws fs k) : ∃ v, w.cell? ⟨lk, 2, none⟩ = some v ∧ OwnH w LB v fs := by
  obtain ⟨v, h1, h2⟩ := h.hd
  exact ⟨v, cell_of_row _ _ _ _ _ _ h1, h2⟩
theorem LookAt.ne (h : LookAt w base g gc cap gb gb2 size last LB lk sb sb2 L ws fs k) : lk ≠ sb ∧ lk ≠ sb2 ∧ sb ≠ sb2 := by
  obtain ⟨v, h1, _⟩ := h.hd
  obtain ⟨bs, h3, _⟩ := h.bits
  obtain ⟨c, h5⟩ := h3.hd
  obtain ⟨cur, h6, _⟩ := h3.wd
  exact ⟨other_type h1 h5 (by decide), other_type h1 h6 (by decide), h3.ne⟩
end
end Go.Proofs.YtahmljjjdoaahaaDoor.Fl
