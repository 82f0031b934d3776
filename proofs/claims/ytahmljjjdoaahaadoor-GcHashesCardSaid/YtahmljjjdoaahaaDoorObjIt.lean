/-
  All objects, one behind the other: the range over a function.
-/
import Derived.RangeFuncNested
import Derived.RangeFuncBound
import Derived.RangeFuncCalls
import Derived.RangeFuncLeaves
import Derived.Shelf.Abstract
import Derived.Shelf.RegionOpen
import Derived.WalkKit
import Derived.OwnWalkIn
import Derived.TacticsInMore
import Derived.LoopNIn
import Derived.LoopIn
import Derived.Test.YtahmljjjdoaahaaDoorWhole
namespace Go.Proofs.YtahmljjjdoaahaaDoor.Fl
open Go.RowKit Go.Shelf
attribute [local go_sem] Oper.semAt_some

theorem eq_head (a b c d a' b' c' d' : Int) (m m' : Bool) (w : World) : (Op.equalIn 10000 52 (.agg #[.int .u64 a, .int .i64 b, .int .i64 c, .int .u32 d, .bool m]) (.agg #[.int .u64 a', .int .i64 b', .int .i64 c', .int .u32 d', .bool m'])).run Tryd.prog w = .ok (a == a' && b == b' && c == c' && d == d' && m == m') w := by
  have hS : Tryd.prog.underlying 52 = some (.struct (Tryd.prog.fieldsOf 52)) := by kernel_rfl
  rw [show (10000 : Nat) = 9999 + 1 from rfl, run_equalIn_agg w 9999 52 _ _ hS (by kernel_rfl)]
  simp only [Program.fieldsOf, Tryd.underlying52]
  go_simp
  by_cases h1 : a = a' <;> by_cases h2 : b = b' <;> by_cases h3 : c = c' <;> by_cases h4 : d = d' <;> by_cases h5 : m = m' <;> simp [h1, h2, h3, h4, h5]
section
variable {base g gc cap gb gb2 size last Bn : Nat} {os : List Ob}
/-- what the range reads -/
def HeapOf (base g gc cap gb gb2 size last Bn : Nat) (os : List Ob) (w : World) : Prop :=
  (∃ ws, HeapAt w base g gc cap gb gb2 size last (Lof os) ws) ∧ w.heap[Bn]? = some (.cells #[.pointer (some ⟨g, 0, none⟩)] 27 (0, 0))
theorem HeapOf.below {w w' : World} (h : HeapOf base g gc cap gb gb2 size last Bn os w) (hb : Below w.heap.size w w') : HeapOf base g gc cap gb gb2 size last Bn os w' := by
  obtain ⟨⟨ws, h1⟩, h2⟩ := h
  exact ⟨⟨ws, h1.below hb⟩, (hb.block _ (lt_of_block h2)).trans h2⟩
/-- what a round keeps: whatever cells there are, but for some; how the range reads -/
def KpO (X : Nat → Prop) (base g gc cap gb gb2 size last Bn : Nat) (os : List Ob) (W W' : World) : Prop :=
  W.heap.size ≤ W'.heap.size ∧ (∀ k cs T fr, W.heap[k]? = some (.cells cs T fr) → ¬ X k → W'.heap[k]? = W.heap[k]?) ∧ (HeapOf base g gc cap gb gb2 size last Bn os W → HeapOf base g gc cap gb gb2 size last Bn os W')
theorem KpO.trans {X : Nat → Prop} {A B C : World} (h : KpO X base g gc cap gb gb2 size last Bn os A B) (h' : KpO X base g gc cap gb gb2 size last Bn os B C) : KpO X base g gc cap gb gb2 size last Bn os A C :=
  ⟨Nat.le_trans h.1 h'.1, fun k cs T fr hk hx => (h'.2.1 k cs T fr ((h.2.1 k cs T fr hk hx).trans hk) hx).trans (h.2.1 k cs T fr hk hx), fun hh => h'.2.2 (h.2.2 hh)⟩
theorem grown_below {w w' : World} (h : Below w.heap.size w w') : w.grownBy w' none := ⟨h.os, h.tape, h.output, h.size, fun k hk _ => h.block k hk⟩
theorem abide {β : Type} {B : Nat} {J : β → World → Prop} (hJ : AbidesFrom B J) {s : β} {w w' : World} (h : J s w) (hb : Below w.heap.size w w') : J s w' := hJ s w w' none h (grown_below hb) (fun r e => by cases e)
/-- an object's number, one that there is -/
abbrev Ix (os : List Ob) : Type := { k : Nat // k < os.length }
def encO (os : List Ob) (k : Ix os) : Array Value := #[.int .i64 (pos os k.1 : Int), headV (os[k.1]'k.2)]
def ixs (os : List Ob) (n : Nat) : List (Ix os) := (List.range n).filterMap fun k => if h : k < os.length then some ⟨k, h⟩ else none
theorem ixs_succ {n : Nat} (h : n < os.length) : ixs os (n + 1) = ixs os n ++ [⟨n, h⟩] := by
  unfold ixs
  rw [List.range_succ, List.filterMap_append]
  simp [h]
theorem ixs_len : ∀ {n : Nat}, n ≤ os.length → (ixs os n).length = n
  | 0, _ => rfl
  | n + 1, h => by rw [ixs_succ (by omega), List.length_append, ixs_len (by omega)]; rfl
theorem mem_ixs {k : Ix os} : k ∈ ixs os os.length := by
  unfold ixs
  rw [List.mem_filterMap]
  exact ⟨k.1, List.mem_range.2 k.2, by simp [k.2]⟩
def leftC (os : List Ob) (v : Value) : Nat := (Lof os).length - (intOf v).toNat
set_option maxRecDepth 100000 in
set_option maxHeartbeats 4000000 in
theorem objects1_in (n : Nat) (hn : 1 ≤ n) (hok : ∀ o ∈ os, o.Ok) (l : Nat) (J Jx : List (Ix os) → World → Prop) (B : Nat) (X : Nat → Prop)
    (hY : ∀ pre x W, J pre W → pre.length < os.length → YieldAt Fence.wide (n - 1) Tryd.prog l (encO os x) W fun e W' =>
      (e = .returned (.bool true) ∧ J (pre ++ [x]) W' ∧ KpO X base g gc cap gb gb2 size last Bn os W W') ∨ (e = .returned (.bool false) ∧ Jx (pre ++ [x]) W'))
    (W : World) (hX : ∀ k, X k → k < W.heap.size) (hJ : AbidesFrom B J) (h : HeapOf base g gc cap gb gb2 size last Bn os W) (h0 : J [] W) :
    CallsIn Fence.wide n Tryd.prog 74 #[.func (.yield l) #[] #[], .pointer (some ⟨Bn, 0, none⟩)] W fun e W' => (∃ v, e = .returned v) ∧
      ((∃ ys, ys = ixs os os.length ∧ J ys W') ∨ (∃ pre, (∃ k, k ≤ os.length ∧ pre = ixs os k) ∧ Jx pre W')) := by
  refine callsIn_of_wp Tryd.func74 rfl trivial ?_ rfl
  simp only [Tryd.ntmps74, List.size_toArray, List.length_cons, List.length_nil, Nat.reduceAdd, Nat.reduceSub, Array.replicate_succ, Array.replicate_zero, List.push_toArray, List.append_toArray, List.nil_append, List.cons_append]
  gi_wp2
  gi_loopw [3] (fun v wr => ∃ k : Nat, k ≤ os.length ∧ v = .int .i64 (pos os k : Int) ∧ J (ixs os k) wr ∧ HeapOf base g gc cap gb gb2 size last Bn os wr ∧ W.heap.size ≤ wr.heap.size)
    (fun v _ => leftC os v)
  case atStart => exact ⟨0, Nat.zero_le _, rfl, h0, h, Nat.le_refl _⟩
  case round =>
    obtain ⟨k, hk, rfl, hJs, hH, hsz⟩ := hrel
    have hH' := hH
    obtain ⟨⟨ws, hA⟩, hB⟩ := hH
    have fB := one_cellW hB
    have c1 := hA.c1
    have hroom := hA.room
    have hsm := hA.small
    by_cases hlt : k < os.length
    · have htop := pos_top os hlt
      have hwh := whole_any hlt hA hok
      unfold headV at hwh
      have hce := fun w' => cells_any os[k].cl os[k].kind os[k].sz os[k].hash os[k].mark w' (by omega) (by have := (hok _ (List.getElem_mem hlt)).lt; omega)
      rw [(hok _ (List.getElem_mem hlt)).len] at hce
      have hcl0 := (hErr_ok (hok _ (List.getElem_mem hlt)).ok).1
      have hY' := fun (wx : World) (hj : J (ixs os k) wx) => hY (ixs os k) ⟨k, hlt⟩ wx hj (by rw [ixs_len hk]; exact hlt)
      unfold encO headV at hY'
      have hix := ixs_succ hlt
      have hps := pos_succ os hlt
      have HY' := Lib.hid hY'
      have HPs := Lib.hid hps
      have HIx := Lib.hid hix
      have HCe := Lib.hid hce
      clear hps hix hY' hce
      simp only at HY'
      generalize os[k] = o at *
      gi_wp2
      refine ⟨trivial, ?_⟩
      gi_at_call 75
      refine (callsIn_wide.2 hwh).mono ?_
      rintro e w1 ⟨rfl, hb1⟩
      have hb2 : Below wr.heap.size wr (w1.alloc (.cells #[.int .u64 (o.cl : Int), .int .i64 (o.kind : Int), .int .i64 (o.sz : Int), .int .u32 (o.hash : Int), .bool o.mark] 52)) := hb1.alloc hb1.size _
      obtain ⟨w2, hw2⟩ : ∃ w2, w1.alloc (.cells #[.int .u64 (o.cl : Int), .int .i64 (o.kind : Int), .int .i64 (o.sz : Int), .int .u32 (o.hash : Int), .bool o.mark] 52) = w2 := ⟨_, rfl⟩
      have hq2 : w2.heap[w1.heap.size]? = some (.cells #[.int .u64 (o.cl : Int), .int .i64 (o.kind : Int), .int .i64 (o.sz : Int), .int .u32 (o.hash : Int), .bool o.mark] 52 (0, 0)) := by rw [← hw2]; exact heap_alloc_new w1 _
      rw [hw2] at hb2
      obtain ⟨fn, tmps, assign, body, hy, hR⟩ := HY'.out w2 (abide hJ hJs hb2)
      have q2 := cells5 hq2
      have HH2 := Lib.hid (HeapOf.below hH' hb2)
      have HS2 := Lib.hid (show W.heap.size ≤ w2.heap.size by have := hb2.size; omega)
      have hnX : ¬ X w1.heap.size := fun hx => by have := hX _ hx; have := hb1.size; omega
      have hq : ∀ w', (Op.equalIn 10000 52 (.agg #[.int .u64 (o.cl : Int), .int .i64 (o.kind : Int), .int .i64 (o.sz : Int), .int .u32 (o.hash : Int), .bool o.mark]) (.agg #[.int .u64 0, .int .i64 0, .int .i64 0, .int .u32 0, .bool false])).run Tryd.prog w' = .ok false w' := fun w' => by
        rw [eq_head, show ((o.cl : Int) == 0) = false from beq_eq_false_iff_ne.2 hcl0.1]; rfl
      gi_wp2
      refine hR.mono ?_
      rintro e w3 (⟨rfl, hJ3, hk3⟩ | ⟨rfl, hJx3⟩)
      · have hq3 := (hk3.2.1 _ _ _ _ hq2 hnX).trans hq2
        have q3 := cells5 hq3
        have HH3 := Lib.hid (hk3.2.2 HH2.out)
        have HS3 := Lib.hid (Nat.le_trans HS2.out hk3.1)
        have HJ3 := Lib.hid hJ3
        have HQ := Lib.hid hq
        clear hk3 hJ3 hy hR q2 hb2 hb1 hJs hH' hA hB fB c1 hwh
        gi_wp2
        refine ⟨trivial, ?_⟩
        gi_at_call 35
        refine (callsIn_wide.2 (HCe.out w3)).mono ?_
        rintro e w4 ⟨rfl, hb4⟩
        have HJ4 := Lib.hid (abide hJ HJ3.out hb4)
        have HH4 := Lib.hid (HH3.out.below hb4)
        have HS4 := Lib.hid (Nat.le_trans HS3.out hb4.size)
        clear hb4 q3 hq3
        gi_wp2
        go_roundw
        case rel => exact ⟨k + 1, hlt, by rw [HPs.out]; simp; omega, by rw [HIx.out]; exact HJ4.out, HH4.out, HS4.out⟩
        case measure => unfold leftC; simp [intOf]; omega
      · have HJx := Lib.hid hJx3
        clear hJx3 hy hR
        gi_wp2
        refine bodyPost_ret (results_none rfl _ _ _) rfl ?_
        exact ⟨⟨_, rfl⟩, .inr ⟨_, ⟨k + 1, hlt, HIx.out.symm⟩, HJx.out⟩⟩
    · have hend : (pos os k : Int) = ((Lof os).length : Int) := by
        have e : k = os.length := by omega
        subst e
        rw [pos_all]
      gi_wp2
      go_end0
      exact ⟨⟨_, rfl⟩, .inl ⟨_, by rw [show k = os.length by omega], hJs⟩⟩
end
end Go.Proofs.YtahmljjjdoaahaaDoor.Fl
