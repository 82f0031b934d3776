/-
  Memory as a list of objects: the cells that they are, where each stands, what each leads to.
-/
import Derived.Test.YtahmljjjdoaahaaDoorPMarkE
import Derived.Test.YtahmljjjdoaahaaDoorHeadD
import Derived.LoopTactic
namespace Go.Proofs.YtahmljjjdoaahaaDoor.Fl
open Go.RowKit

/-- an object: its head, and the cells behind it -/
structure Ob where
  cl : Nat
  kind : Nat
  sz : Nat
  hash : Nat
  mark : Bool
  xs : List Nat
def Ob.cells (o : Ob) : List Nat := o.cl :: pk o.kind o.sz o.hash o.mark :: o.xs
structure Ob.Ok (o : Ob) : Prop where
  ok : hErr o.cl o.kind o.sz o.hash = 0
  lt : o.cl < 18446744073709551616
  len : cellsI o.cl o.kind o.sz o.hash = (o.xs.length : Int)
  xlt : ∀ x ∈ o.xs, x < 18446744073709551616
def flat (os : List Ob) : List Nat := os.flatMap Ob.cells
def Lof (os : List Ob) : List Nat := 0 :: 0 :: flat os
/-- where the object number k stands -/
def pos (os : List Ob) (k : Nat) : Nat := (Lof (os.take k)).length
theorem Ob.cells_len (o : Ob) : o.cells.length = o.xs.length + 2 := rfl
theorem flat_append (os ps : List Ob) : flat (os ++ ps) = flat os ++ flat ps := by unfold flat; rw [List.flatMap_append]
theorem flat_one (o : Ob) : flat [o] = o.cells := by unfold flat; simp
theorem Lof_append (os ps : List Ob) : Lof (os ++ ps) = Lof os ++ flat ps := by unfold Lof; rw [flat_append]; rfl
theorem Lof_snoc (os : List Ob) (o : Ob) : Lof (os ++ [o]) = Lof os ++ o.cells := by rw [Lof_append, flat_one]
theorem Lof_split (os : List Ob) {k : Nat} (h : k < os.length) : Lof os = Lof (os.take k) ++ (os[k].cells ++ flat (os.drop (k + 1))) := by
  conv => lhs; rw [← List.take_append_drop k os, Lof_append, List.drop_eq_getElem_cons h]
  rw [show os[k] :: os.drop (k + 1) = [os[k]] ++ os.drop (k + 1) from rfl, flat_append, flat_one]
theorem pos_zero (os : List Ob) : pos os 0 = 2 := rfl
theorem pos_succ (os : List Ob) {k : Nat} (h : k < os.length) : pos os (k + 1) = pos os k + 2 + os[k].xs.length := by
  unfold pos
  rw [List.take_succ_eq_append_getElem h, Lof_snoc, List.length_append, Ob.cells_len]; omega
theorem pos_all (os : List Ob) : pos os os.length = (Lof os).length := by unfold pos; rw [List.take_length]
theorem pos_mono (os : List Ob) {k m : Nat} (h : k ≤ m) : pos os k ≤ pos os m := by
  unfold pos
  rw [← List.take_append_drop k (os.take m), List.take_take, Nat.min_eq_left h, Lof_append, List.length_append]; omega
theorem pos_lt (os : List Ob) {k m : Nat} (h : k < m) (hm : m ≤ os.length) : pos os k + 2 ≤ pos os m := by
  have h1 := pos_succ os (k := k) (by omega)
  have h2 := pos_mono os (k := k + 1) (m := m) h
  omega
theorem pos_top (os : List Ob) {k : Nat} (h : k < os.length) : pos os k + 2 + os[k].xs.length ≤ (Lof os).length := by
  rw [← pos_succ os h, ← pos_all]; exact pos_mono os h
theorem pos_two (os : List Ob) (k : Nat) : 2 ≤ pos os k := by unfold pos Lof; simp
theorem pos_inj (os : List Ob) {k m : Nat} (hk : k < os.length) (hm : m < os.length) (h : pos os k = pos os m) : k = m := by
  rcases Nat.lt_trichotomy k m with h1 | h1 | h1
  · have := pos_lt os h1 (by omega); omega
  · exact h1
  · have := pos_lt os h1 (by omega); omega
theorem pos_append (os ps : List Ob) {k : Nat} (h : k ≤ os.length) : pos (os ++ ps) k = pos os k := by
  unfold pos; rw [List.take_append_of_le_length h]
theorem Lof_at (os : List Ob) {k : Nat} (h : k < os.length) (j : Nat) (hj : j < os[k].xs.length + 2) : (Lof os)[pos os k + j]? = os[k].cells[j]? := by
  rw [Lof_split os h, List.getElem?_append_right (by unfold pos; omega)]
  rw [show pos os k + j - (Lof (os.take k)).length = j by unfold pos; omega, List.getElem?_append_left (by rw [Ob.cells_len]; exact hj)]
theorem Lof_body (os : List Ob) {k : Nat} (h : k < os.length) : ((Lof os).drop (pos os k + 2)).take os[k].xs.length = os[k].xs := by
  rw [Lof_split os h, List.drop_append, List.drop_of_length_le (by unfold pos; omega), List.nil_append,
    show pos os k + 2 - (Lof (os.take k)).length = 2 by unfold pos; omega]
  show ((os[k].xs ++ flat (os.drop (k + 1)))).take _ = _
  rw [List.take_left' rfl]
theorem flat_set_len {os : List Ob} {k : Nat} {o : Ob} (h : k < os.length) (hl : o.xs.length = os[k].xs.length) (m : Nat) : pos (os.set k o) m = pos os m := by
  unfold pos
  rw [List.take_set]
  by_cases hm : k < m
  · have hk : k < (os.take m).length := by rw [List.length_take]; omega
    rw [Lof_split ((os.take m).set k o) (k := k) (by rw [List.length_set]; exact hk), Lof_split (os.take m) hk]
    simp only [List.take_set_of_le (Nat.le_refl k), List.getElem_set_self, List.length_append, Ob.cells_len, List.getElem_take, hl]
    rw [List.drop_set_of_lt (by omega)]
  · rw [List.set_eq_of_length_le (by rw [List.length_take]; omega)]
theorem Lof_set {os : List Ob} {k : Nat} (o : Ob) (h : k < os.length) : Lof (os.set k o) = Lof (os.take k) ++ (o.cells ++ flat (os.drop (k + 1))) := by
  rw [Lof_split (os.set k o) (k := k) (by rw [List.length_set]; exact h)]
  simp only [List.take_set_of_le (Nat.le_refl k), List.getElem_set_self]
  rw [List.drop_set_of_lt (by omega)]
/-- another word of an object -/
theorem Lof_put {os : List Ob} {k j x : Nat} (h : k < os.length) (hj : j < os[k].xs.length) : (Lof os).set (pos os k + 2 + j) x = Lof (os.set k { os[k] with xs := os[k].xs.set j x }) := by
  rw [Lof_set _ h, Lof_split os h, List.set_append_right _ _ (by unfold pos; omega), show pos os k + 2 + j - (Lof (os.take k)).length = 2 + j by unfold pos; omega,
    List.set_append_left _ _ (by rw [Ob.cells_len]; omega), show 2 + j = j + 1 + 1 by omega]
  rfl
/-- another head -/
theorem Lof_head {os : List Ob} {k : Nat} (o : Ob) (h : k < os.length) (hx : o.xs = os[k].xs) : (Lof os).take (pos os k) ++ ([o.cl, pk o.kind o.sz o.hash o.mark] ++ (Lof os).drop (pos os k + 2)) = Lof (os.set k o) := by
  rw [Lof_set _ h]
  conv => lhs; rw [Lof_split os h]
  rw [show (Lof (os.take k) ++ (os[k].cells ++ flat (os.drop (k + 1)))).take (pos os k) = Lof (os.take k) from List.take_left' rfl, List.drop_append, List.drop_of_length_le (by unfold pos; omega), List.nil_append, show pos os k + 2 - (Lof (os.take k)).length = 2 by unfold pos; omega]
  show _ ++ (_ :: _ :: (os[k].xs ++ flat (os.drop (k + 1)))) = _
  unfold Ob.cells
  rw [hx]; rfl

/-- the places of objects are a set -/
def Setd (ws : List Nat) (os : List Ob) : Prop := ∀ i, bitAt ws i = true ↔ ∃ k, k < os.length ∧ i = pos os k
structure ObsAt (w : World) (base g gc cap gb gb2 size last : Nat) (os : List Ob) (ws : List Nat) : Prop where
  heap : HeapAt w base g gc cap gb gb2 size last (Lof os) ws
  set : Setd ws os
  ok : ∀ o ∈ os, o.Ok
/-- which object a pointer points to -/
def idx (os : List Ob) (p : Nat) : Nat := ((List.range os.length).find? fun k => p == 2 * pos os k).getD os.length
theorem idx_pos (os : List Ob) {k : Nat} (h : k < os.length) : idx os (2 * pos os k) = k := by
  unfold idx
  cases hf : (List.range os.length).find? (fun j => 2 * pos os k == 2 * pos os j) with
  | none => exact absurd (List.find?_eq_none.1 hf k (List.mem_range.2 h)) (by simp)
  | some j =>
    have h1 := List.find?_some hf
    have h2 := List.mem_range.1 (List.mem_of_find?_eq_some hf)
    simp only [beq_iff_eq] at h1
    exact (pos_inj os h h2 (by omega)).symm
def Ob.leads (o : Ob) : List Nat := o.cl :: if o.kind = 2 then [] else o.xs
def ldOf (os : List Ob) (p : Nat) : List Nat := match os[idx os p]? with
  | some o => o.leads
  | none => []
def cnOf (os : List Ob) (p : Nat) : Nat := match os[idx os p]? with
  | some o => o.xs.length
  | none => 0
theorem ldOf_pos (os : List Ob) {k : Nat} (h : k < os.length) : ldOf os (2 * pos os k) = os[k].leads := by
  unfold ldOf; rw [idx_pos os h, List.getElem?_eq_getElem h]
theorem cnOf_pos (os : List Ob) {k : Nat} (h : k < os.length) : cnOf os (2 * pos os k) = os[k].xs.length := by
  unfold cnOf; rw [idx_pos os h, List.getElem?_eq_getElem h]
section
variable {w w' : World} {base g gc cap gb gb2 size last : Nat} {os : List Ob} {ws : List Nat}
theorem ObsAt.len (h : ObsAt w base g gc cap gb gb2 size last os ws) : (Lof os).length ≤ 16777216 := Nat.le_trans h.heap.room h.heap.small
theorem ObsAt.isP (h : ObsAt w base g gc cap gb gb2 size last os ws) (p : Nat) : isP ws p ↔ ∃ k, k < os.length ∧ p = 2 * pos os k := by
  constructor
  · rintro ⟨h1, h2, h3, h4⟩
    obtain ⟨k, hk, e⟩ := (h.set _).1 h4
    exact ⟨k, hk, by omega⟩
  · rintro ⟨k, hk, rfl⟩
    have h1 := pos_top os hk
    have h2 := h.len
    have h3 := pos_two os k
    exact ⟨by omega, by omega, by omega, (h.set _).2 ⟨k, hk, by omega⟩⟩
theorem ObsAt.okAt (h : ObsAt w base g gc cap gb gb2 size last os ws) {k : Nat} (hk : k < os.length) : os[k].Ok := h.ok _ (List.getElem_mem hk)
theorem ObsAt.bit (h : ObsAt w base g gc cap gb gb2 size last os ws) {k : Nat} (hk : k < os.length) : bitAt ws (pos os k) = true := (h.set _).2 ⟨k, hk, rfl⟩
theorem ObsAt.below (h : ObsAt w base g gc cap gb gb2 size last os ws) (hb : Below w.heap.size w w') : ObsAt w' base g gc cap gb gb2 size last os ws := ⟨h.heap.below hb, h.set, h.ok⟩
theorem headIn (hok : ∀ o ∈ os, o.Ok) {k : Nat} (hk : k < os.length) : HeadIn (Lof os) (pos os k) os[k].cl os[k].kind os[k].sz os[k].hash os[k].mark := by
  have ho := hok _ (List.getElem_mem hk)
  exact ⟨Lof_at os hk 0 (by omega), Lof_at os hk 1 (by omega), ho.ok, ho.lt⟩
theorem Ob.Ok.words {o : Ob} (h : o.Ok) (hk : o.kind ≠ 2) : o.xs.length = o.sz := by
  have h1 := h.len
  unfold cellsI at h1
  rw [if_pos h.ok, if_neg (by omega)] at h1
  omega
theorem ObsAt.ob (h : ObsAt w base g gc cap gb gb2 size last os ws) {k : Nat} (hk : k < os.length) : ObAt (Lof os) ws (2 * pos os k) os[k].cl os[k].kind os[k].sz os[k].hash os[k].mark (if os[k].kind = 2 then [] else os[k].xs) := by
  have hh := headIn h.ok hk
  have e : 2 * pos os k / 2 = pos os k := by omega
  refine ⟨(h.isP _).2 ⟨k, hk, rfl⟩, by rw [e]; exact hh, fun h2 => ?_, fun h2 => by rw [if_pos h2]⟩
  rw [e, if_neg h2]
  have h3 := pos_top os hk
  have h4 := (h.okAt hk).words h2
  have h5 := Lof_body os hk
  rw [h4] at h3 h5
  exact ⟨h3, h5.symm⟩
theorem ObsAt.graph (h : ObsAt w base g gc cap gb gb2 size last os ws) : Graph (ldOf os) (cnOf os) (Lof os) ws := fun p hp => by
  obtain ⟨k, hk, rfl⟩ := (h.isP p).1 hp
  exact ⟨_, _, _, _, _, _, h.ob hk, ldOf_pos os hk, by rw [cnOf_pos os hk]; exact (h.okAt hk).len⟩
/-- an object more -/
theorem Setd.snoc {os : List Ob} {o : Ob} {ws ws' : List Nat} (h : Setd ws os) (hb : ∀ k, bitAt ws' k = if k = (Lof os).length then true else bitAt ws k) : Setd ws' (os ++ [o]) := fun i => by
  rw [hb i]
  split
  · next e =>
    refine ⟨fun _ => ⟨os.length, by simp, ?_⟩, fun _ => rfl⟩
    rw [pos_append os [o] (Nat.le_refl _), pos_all]; exact e
  · next e =>
    rw [h i]
    constructor
    · rintro ⟨k, hk, rfl⟩
      exact ⟨k, by simp; omega, (pos_append os [o] (by omega)).symm⟩
    · rintro ⟨k, hk, rfl⟩
      rw [List.length_append, List.length_singleton] at hk
      by_cases e2 : k = os.length
      · subst e2
        exact absurd (by rw [pos_append os [o] (Nat.le_refl _), pos_all]) e
      · exact ⟨k, by omega, pos_append os [o] (by omega)⟩
theorem Setd.top {os : List Ob} {ws : List Nat} (h : Setd ws os) : bitAt ws (Lof os).length = false := by
  cases hc : bitAt ws (Lof os).length with
  | false => rfl
  | true =>
    obtain ⟨k, hk, e⟩ := (h _).1 hc
    have := pos_top os hk
    omega
theorem Setd.set {os : List Ob} {o : Ob} {k : Nat} {ws : List Nat} (h : Setd ws os) (hk : k < os.length) (hl : o.xs.length = os[k].xs.length) : Setd ws (os.set k o) := fun i => by
  rw [h i]
  simp only [List.length_set, flat_set_len hk hl]
end
end Go.Proofs.YtahmljjjdoaahaaDoor.Fl

/-
  Contracts of the document's Cells and Unpack, the law's own, and the law's fixed fact.
-/
namespace Go.Proofs.YtahmljjjdoaahaaDoor.Fl
open Go.RowKit

set_option maxHeartbeats 1000000 in
theorem rcells_any (cl kind size hash : Int) (mark : Bool) (w : World) (c0 : 0 ≤ cl) (z0 : 0 ≤ hash) :
    Calls Tryd.prog 40 #[.agg #[.int .u64 cl, .int .i64 kind, .int .i64 size, .int .u32 hash, .bool mark]] w fun e w' => e = .returned (.int .i64 (cellsI cl kind size hash)) ∧ Below w.heap.size w w' := by
  have hw := fun w' => rpack_any cl kind size hash mark w' c0 z0
  unfold cellsI
  by_cases hE : hErr cl kind size hash = 0
  · rw [if_pos hE]
    rw [hE] at hw
    obtain ⟨_, ⟨s0, s1⟩, h0, ⟨k0, k1⟩⟩ := hErr_ok hE
    clear hE
    generalize pkC cl kind size hash = C at hw
    generalize pkW cl kind size hash mark = X at hw
    by_cases hk : kind = 2
    · have hk' : (kind == 2) = true := by simp [hk]
      rw [if_pos hk]
      clear hk
      go_enter Tryd.func40, Tryd.ntmps40
      go_wp2_with fail
      refine (hw _).mono ?_
      rintro e w1 ⟨rfl, hb⟩
      obtain ⟨hc, hf⟩ := bcell hb
      have hs := hb.size
      simp at hs
      have hz0 : w.heap.size < w1.heap.size := by omega
      have hbw : Below w.heap.size w w1 := ((Below.refl _ _).alloc (Nat.le_refl _) _).trans (hb.mono (by simp))
      have hbw2 := hbw.alloc (by omega) (.cells #[.int .u64 C, .int .u64 X] 100)
      go_wp2_with fail
      go_loop [5] (fun n => ∃ k : Nat, (k : Int) ≤ (size + 7) / 8 ∧ n = .int .i64 k) (fun n => ((size + 7) / 8 - intOf n).toNat)
      case atStart => exact ⟨0, by omega, rfl⟩
      case round =>
        obtain ⟨k, hk, rfl⟩ := hrel
        by_cases hlt : 8 * (k : Int) < size
        · go_wp2
          go_round
          case rel => exact ⟨k + 1, by omega, by go_num⟩
          case measure => simp [intOf]; omega
        · have hke : (k : Int) = (size + 7) / 8 := by omega
          have HK := Lib.hid hke
          clear hke
          go_wp2
          go_ret
          exact ⟨retI HK.out, hbw2⟩
    · have hk' : (kind == 2) = false := by simp [hk]
      rw [if_neg hk]
      clear hk
      go_enter Tryd.func40, Tryd.ntmps40
      go_wp2_with fail
      refine (hw _).mono ?_
      rintro e w1 ⟨rfl, hb⟩
      obtain ⟨hc, hf⟩ := bcell hb
      have hs := hb.size
      simp at hs
      have hz0 : w.heap.size < w1.heap.size := by omega
      have hbw : Below w.heap.size w w1 := ((Below.refl _ _).alloc (Nat.le_refl _) _).trans (hb.mono (by simp))
      have hbw2 := hbw.alloc (by omega) (.cells #[.int .u64 C, .int .u64 X] 100)
      go_wp2_with fail
      go_ret
      exact ⟨rfl, hbw2⟩
  · rw [if_neg hE]
    have hne : (hErr cl kind size hash != 0) = true := by simp [hE]
    generalize hErr cl kind size hash = E at hw hne
    clear hE
    generalize pkC cl kind size hash = C at hw
    generalize pkW cl kind size hash mark = X at hw
    go_enter Tryd.func40, Tryd.ntmps40
    go_wp2_with fail
    refine (hw _).mono ?_
    rintro e w1 ⟨rfl, hb⟩
    have hs := hb.size
    simp at hs
    have hz0 : w.heap.size < w1.heap.size := by omega
    have hbw : Below w.heap.size w w1 := ((Below.refl _ _).alloc (Nat.le_refl _) _).trans (hb.mono (by simp))
    have hbw2 := hbw.alloc (by omega) (.cells #[.int .u64 C, .int .u64 X] 100)
    go_wp2_with fail
    go_ret
    exact ⟨rfl, hbw2⟩
end Go.Proofs.YtahmljjjdoaahaaDoor.Fl

/-
  The document's heap in memory: a list of objects; Find.
-/
namespace Go.Proofs.YtahmljjjdoaahaaDoor.Fl
open Go.RowKit

/-- byte number i of words -/
def byteN (xs : List Nat) (i : Nat) : UInt8 := UInt8.ofNat (xs.getD (i / 8) 0 / 2 ^ (8 * (i % 8)))
def Ob.words (o : Ob) : List Nat := if o.kind = 2 then [] else o.xs
def Ob.bytes (o : Ob) : List UInt8 := if o.kind = 2 then (List.range o.sz).map (byteN o.xs) else []
/-- a row of cells of one type, in a block at lo or beyond, below B -/
def Rt (w : World) (lo B : Nat) (T : TypeId) (A : Option Addr) (vs : List Value) : Prop := vs = [] ∨ ∃ b off, A = some ⟨b, off, none⟩ ∧ lo ≤ b ∧ b < B ∧ (∃ cur, w.heap[b]? = some (.cells cur T (0, 0))) ∧ ∀ j v, vs[j]? = some v → w.cell? ⟨b, off + j, none⟩ = some v
section
variable {w w' : World} {lo B B' : Nat} {T : TypeId} {A : Option Addr} {vs : List Value}
theorem Rt.nil (w : World) (lo B : Nat) (T : TypeId) (A : Option Addr) : Rt w lo B T A [] := .inl rfl
theorem Rt.rd (h : Rt w lo B T A vs) : Rd w B A vs := by
  rcases h with h | ⟨b, off, e, _, hb, _, hc⟩
  · exact .inl h
  · exact .inr ⟨b, off, e, hb, hc⟩
theorem Rt.keep (h : Rt w lo B T A vs) (hk : ∀ (b : Nat) (cur : Array Value), lo ≤ b → b < B → w.heap[b]? = some (Obj.cells cur T (0, 0)) → w'.heap[b]? = w.heap[b]?) : Rt w' lo B T A vs := by
  rcases h with h | ⟨b, off, e, hl, hb, ⟨cur, hcur⟩, hc⟩
  · exact .inl h
  · have h1 := hk b cur hl hb hcur
    exact .inr ⟨b, off, e, hl, hb, ⟨cur, h1.trans hcur⟩, fun j v hj => (World.cell?_of_block (a := ⟨b, off + j, none⟩) h1).trans (hc j v hj)⟩
theorem Rt.below (h : Rt w lo B T A vs) (hb : Below B w w') : Rt w' lo B T A vs := h.keep fun b _ _ h2 _ => hb.block b h2
theorem Rt.more (h : Rt w lo B T A vs) (hB : B ≤ B') : Rt w lo B' T A vs := by
  rcases h with h | ⟨b, off, e, hl, hb, hc⟩
  · exact .inl h
  · exact .inr ⟨b, off, e, hl, by omega, hc⟩
theorem Rt.less {lo' : Nat} (h : Rt w lo B T A vs) (hB : lo' ≤ lo) : Rt w lo' B T A vs := by
  rcases h with h | ⟨b, off, e, hl, hb, hc⟩
  · exact .inl h
  · exact .inr ⟨b, off, e, by omega, hb, hc⟩
end
/-- the eight cells of an object -/
def DocV (w : World) (lo B p : Nat) (o : Ob) (u : List Value) : Prop := ∃ A c A' c', u = [.int .i64 (p : Int), .int .u64 (o.cl : Int), .int .i64 (o.kind : Int), .int .i64 (o.sz : Int), .int .u32 (o.hash : Int), .bool o.mark, .slice A o.words.length c, .slice A' o.bytes.length c'] ∧
  Rt w lo B 37 A (cw o.words) ∧ Rt w lo B 5 A' (cb o.bytes)
theorem DocV.len {w : World} {lo B p : Nat} {o : Ob} {u : List Value} (h : DocV w lo B p o u) : u.length = 8 := by
  obtain ⟨_, _, _, _, rfl, _⟩ := h; rfl
theorem DocV.keep {w w' : World} {lo B B' p : Nat} {o : Ob} {u : List Value} (h : DocV w lo B p o u) (hb : Below B w w') (hB : B ≤ B') : DocV w' lo B' p o u := by
  obtain ⟨A, c, A', c', e, h1, h2⟩ := h
  exact ⟨A, c, A', c', e, (h1.below hb).more hB, (h2.below hb).more hB⟩
def DocVs (w : World) (lo B : Nat) (os : List Ob) (us : List (List Value)) : Prop := us.length = os.length ∧ ∀ k (h : k < os.length), ∃ u, us[k]? = some u ∧ DocV w lo B (pos os k) os[k] u
theorem DocVs.eight {w : World} {lo B : Nat} {os : List Ob} {us : List (List Value)} (h : DocVs w lo B os us) : ∀ u ∈ us, u.length = 8 := fun u hu => by
  obtain ⟨k, hk, rfl⟩ := List.mem_iff_getElem.1 hu
  obtain ⟨v, hv, hd⟩ := h.2 k (by rw [← h.1]; exact hk)
  rw [List.getElem?_eq_getElem hk] at hv
  injection hv with hv
  rw [hv]; exact hd.len
theorem DocVs.keep {w w' : World} {lo B B' : Nat} {os : List Ob} {us : List (List Value)} (h : DocVs w lo B os us) (hb : Below B w w') (hB : B ≤ B') : DocVs w' lo B' os us :=
  ⟨h.1, fun k hk => by obtain ⟨u, hu, hd⟩ := h.2 k hk; exact ⟨u, hu, hd.keep hb hB⟩⟩
theorem flatten_at (n : Nat) : ∀ (us : List (List Value)), (∀ u ∈ us, u.length = n) → ∀ k j, j < n → us.flatten[k * n + j]? = (us[k]?).bind (·[j]?)
  | [], _, k, j, _ => by simp
  | u :: t, h, k, j, hj => by
    have hu := h u (by simp)
    rw [List.flatten_cons]
    cases k with
    | zero =>
      rw [Nat.zero_mul, Nat.zero_add, List.getElem?_append_left (by omega)]; rfl
    | succ k =>
      rw [List.getElem?_append_right (by rw [hu, Nat.succ_mul]; omega), hu, show (k + 1) * n + j - n = k * n + j by rw [Nat.succ_mul]; omega, flatten_at n t (fun v hv => h v (by simp [hv])) k j hj]; rfl
theorem flatten_len (n : Nat) : ∀ (us : List (List Value)), (∀ u ∈ us, u.length = n) → us.flatten.length = us.length * n
  | [], _ => by simp
  | u :: t, h => by rw [List.flatten_cons, List.length_append, h u (by simp), flatten_len n t (fun v hv => h v (by simp [hv])), List.length_cons, Nat.succ_mul]; omega
/-- the list that stands in memory -/
def DocAt (w : World) (lo B : Nat) (A : Option Addr) (os : List Ob) : Prop := ∃ us, DocVs w lo B os us ∧ Rt w lo B 43 A us.flatten
section
variable {w w' : World} {lo B B' : Nat} {A : Option Addr} {os : List Ob}
theorem DocAt.below (h : DocAt w lo B A os) (hb : Below B w w') : DocAt w' lo B A os := by
  obtain ⟨us, h1, h2⟩ := h
  exact ⟨us, h1.keep hb (Nat.le_refl _), h2.below hb⟩
theorem DocAt.more (h : DocAt w lo B A os) (hB : B ≤ B') : DocAt w lo B' A os := by
  obtain ⟨us, h1, h2⟩ := h
  exact ⟨us, h1.keep (Below.refl _ _) hB, h2.more hB⟩
theorem DocAt.cells (h : DocAt w lo B A os) {k : Nat} (hk : k < os.length) : ∃ b off u, A = some ⟨b, off, none⟩ ∧ b < B ∧ DocV w lo B (pos os k) os[k] u ∧ ∀ j v, u[j]? = some v → w.cell? ⟨b, off + (k * 8 + j), none⟩ = some v := by
  obtain ⟨us, h1, h2⟩ := h
  obtain ⟨u, hu, hd⟩ := h1.2 k hk
  have hf := flatten_at 8 us h1.eight k
  rcases h2 with h2 | ⟨b, off, rfl, _, hb, _, hc⟩
  · have := hf 0 (by omega)
    rw [h2, hu] at this
    obtain ⟨_, _, _, _, rfl, _⟩ := hd
    simp at this
  · refine ⟨b, off, u, rfl, hb, hd, fun j v hj => hc _ v ?_⟩
    have hj8 : j < 8 := by
      rw [← hd.len]
      rcases Nat.lt_or_ge j u.length with h | h
      · exact h
      · rw [List.getElem?_eq_none h] at hj; cases hj
    rw [hf j hj8, hu]; exact hj
theorem DocAt.at_ (h : DocAt w lo B A os) {k : Nat} (hk : k < os.length) : ∃ b off Aw c Ab c', A = some ⟨b, off, none⟩ ∧ b < B ∧
    w.cell? ⟨b, off + k * 8, none⟩ = some (.int .i64 (pos os k : Int)) ∧ w.cell? ⟨b, off + k * 8 + 1, none⟩ = some (.int .u64 (os[k].cl : Int)) ∧ w.cell? ⟨b, off + k * 8 + 2, none⟩ = some (.int .i64 (os[k].kind : Int)) ∧ w.cell? ⟨b, off + k * 8 + 3, none⟩ = some (.int .i64 (os[k].sz : Int)) ∧
    w.cell? ⟨b, off + k * 8 + 4, none⟩ = some (.int .u32 (os[k].hash : Int)) ∧ w.cell? ⟨b, off + k * 8 + 5, none⟩ = some (.bool os[k].mark) ∧ w.cell? ⟨b, off + k * 8 + 6, none⟩ = some (.slice Aw os[k].words.length c) ∧ w.cell? ⟨b, off + k * 8 + 7, none⟩ = some (.slice Ab os[k].bytes.length c') ∧
    Rd w B Aw (cw os[k].words) ∧ Rd w B Ab (cb os[k].bytes) := by
  obtain ⟨b, off, u, e, hb, ⟨Aw, c, Ab, c', rfl, h1, h2⟩, hc⟩ := h.cells hk
  exact ⟨b, off, Aw, c, Ab, c', e, hb, hc 0 _ rfl, hc 1 _ rfl, hc 2 _ rfl, hc 3 _ rfl, hc 4 _ rfl, hc 5 _ rfl, hc 6 _ rfl, hc 7 _ rfl, h1.rd, h2.rd⟩
end
theorem cells3 {w : World} {g : Nat} {v0 v1 v2 : Value} {T : TypeId} (h : w.heap[g]? = some (.cells #[v0, v1, v2] T (0, 0))) :
    w.cell? ⟨g, 0, none⟩ = some v0 ∧ w.cell? ⟨g, 1, none⟩ = some v1 ∧ w.cell? ⟨g, 2, none⟩ = some v2 ∧ ∀ k, w.frozen? ⟨g, k, none⟩ = false :=
  ⟨cell_of_row _ _ _ _ _ _ h, cell_of_row _ _ _ _ _ _ h, cell_of_row _ _ _ _ _ _ h, fun _ => frozen_of_row _ _ _ _ _ h⟩
/-- which object it is; -1: none -/
def findI (os : List Ob) (p : Nat) : Int := if idx os p < os.length then (idx os p : Int) else -1
theorem findI_pos (os : List Ob) {k : Nat} (h : k < os.length) : findI os (2 * pos os k) = k := by
  unfold findI; rw [idx_pos os h, if_pos h]
theorem idx_none {os : List Ob} {p : Nat} (h : ∀ k, k < os.length → 2 * pos os k ≠ p) : idx os p = os.length := by
  unfold idx
  cases hf : (List.range os.length).find? (fun j => p == 2 * pos os j) with
  | none => rfl
  | some j =>
    have h1 := List.find?_some hf
    have h2 := List.mem_range.1 (List.mem_of_find?_eq_some hf)
    simp only [beq_iff_eq] at h1
    exact absurd h1.symm (h j h2)
theorem findI_none {os : List Ob} {p : Nat} (h : ∀ k, k < os.length → 2 * pos os k ≠ p) : findI os p = -1 := by
  unfold findI; rw [idx_none h, if_neg (by omega)]
theorem pos_ge (os : List Ob) {k : Nat} (h : k ≤ os.length) : k ≤ pos os k := by
  induction k with
  | zero => exact Nat.zero_le _
  | succ k ih => have := pos_succ os (k := k) (by omega); have := ih (by omega); omega
set_option maxHeartbeats 1000000 in
theorem rfind_any {lo B : Nat} {A : Option Addr} {os : List Ob} (size last : Int) (c p : Nat) (w : World) (h : DocAt w lo B A os) (hB : B ≤ w.heap.size) (hl : (Lof os).length ≤ 16777216) :
    Calls Tryd.prog 60 #[.agg #[.int .i64 size, .slice A os.length c, .int .u32 last], .int .u64 (p : Int)] w fun e w' => e = .returned (.int .i64 (findI os p)) ∧ Below w.heap.size w w' := by
  obtain ⟨wr, hwr⟩ : ∃ wr, w.alloc (.cells #[.int .i64 size, .slice A os.length c, .int .u32 last] 31) = wr := ⟨_, rfl⟩
  have B1 : wr.heap[w.heap.size]? = some (.cells #[.int .i64 size, .slice A os.length c, .int .u32 last] 31 (0, 0)) := by rw [← hwr]; exact heap_alloc_new w _
  have hbr : Below w.heap.size w wr := by rw [← hwr]; exact (Below.refl _ _).alloc (Nat.le_refl _) _
  have hD := Lib.hid (h.below (hbr.mono hB))
  have hon : os.length ≤ 16777216 := by
    have := pos_all os
    have := pos_ge os (k := os.length) (Nat.le_refl _)
    omega
  have hpl := Lib.hid (fun k => (show pos os k ≤ 16777216 from Nat.le_trans (by
    rcases Nat.lt_or_ge k os.length with h1 | h1
    · have := pos_top os h1; omega
    · unfold pos; rw [List.take_of_length_le h1]; exact Nat.le_refl _) hl))
  clear h
  go_enter Tryd.func60, Tryd.ntmps60
  go_wp2_with fail
  clear hwr
  have f1 := cells3 B1
  go_loop [5] (fun v => ∃ j : Nat, j ≤ os.length ∧ v = .int .i64 j ∧ Hid (∀ k, k < j → 2 * pos os k ≠ p)) (fun v => os.length - (intOf v).toNat)
  case atStart => exact ⟨0, Nat.zero_le _, rfl, Lib.hid (fun k hk => by omega)⟩
  case round =>
    obtain ⟨j, hj, rfl, HJ⟩ := hrel
    by_cases hlt : j < os.length
    · obtain ⟨b, off, Aw, cA, Ab, cB, rfl, hb, d0, _⟩ := hD.out.at_ hlt
      have hp0 := hpl.out j
      have HP := Lib.hid (findI_pos os hlt)
      obtain ⟨P, hP⟩ : ∃ P, pos os j = P := ⟨_, rfl⟩
      rw [hP] at d0 hp0 HP
      by_cases he : 2 * P = p
      · subst he
        have e1 : (((P : Int) * 2) == ((2 * P : Nat) : Int)) = true := by simp; omega
        have HB := Lib.hid hbr
        clear hP HJ hpl hbr hD hl
        go_wp2_with fail
        go_ret
        exact ⟨retI HP.out.symm, HB.out⟩
      · have e1 : (((P : Int) * 2) == (p : Int)) = false := by simp; omega
        have HJ2 := Lib.hid (show ∀ k, k < j + 1 → 2 * pos os k ≠ p from fun k hk => by
          by_cases e : k = j
          · subst e; rw [hP]; exact he
          · exact HJ.out k (by omega))
        clear hP HJ hpl HP he
        go_wp2_with fail
        go_round
        case rel => exact ⟨j + 1, by omega, by simp, HJ2⟩
        case measure => simp [intOf]; omega
    · have HF := Lib.hid (findI_none (os := os) (p := p) (fun k hk => HJ.out k (by omega)))
      have HB := Lib.hid hbr
      clear hbr HJ hD hpl
      go_wp2_with fail
      go_ret
      exact ⟨retI HF.out.symm, HB.out⟩
end Go.Proofs.YtahmljjjdoaahaaDoor.Fl

/-
  The document's heap in memory: Used.
-/
namespace Go.Proofs.YtahmljjjdoaahaaDoor.Fl
open Go.RowKit

theorem cells8 {w : World} {g : Nat} {v0 v1 v2 v3 v4 v5 v6 v7 : Value} {T : TypeId} (h : w.heap[g]? = some (.cells #[v0, v1, v2, v3, v4, v5, v6, v7] T (0, 0))) :
    w.cell? ⟨g, 0, none⟩ = some v0 ∧ w.cell? ⟨g, 1, none⟩ = some v1 ∧ w.cell? ⟨g, 2, none⟩ = some v2 ∧ w.cell? ⟨g, 3, none⟩ = some v3 ∧ w.cell? ⟨g, 4, none⟩ = some v4 ∧ w.cell? ⟨g, 5, none⟩ = some v5 ∧ w.cell? ⟨g, 6, none⟩ = some v6 ∧ w.cell? ⟨g, 7, none⟩ = some v7 :=
  ⟨cell_of_row _ _ _ _ _ _ h, cell_of_row _ _ _ _ _ _ h, cell_of_row _ _ _ _ _ _ h, cell_of_row _ _ _ _ _ _ h, cell_of_row _ _ _ _ _ _ h, cell_of_row _ _ _ _ _ _ h, cell_of_row _ _ _ _ _ _ h, cell_of_row _ _ _ _ _ _ h⟩
set_option maxHeartbeats 2000000 in
theorem rused_any {lo B : Nat} {A : Option Addr} {os : List Ob} (size last : Int) (c : Nat) (w : World) (h : DocAt w lo B A os) (hB : B ≤ w.heap.size) (hok : ∀ o ∈ os, o.Ok) (hl : (Lof os).length ≤ 16777216) :
    Calls Tryd.prog 42 #[.agg #[.int .i64 size, .slice A os.length c, .int .u32 last]] w fun e w' => e = .returned (.int .i64 ((Lof os).length : Nat)) ∧ Below w.heap.size w w' := by
  obtain ⟨wr, hwr⟩ : ∃ wr, w.alloc (.cells #[.int .i64 size, .slice A os.length c, .int .u32 last] 31) = wr := ⟨_, rfl⟩
  have B1 : wr.heap[w.heap.size]? = some (.cells #[.int .i64 size, .slice A os.length c, .int .u32 last] 31 (0, 0)) := by rw [← hwr]; exact heap_alloc_new w _
  have hbr : Below w.heap.size w wr := by rw [← hwr]; exact (Below.refl _ _).alloc (Nat.le_refl _) _
  have hD := Lib.hid (h.below (hbr.mono hB))
  have f1 := cells3 B1
  have hHB := Lib.hid hbr
  clear h hbr B1
  rcases Nat.eq_zero_or_pos os.length with h0 | h0
  · have e : os = [] := List.eq_nil_of_length_eq_zero h0
    subst e
    go_enter Tryd.func42, Tryd.ntmps42
    go_wp2_with fail
    go_ret
    exact ⟨rfl, (Below.refl _ _).alloc (Nat.le_refl _) _⟩
  · obtain ⟨m, hm⟩ : ∃ m, os.length = m + 1 := ⟨os.length - 1, by omega⟩
    have hmk : m < os.length := by omega
    obtain ⟨b, off, Aw, cA, Ab, cB, rfl, hb, d0, d1, d2, d3, d4, d5, d6, d7, _⟩ := hD.out.at_ (k := m) hmk
    have hO := hok _ (List.getElem_mem hmk)
    have hs := pos_succ os (k := m) hmk
    rw [← hm, pos_all] at hs
    have hO2 := hO.len
    have hO3 := hO.lt
    have hm16 : m ≤ pos os m := pos_ge os (by omega)
    generalize os[m] = o at *
    have hp : pos os m ≤ 16777216 := by omega
    generalize pos os m = P at *
    have HS := Lib.hid hs
    have hx : o.xs.length ≤ 16777216 := by omega
    have hc := fun w' => rcells_any (o.cl : Int) o.kind o.sz o.hash o.mark w' (by omega) (by omega)
    rw [hO2] at hc
    rw [hm] at f1 hwr ⊢
    clear hs hO hO2 hO3 hok h0 hmk hD
    generalize (Lof os).length = N at *
    generalize o.xs.length = X at *
    have hm2 : m ≤ 16777216 := by omega
    clear hm
    go_enter Tryd.func42, Tryd.ntmps42
    go_wp2_with fail
    obtain ⟨w2, hw2⟩ : ∃ w2, wr.alloc (.cells #[.int .i64 (P : Int), .int .u64 (o.cl : Int), .int .i64 (o.kind : Int), .int .i64 (o.sz : Int), .int .u32 (o.hash : Int), .bool o.mark, .slice Aw o.words.length cA, .slice Ab o.bytes.length cB] 43) = w2 := ⟨_, rfl⟩
    have B2 : w2.heap[wr.heap.size]? = some (.cells #[.int .i64 (P : Int), .int .u64 (o.cl : Int), .int .i64 (o.kind : Int), .int .i64 (o.sz : Int), .int .u32 (o.hash : Int), .bool o.mark, .slice Aw o.words.length cA, .slice Ab o.bytes.length cB] 43 (0, 0)) := by rw [← hw2]; exact heap_alloc_new wr _
    have HB2 := Lib.hid (show Below w.heap.size w w2 by rw [← hw2]; exact hHB.out.alloc hHB.out.size _)
    have l1 : wr.heap.size < w2.heap.size := by rw [← hw2]; simp
    have f2 := cells8 B2
    rw [hw2]
    clear hw2 hwr B2 d0 d1 d2 d3 d4 d5 d6 d7 f1
    generalize wr.heap.size = W1 at *
    have hx1 := fun (x : Grow w2) => x.cell
    refine wp_region_grow (by kernel_rfl) (by kernel_rfl) ?_
    repeat (go_big_quiet_step ((first
      | (go_at_call 40; exact Grow.call _ (hc _)))))
    refine wpQuiet_nil ?_
    intro _ hw'
    obtain ⟨x, rfl⟩ := hw'
    have hbx := Lib.hid (HB2.out.trans (x.below.mono HB2.out.size))
    go_wp2_with fail
    go_ret
    exact ⟨retI (by rw [HS.out]; omega), hbx.out⟩
end Go.Proofs.YtahmljjjdoaahaaDoor.Fl
