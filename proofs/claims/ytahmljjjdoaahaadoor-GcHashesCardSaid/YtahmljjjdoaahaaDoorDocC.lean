/-
  The document's heap in memory: Alloc.
-/
import Derived.Test.YtahmljjjdoaahaaDoorPDoc
import Derived.Test.YtahmljjjdoaahaaDoorPReach
import Derived.Test.YtahmljjjdoaahaaDoorPHeapI
import Derived.Test.YtahmljjjdoaahaaDoorPPut
import Derived.Test.YtahmljjjdoaahaaDoorPMem
import Derived.Deep.RegionLaw
import Derived.Deep.AppendLies
namespace Go.Proofs.YtahmljjjdoaahaaDoor.Fl
open Go.RowKit

section
variable {wr w2 : World} {o : Obj}
theorem kS8 {b : Nat} {v0 v1 v2 v3 v4 v5 v6 v7 : Value} (hb : Below wr.heap.size wr w2) (hl : wr.heap.size ≤ b) : Below wr.heap.size wr ((((((((w2.setCell ⟨b, 0, none⟩ v0).setCell ⟨b, 1, none⟩ v1).setCell ⟨b, 2, none⟩ v2).setCell ⟨b, 3, none⟩ v3).setCell ⟨b, 4, none⟩ v4).setCell ⟨b, 5, none⟩ v5).setCell ⟨b, 6, none⟩ v6).setCell ⟨b, 7, none⟩ v7) :=
  (((((((hb.setCell hl _).setCell hl _).setCell hl _).setCell hl _).setCell hl _).setCell hl _).setCell hl _).setCell hl _
end
theorem alloc3 (w : World) (o0 o1 o2 : Obj) : (((w.alloc o0).alloc o1).alloc o2).heap[w.heap.size]? = some o0 ∧ (((w.alloc o0).alloc o1).alloc o2).heap[w.heap.size + 1]? = some o1 ∧ (((w.alloc o0).alloc o1).alloc o2).heap[w.heap.size + 1 + 1]? = some o2 ∧ (((w.alloc o0).alloc o1).alloc o2).heap.size = w.heap.size + 3 := by
  have e1 : (w.alloc o0).heap.size = w.heap.size + 1 := by simp
  have e2 : ((w.alloc o0).alloc o1).heap.size = w.heap.size + 1 + 1 := by simp
  refine ⟨?_, ?_, ?_, by simp⟩
  · rw [heap_alloc_old _ _ (by omega), heap_alloc_old _ _ (by omega)]; exact heap_alloc_new w _
  · rw [heap_alloc_old _ _ (by omega), ← e1]; exact heap_alloc_new _ _
  · rw [← e2]; exact heap_alloc_new _ _
theorem below3 (w : World) (o0 o1 o2 : Obj) : Below w.heap.size w (((w.alloc o0).alloc o1).alloc o2) := (((Below.refl _ _).alloc (Nat.le_refl _) _).alloc (by simp) _).alloc (by simp; omega) _
theorem cells_after8 {x w' : World} {v0 v1 v2 v3 v4 v5 v6 v7 : Value} {T : TypeId} (hb : Below (x.alloc (.cells #[v0, v1, v2, v3, v4, v5, v6, v7] T)).drew.heap.size (x.alloc (.cells #[v0, v1, v2, v3, v4, v5, v6, v7] T)).drew w') :
    (w'.cell? ⟨x.heap.size, 0, none⟩ = some v0 ∧ w'.cell? ⟨x.heap.size, 1, none⟩ = some v1 ∧ w'.cell? ⟨x.heap.size, 2, none⟩ = some v2 ∧ w'.cell? ⟨x.heap.size, 3, none⟩ = some v3 ∧ w'.cell? ⟨x.heap.size, 4, none⟩ = some v4 ∧ w'.cell? ⟨x.heap.size, 5, none⟩ = some v5 ∧ w'.cell? ⟨x.heap.size, 6, none⟩ = some v6 ∧ w'.cell? ⟨x.heap.size, 7, none⟩ = some v7) ∧ (∀ k, w'.frozen? ⟨x.heap.size, k, none⟩ = false) ∧ w'.heap[x.heap.size]? = some (.cells #[v0, v1, v2, v3, v4, v5, v6, v7] T (0, 0)) := by
  have h : w'.heap[x.heap.size]? = some (.cells #[v0, v1, v2, v3, v4, v5, v6, v7] T (0, 0)) := by rw [hb.block _ (by show x.heap.size < (x.alloc _).heap.size; simp)]; exact heap_alloc_new x _
  exact ⟨cells8 h, fun k => frozen_of_row _ _ _ _ _ h, h⟩
theorem set8 {w : World} {g : Nat} {a0 a1 a2 a3 a4 a5 a6 a7 v0 v1 v2 v3 v4 v5 v6 v7 : Value} {T : TypeId} (h : w.heap[g]? = some (.cells #[a0, a1, a2, a3, a4, a5, a6, a7] T (0, 0))) :
    ((((((((w.setCell ⟨g, 0, none⟩ v0).setCell ⟨g, 1, none⟩ v1).setCell ⟨g, 2, none⟩ v2).setCell ⟨g, 3, none⟩ v3).setCell ⟨g, 4, none⟩ v4).setCell ⟨g, 5, none⟩ v5).setCell ⟨g, 6, none⟩ v6).setCell ⟨g, 7, none⟩ v7).heap[g]? = some (.cells #[v0, v1, v2, v3, v4, v5, v6, v7] T (0, 0)) := by
  have s0 : (w.setCell ⟨g, 0, none⟩ v0).heap[g]? = some (.cells #[v0, a1, a2, a3, a4, a5, a6, a7] T (0, 0)) := heap_setCell_same w g 0 _ _ v0 h
  generalize w.setCell ⟨g, 0, none⟩ v0 = x0 at s0 ⊢
  have s1 : (x0.setCell ⟨g, 1, none⟩ v1).heap[g]? = some (.cells #[v0, v1, a2, a3, a4, a5, a6, a7] T (0, 0)) := heap_setCell_same _ g 1 _ _ v1 s0
  generalize x0.setCell ⟨g, 1, none⟩ v1 = x1 at s1 ⊢
  have s2 : (x1.setCell ⟨g, 2, none⟩ v2).heap[g]? = some (.cells #[v0, v1, v2, a3, a4, a5, a6, a7] T (0, 0)) := heap_setCell_same _ g 2 _ _ v2 s1
  generalize x1.setCell ⟨g, 2, none⟩ v2 = x2 at s2 ⊢
  have s3 : (x2.setCell ⟨g, 3, none⟩ v3).heap[g]? = some (.cells #[v0, v1, v2, v3, a4, a5, a6, a7] T (0, 0)) := heap_setCell_same _ g 3 _ _ v3 s2
  generalize x2.setCell ⟨g, 3, none⟩ v3 = x3 at s3 ⊢
  have s4 : (x3.setCell ⟨g, 4, none⟩ v4).heap[g]? = some (.cells #[v0, v1, v2, v3, v4, a5, a6, a7] T (0, 0)) := heap_setCell_same _ g 4 _ _ v4 s3
  generalize x3.setCell ⟨g, 4, none⟩ v4 = x4 at s4 ⊢
  have s5 : (x4.setCell ⟨g, 5, none⟩ v5).heap[g]? = some (.cells #[v0, v1, v2, v3, v4, v5, a6, a7] T (0, 0)) := heap_setCell_same _ g 5 _ _ v5 s4
  generalize x4.setCell ⟨g, 5, none⟩ v5 = x5 at s5 ⊢
  have s6 : (x5.setCell ⟨g, 6, none⟩ v6).heap[g]? = some (.cells #[v0, v1, v2, v3, v4, v5, v6, a7] T (0, 0)) := heap_setCell_same _ g 6 _ _ v6 s5
  generalize x5.setCell ⟨g, 6, none⟩ v6 = x6 at s6 ⊢
  exact heap_setCell_same _ g 7 _ _ v7 s6
theorem fin8_alloc {wr w2 : World} {cs : Array Value} {T : TypeId} (hb : Below wr.heap.size wr w2) :
    ∃ b : Nat, Value.pointer (some ⟨w2.heap.size, 0, none⟩) = .pointer (some ⟨b, 0, none⟩) ∧ Hid (wr.heap.size ≤ b ∧ (w2.alloc (.cells cs T)).heap[b]? = some (.cells cs T (0, 0))) ∧ Hid (Below wr.heap.size wr (w2.alloc (.cells cs T))) :=
  ⟨_, rfl, Lib.hid ⟨hb.size, heap_alloc_new w2 _⟩, Lib.hid (hb.alloc hb.size _)⟩
theorem fin8_set {wr w2 : World} {a0 a1 a2 a3 a4 a5 a6 a7 v0 v1 v2 v3 v4 v5 v6 v7 : Value} {T : TypeId} (h : w2.heap[wr.heap.size]? = some (.cells #[a0, a1, a2, a3, a4, a5, a6, a7] T (0, 0))) (h0 : Below wr.heap.size wr w2) :
    ∃ b : Nat, Value.pointer (some ⟨wr.heap.size, 0, none⟩) = .pointer (some ⟨b, 0, none⟩) ∧ Hid (wr.heap.size ≤ b ∧ ((((((((w2.setCell ⟨wr.heap.size, 0, none⟩ v0).setCell ⟨wr.heap.size, 1, none⟩ v1).setCell ⟨wr.heap.size, 2, none⟩ v2).setCell ⟨wr.heap.size, 3, none⟩ v3).setCell ⟨wr.heap.size, 4, none⟩ v4).setCell ⟨wr.heap.size, 5, none⟩ v5).setCell ⟨wr.heap.size, 6, none⟩ v6).setCell ⟨wr.heap.size, 7, none⟩ v7).heap[b]? = some (.cells #[v0, v1, v2, v3, v4, v5, v6, v7] T (0, 0))) ∧
      Hid (Below wr.heap.size wr ((((((((w2.setCell ⟨wr.heap.size, 0, none⟩ v0).setCell ⟨wr.heap.size, 1, none⟩ v1).setCell ⟨wr.heap.size, 2, none⟩ v2).setCell ⟨wr.heap.size, 3, none⟩ v3).setCell ⟨wr.heap.size, 4, none⟩ v4).setCell ⟨wr.heap.size, 5, none⟩ v5).setCell ⟨wr.heap.size, 6, none⟩ v6).setCell ⟨wr.heap.size, 7, none⟩ v7)) :=
  ⟨_, rfl, Lib.hid ⟨Nat.le_refl _, set8 h⟩, Lib.hid (kS8 h0 (Nat.le_refl _))⟩
/-- the object that Alloc makes -/
def newOb (cl kind sz n fill : Nat) : Ob := ⟨cl, kind, sz, 0, false, List.replicate n (if kind = 2 then 0 else fill)⟩
theorem newOb_words {cl kind sz n fill : Nat} (hk : kind ≠ 2) (hn : n = sz) : (newOb cl kind sz n fill).words = List.replicate sz fill ∧ (newOb cl kind sz n fill).bytes = [] := by
  subst hn
  unfold newOb Ob.words Ob.bytes
  exact ⟨by simp [hk], by simp [hk]⟩
theorem newOb_raw {cl kind sz n fill : Nat} (hk : kind = 2) : (newOb cl kind sz n fill).words = [] ∧ (newOb cl kind sz n fill).bytes = zb sz := by
  subst hk
  unfold newOb Ob.words Ob.bytes zb
  refine ⟨by simp, ?_⟩
  simp only [if_true]
  apply List.ext_getElem
  · simp
  · intro i h1 h2
    simp only [List.getElem_map, List.getElem_range, List.getElem_replicate, byteN, List.getD_eq_getElem?_getD, List.getElem?_replicate]
    split <;> simp
theorem ownw_at {w w' : World} {base : Nat} {v : Value} {ws : List Nat} (h : OwnW w base v ws) (hk : ∀ (b : Nat) (cur : Array Value), w.heap[b]? = some (Obj.cells cur 37 (0, 0)) → w'.heap[b]? = w.heap[b]?) : OwnW w' base v ws := by
  refine ⟨h.1, ?_⟩
  rcases h.2 with h0 | ⟨g, cap, cur, e, hb, hg, hr⟩
  · exact .inl h0
  · exact .inr ⟨g, cap, cur, e, hb, (hk g cur hg).trans hg, hr⟩
theorem ownsRow_lo {w : World} {base size n b k : Nat} {e : TypeId} {v u : Value} {xs : List Value} (h : w.ownsRow base e size v n xs) (hb : b < base) : (w.setCell ⟨b, k, none⟩ u).ownsRow base e size v n xs := by
  refine ⟨h.1, ?_⟩
  rcases h.2 with h0 | ⟨g, cap, cur, e, hbg, hg, hr⟩
  · exact .inl h0
  · exact .inr ⟨g, cap, cur, e, hbg, (Below.heap_setCell _ _ _ _ (by show g ≠ b; omega)).trans hg, hr⟩
theorem objinfo : (Tryd.prog.info? 43).map (fun i => (i.zero, i.size, i.bytes)) = some (some (.agg #[.int .i64 0, .int .u64 0, .int .i64 0, .int .i64 0, .int .u32 0, .bool false, .slice none 0 0, .slice none 0 0]), 8, 88) := by kernel_rfl
theorem DocV.one {w : World} {lo B p : Nat} {o : Ob} {u : List Value} (h : DocV w lo B p o u) : ∀ v ∈ u, v.oneCell' = true := by
  obtain ⟨_, _, _, _, rfl, _⟩ := h
  intro v hv
  simp only [List.mem_cons, List.not_mem_nil, or_false] at hv
  rcases hv with rfl | rfl | rfl | rfl | rfl | rfl | rfl | rfl <;> rfl
theorem DocVs.one {w : World} {lo B : Nat} {os : List Ob} {us : List (List Value)} (h : DocVs w lo B os us) : ∀ v ∈ us.flatten, v.oneCell' = true := fun v hv => by
  obtain ⟨u, hu, hv⟩ := List.mem_flatten.1 hv
  obtain ⟨k, hk, rfl⟩ := List.mem_iff_getElem.1 hu
  obtain ⟨u', hu', hd⟩ := h.2 k (by rw [← h.1]; exact hk)
  rw [List.getElem?_eq_getElem hk] at hu'
  injection hu' with hu'
  rw [hu'] at hv
  exact hd.one v hv
theorem DocVs.none {w : World} {lo B : Nat} {A : Option Addr} {os : List Ob} {us : List (List Value)} (h : DocVs w lo B os us) (hr : Rd w B A us.flatten) (hA : A = none) : os.length = 0 := by
  have hl := flatten_len 8 us h.eight
  rcases hr with hr | ⟨b, off, e, _⟩
  · rw [hr, h.1] at hl; simp at hl; omega
  · rw [hA] at e; cases e
theorem cell_other (w : World) (a b i j : Nat) (v : Value) (h : a ≠ b) : (w.setCell ⟨a, i, none⟩ v).cell? ⟨b, j, none⟩ = w.cell? ⟨b, j, none⟩ :=
  World.cell?_of_block (Below.heap_setCell _ _ _ _ (fun e => h e.symm))
def RAllocPost (lo : Nat) (size last : Int) (os : List Ob) (o : Ob) (w : World) (e : Ending) (w' : World) : Prop := ∃ A' c', e = .returned (.tuple #[.agg #[.int .i64 size, .slice A' (os.length + 1) c', .int .u32 last], .int .u64 ((Lof os).length * 2 : Nat), .int .i64 0]) ∧ DocAt w' lo w'.heap.size A' (os ++ [o]) ∧ Below w.heap.size w w'
theorem ownsRow_rd {w : World} {base size n c : Nat} {e : TypeId} {A : Option Addr} {xs : List Value} (h : w.ownsRow base e size (.slice A n c) n xs) : Rd w w.heap.size A xs := by
  have hl := h.1
  rcases h.2 with ⟨_, e2⟩ | ⟨g, cap, cur, e1, hb, hg, _, _, _, ht⟩
  · subst e2; rw [Nat.zero_mul] at hl; exact .inl (List.eq_nil_of_length_eq_zero hl)
  · injection e1 with e1 _ _
    subst e1
    refine .inr ⟨g, 0, rfl, lt_of_block hg, fun j v hj => ?_⟩
    have hjl : j < xs.length := by
      rcases Nat.lt_or_ge j xs.length with h | h
      · exact h
      · rw [List.getElem?_eq_none h] at hj; cases hj
    rw [Nat.zero_add, cell_of_row _ g j _ _ _ hg, ← hj, ← ht, List.getElem?_take, if_pos (by omega)]
    simp
theorem ownsRow_rt {w : World} {base size n c : Nat} {e : TypeId} {A : Option Addr} {xs : List Value} (h : w.ownsRow base e size (.slice A n c) n xs) : Rt w base w.heap.size e A xs := by
  rcases ownsRow_rd h with h0 | ⟨b, off, e1, hb, hc⟩
  · exact .inl h0
  · rcases h.2 with ⟨e2, _⟩ | ⟨g, cap, cur, e2, hbg, hg, _⟩
    · injection e2 with e2 _ _; rw [e2] at e1; cases e1
    · injection e2 with e2 _ _
      rw [e2] at e1
      injection e1 with e1
      injection e1 with e1 e3 _
      subst e1 e3
      exact .inr ⟨g, 0, e2, hbg, hb, ⟨cur, hg⟩, hc⟩
theorem rd_box {w : World} {B S k : Nat} {A : Option Addr} {vs : List Value} {u v0 v1 v2 : Value} {T : TypeId} (h : Rd w B A vs) (hb : w.heap[S]? = some (.cells #[v0, v1, v2] T (0, 0))) (hne : ∀ v ∈ vs, v ≠ v0 ∧ v ≠ v1 ∧ v ≠ v2) : Rd (w.setCell ⟨S, k, none⟩ u) B A vs := by
  rcases h with h | ⟨b, off, e, hB, hc⟩
  · exact .inl h
  · refine .inr ⟨b, off, e, hB, fun j v hj => ?_⟩
    have h1 := hc j v hj
    have hS : S ≠ b := by
      rintro rfl
      rw [cell_of_row _ S _ _ _ _ hb] at h1
      have hm := hne v (List.mem_of_getElem? hj)
      match off + j, h1 with
      | 0, h1 => simp at h1; exact hm.1 h1.symm
      | 1, h1 => simp at h1; exact hm.2.1 h1.symm
      | 2, h1 => simp at h1; exact hm.2.2 h1.symm
      | n + 3, h1 => simp at h1
    rw [cell_other _ _ _ _ _ _ hS]; exact h1
theorem rt_box {w : World} {lo B S k : Nat} {T' : TypeId} {A : Option Addr} {vs : List Value} {u v0 v1 v2 : Value} {T : TypeId} (h : Rt w lo B T' A vs) (hb : w.heap[S]? = some (.cells #[v0, v1, v2] T (0, 0))) (hne : ∀ v ∈ vs, v ≠ v0 ∧ v ≠ v1 ∧ v ≠ v2) : Rt (w.setCell ⟨S, k, none⟩ u) lo B T' A vs := by
  rcases h with h | ⟨b, off, e, hl, hB, ⟨cur, hcur⟩, hc⟩
  · exact .inl h
  · by_cases hv : vs = []
    · exact .inl hv
    · have hS : S ≠ b := by
        rintro rfl
        obtain ⟨v, hv⟩ : ∃ v, vs[0]? = some v := by
          cases vs with
          | nil => exact absurd rfl hv
          | cons a t => exact ⟨a, rfl⟩
        have h1 := hc 0 v hv
        rw [cell_of_row _ S _ _ _ _ hb] at h1
        have hm := hne v (List.mem_of_getElem? hv)
        match off + 0, h1 with
        | 0, h1 => simp at h1; exact hm.1 h1.symm
        | 1, h1 => simp at h1; exact hm.2.1 h1.symm
        | 2, h1 => simp at h1; exact hm.2.2 h1.symm
        | n + 3, h1 => simp at h1
      exact .inr ⟨b, off, e, hl, hB, ⟨cur, (Below.heap_setCell _ _ _ _ (fun e => hS e.symm)).trans hcur⟩, fun j v hj => by rw [cell_other _ _ _ _ _ _ hS]; exact hc j v hj⟩
theorem cw_ne {ws : List Nat} {v0 v1 v2 : Value} (h : ∀ x : Nat, Value.int .u64 (x : Int) ≠ v0 ∧ Value.int .u64 (x : Int) ≠ v1 ∧ Value.int .u64 (x : Int) ≠ v2) : ∀ v ∈ cw ws, v ≠ v0 ∧ v ≠ v1 ∧ v ≠ v2 := by
  intro v hv
  obtain ⟨x, _, rfl⟩ := List.mem_map.1 hv
  exact h x
theorem cb_ne {ws : List UInt8} {v0 v1 v2 : Value} (h : ∀ x : Nat, Value.int .u8 (x : Int) ≠ v0 ∧ Value.int .u8 (x : Int) ≠ v1 ∧ Value.int .u8 (x : Int) ≠ v2) : ∀ v ∈ cb ws, v ≠ v0 ∧ v ≠ v1 ∧ v ≠ v2 := by
  intro v hv
  obtain ⟨x, _, rfl⟩ := List.mem_map.1 hv
  exact h x.toNat
/-- memory behind the two appends -/
structure Fin15 (lo : Nat) (w wx : World) (S0 S1 b size last N : Nat) (os : List Ob) (o : Ob) (A2 : Option Addr) (c2 : Nat) : Prop where
  p0 : wx.heap[S0]? = some (.cells #[.int .i64 (size : Int), .slice A2 (os.length + 1) c2, .int .u32 (last : Int)] 31 (0, 0))
  p1 : wx.heap[S1]? = some (.cells #[.int .i64 0, .slice none 0 0, .int .u32 0] 31 (0, 0))
  pb : wx.cell? ⟨b, 0, none⟩ = some (.int .i64 (N : Int))
  doc : DocAt (((wx.setCell ⟨S1, 0, none⟩ (.int .i64 (size : Int))).setCell ⟨S1, 1, none⟩ (.slice A2 (os.length + 1) c2)).setCell ⟨S1, 2, none⟩ (.int .u32 (last : Int))) lo wx.heap.size A2 (os ++ [o])
  below : Below S0 w wx
theorem fin15 {w wc w3 : World} {lo S0 S1 b size last N c cA cB c2 B : Nat} {os : List Ob} {o : Ob} {A A2 Aw Ab : Option Addr} {us : List (List Value)} (hB : B ≤ S0) (hS : S0 ≤ S1) (h1 : S1 ≠ S0) (h2 : S0 ≠ b)
    (p0 : wc.heap[S0]? = some (.cells #[.int .i64 (size : Int), .slice A os.length c, .int .u32 (last : Int)] 31 (0, 0)))
    (p1 : wc.heap[S1]? = some (.cells #[.int .i64 0, .slice none 0 0, .int .u32 0] 31 (0, 0)))
    (pb : wc.heap[b]? = some (.cells #[.int .i64 (N : Int), .int .u64 (o.cl : Int), .int .i64 (o.kind : Int), .int .i64 (o.sz : Int), .int .u32 (o.hash : Int), .bool o.mark, .slice Aw o.words.length cA, .slice Ab o.bytes.length cB] 43 (0, 0)))
    (hw : Rt wc lo wc.heap.size 37 Aw (cw o.words)) (hb : Rt wc lo wc.heap.size 5 Ab (cb o.bytes)) (hlo : lo ≤ wc.heap.size) (hN : (Lof os).length = N) (hus : DocVs wc lo B os us) (hbw : Below S0 w wc) (hk : Below wc.heap.size wc w3)
    (ho : w3.ownsRow wc.heap.size 43 8 (.slice A2 (os.length + 1) c2) (os.length + 1) (us.flatten ++ [.int .i64 (N : Int), .int .u64 (o.cl : Int), .int .i64 (o.kind : Int), .int .i64 (o.sz : Int), .int .u32 (o.hash : Int), .bool o.mark, .slice Aw o.words.length cA, .slice Ab o.bytes.length cB])) :
    Fin15 lo w (w3.setCell ⟨S0, 1, none⟩ (.slice A2 (os.length + 1) c2)) S0 S1 b size last N os o A2 c2 := by
  have l0 := lt_of_block p0
  have l1 := lt_of_block p1
  have lb := lt_of_block pb
  have q0 := (hk.block S0 l0).trans p0
  have hsz : (w3.setCell ⟨S0, 1, none⟩ (.slice A2 (os.length + 1) c2)).heap.size = w3.heap.size := by simp [World.setCell]
  have hBk : Below B wc (w3.setCell ⟨S0, 1, none⟩ (.slice A2 (os.length + 1) c2)) := (hk.mono (by omega)).setCell (by show B ≤ S0; omega) _
  have hs3 := hk.size
  refine ⟨heap_setCell_same _ S0 1 _ _ _ q0, (Below.heap_setCell _ _ _ _ h1).trans ((hk.block S1 l1).trans p1), ?_, ?_, (hbw.trans (hk.mono (by omega))).setCell (Nat.le_refl _) _⟩
  · rw [cell_other _ _ _ _ _ _ h2, hk.cell (p := ⟨b, 0, none⟩) lb]; exact cell_of_row _ _ _ _ _ _ pb
  · obtain ⟨W1, hW1⟩ : ∃ W1, w3.setCell ⟨S0, 1, none⟩ (.slice A2 (os.length + 1) c2) = W1 := ⟨_, rfl⟩
    rw [hW1] at hsz hBk ⊢
    have r1 : W1.heap[S1]? = some (.cells #[.int .i64 0, .slice none 0 0, .int .u32 0] 31 (0, 0)) := by rw [← hW1]; exact (Below.heap_setCell _ _ _ _ h1).trans ((hk.block S1 l1).trans p1)
    have r2 : (W1.setCell ⟨S1, 0, none⟩ (.int .i64 (size : Int))).heap[S1]? = some (.cells #[.int .i64 (size : Int), .slice none 0 0, .int .u32 0] 31 (0, 0)) := heap_setCell_same _ S1 0 _ _ _ r1
    have r3 : ((W1.setCell ⟨S1, 0, none⟩ (.int .i64 (size : Int))).setCell ⟨S1, 1, none⟩ (.slice A2 (os.length + 1) c2)).heap[S1]? = some (.cells #[.int .i64 (size : Int), .slice A2 (os.length + 1) c2, .int .u32 0] 31 (0, 0)) := heap_setCell_same _ S1 1 _ _ _ r2
    have hBk4 : Below B wc (((W1.setCell ⟨S1, 0, none⟩ (.int .i64 (size : Int))).setCell ⟨S1, 1, none⟩ (.slice A2 (os.length + 1) c2)).setCell ⟨S1, 2, none⟩ (.int .u32 (last : Int))) := ((hBk.setCell (by show B ≤ S1; omega) _).setCell (by show B ≤ S1; omega) _).setCell (by show B ≤ S1; omega) _
    have rw4 : Rt (((W1.setCell ⟨S1, 0, none⟩ (.int .i64 (size : Int))).setCell ⟨S1, 1, none⟩ (.slice A2 (os.length + 1) c2)).setCell ⟨S1, 2, none⟩ (.int .u32 (last : Int))) lo W1.heap.size 37 Aw (cw o.words) := by
      refine rt_box (rt_box (rt_box ?_ r1 (cw_ne (fun x => ⟨by simp, by simp, by simp⟩))) r2 (cw_ne (fun x => ⟨by simp, by simp, by simp⟩))) r3 (cw_ne (fun x => ⟨by simp, by simp, by simp⟩))
      rw [← hW1]
      exact rt_box ((hw.below hk).more (by simp [World.setCell]; exact hs3)) q0 (cw_ne (fun x => ⟨by simp, by simp, by simp⟩))
    have rb4 : Rt (((W1.setCell ⟨S1, 0, none⟩ (.int .i64 (size : Int))).setCell ⟨S1, 1, none⟩ (.slice A2 (os.length + 1) c2)).setCell ⟨S1, 2, none⟩ (.int .u32 (last : Int))) lo W1.heap.size 5 Ab (cb o.bytes) := by
      refine rt_box (rt_box (rt_box ?_ r1 (cb_ne (fun x => ⟨by simp, by simp, by simp⟩))) r2 (cb_ne (fun x => ⟨by simp, by simp, by simp⟩))) r3 (cb_ne (fun x => ⟨by simp, by simp, by simp⟩))
      rw [← hW1]
      exact rt_box ((hb.below hk).more (by simp [World.setCell]; exact hs3)) q0 (cb_ne (fun x => ⟨by simp, by simp, by simp⟩))
    have ro4 : (((W1.setCell ⟨S1, 0, none⟩ (.int .i64 (size : Int))).setCell ⟨S1, 1, none⟩ (.slice A2 (os.length + 1) c2)).setCell ⟨S1, 2, none⟩ (.int .u32 (last : Int))).ownsRow wc.heap.size 43 8 (.slice A2 (os.length + 1) c2) (os.length + 1) (us.flatten ++ [.int .i64 (N : Int), .int .u64 (o.cl : Int), .int .i64 (o.kind : Int), .int .i64 (o.sz : Int), .int .u32 (o.hash : Int), .bool o.mark, .slice Aw o.words.length cA, .slice Ab o.bytes.length cB]) :=
      ownsRow_lo (ownsRow_lo (ownsRow_lo (by rw [← hW1]; exact ownsRow_lo ho (by omega)) l1) l1) l1
    have hsz4 : (((W1.setCell ⟨S1, 0, none⟩ (.int .i64 (size : Int))).setCell ⟨S1, 1, none⟩ (.slice A2 (os.length + 1) c2)).setCell ⟨S1, 2, none⟩ (.int .u32 (last : Int))).heap.size = W1.heap.size := by simp [World.setCell]
    generalize (((W1.setCell ⟨S1, 0, none⟩ (.int .i64 (size : Int))).setCell ⟨S1, 1, none⟩ (.slice A2 (os.length + 1) c2)).setCell ⟨S1, 2, none⟩ (.int .u32 (last : Int))) = W4 at *
    refine ⟨us ++ [[.int .i64 (N : Int), .int .u64 (o.cl : Int), .int .i64 (o.kind : Int), .int .i64 (o.sz : Int), .int .u32 (o.hash : Int), .bool o.mark, .slice Aw o.words.length cA, .slice Ab o.bytes.length cB]], ⟨by simp [hus.1], fun k hk' => ?_⟩, ?_⟩
    · rw [List.length_append, List.length_singleton] at hk'
      by_cases e : k = os.length
      · subst e
        refine ⟨[.int .i64 (N : Int), .int .u64 (o.cl : Int), .int .i64 (o.kind : Int), .int .i64 (o.sz : Int), .int .u32 (o.hash : Int), .bool o.mark, .slice Aw o.words.length cA, .slice Ab o.bytes.length cB], by rw [List.getElem?_append_right (by rw [hus.1]; exact Nat.le_refl _), hus.1, Nat.sub_self]; rfl, ?_⟩
        rw [pos_append os [o] (Nat.le_refl _), pos_all, hN]
        have e2 : (os ++ [o])[os.length] = o := by simp
        rw [e2]
        exact ⟨Aw, cA, Ab, cB, rfl, rw4, rb4⟩
      · have hk2 : k < os.length := by omega
        obtain ⟨u, hu, hd⟩ := hus.2 k hk2
        refine ⟨u, by rw [List.getElem?_append_left (by rw [hus.1]; exact hk2)]; exact hu, ?_⟩
        rw [pos_append os [o] (by omega), List.getElem_append_left hk2]
        exact hd.keep hBk4 (by omega)
    · rw [List.flatten_append]
      have := (ownsRow_rt ro4).less hlo
      rw [hsz4] at this
      simpa using this
set_option maxRecDepth 100000 in
set_option maxHeartbeats 4000000 in
theorem ralloc_fit {lo B : Nat} {A : Option Addr} {os : List Ob} (size last c cl kind sz n fill : Nat) (w : World) (h : DocAt w lo B A os) (hB : B ≤ w.heap.size) (hlo : lo ≤ w.heap.size) (hok : ∀ o ∈ os, o.Ok) (hE : hErr cl kind sz 0 = 0) (hcl : cl < 18446744073709551616) (hn : cellsI cl kind sz 0 = (n : Int))
    (hfit : (Lof os).length + n + 2 ≤ size) (hsz : size ≤ 16777216) (hs9 : sz ≤ 200000) (hf : fill < 18446744073709551616) :
    Calls Tryd.prog 18 #[.agg #[.int .i64 (size : Int), .slice A os.length c, .int .u32 (last : Int)], .int .u64 (cl : Int), .int .i64 (kind : Int), .int .i64 (sz : Int), .int .u64 (fill : Int)] w (RAllocPost lo size last os (newOb cl kind sz n fill) w) := by
  have hp := fun (w' : World) => rpack_any (cl : Int) kind sz 0 false w' (by omega) (by omega)
  have hc := fun (w' : World) => rcells_any (cl : Int) kind sz 0 false w' (by omega) (by omega)
  have hu := fun (w' : World) (hw' : DocAt w' lo B A os) (hb : B ≤ w'.heap.size) => rused_any (size : Int) last c w' hw' hb hok (by omega)
  rw [hn] at hc
  rw [hE] at hp
  have HD := Lib.hid h
  have hN : (Lof os).length ≤ 16777216 := by omega
  have HE := Lib.hid hE
  have HN := Lib.hid hn
  have HF := Lib.hid hf
  have HCl := Lib.hid hcl
  have HOk := Lib.hid hok
  have hk2 : kind ≤ 2 := by have := (hErr_ok hE).2.2.2; omega
  clear h hE hn hf hcl hok
  generalize hW : pkC (cl : Int) kind sz 0 = PC at hp
  generalize hW2 : pkW (cl : Int) kind sz 0 false = PW at hp
  clear hW hW2
  go_enter Tryd.func18, Tryd.ntmps18
  go_wp2_with fail
  refine (hp _).mono ?_
  rintro e w1 ⟨rfl, hb1⟩
  obtain ⟨p0, p1, p2, p3⟩ := alloc3 w (.cells #[.int .i64 (size : Int), .slice A os.length c, .int .u32 (last : Int)] 31) (.cells #[.int .i64 0, .slice none 0 0, .int .u32 0] 31) (.cells #[.int .u64 (cl : Int), .int .i64 (kind : Int), .int .i64 (sz : Int), .int .u32 0, .bool false] 40)
  have hbw := (below3 w (.cells #[.int .i64 (size : Int), .slice A os.length c, .int .u32 (last : Int)] 31) (.cells #[.int .i64 0, .slice none 0 0, .int .u32 0] 31) (.cells #[.int .u64 (cl : Int), .int .i64 (kind : Int), .int .i64 (sz : Int), .int .u32 0, .bool false] 40))
  have HD1 := Lib.hid ((HD.out.below (hbw.mono hB)).below (hb1.mono (by omega)))
  have HB1 := Lib.hid (hbw.trans (hb1.mono (by omega)))
  rw [← hb1.block _ (by omega)] at p0 p1 p2
  have sz1 := hb1.size
  rw [p3] at sz1
  clear p3 hbw hb1 HD hp
  obtain ⟨S0, hS0⟩ : ∃ S0, w.heap.size = S0 := ⟨_, rfl⟩
  rw [hS0] at p0 p1 p2 sz1 hB hlo HB1 ⊢
  have HS0 := Lib.hid hS0
  clear hS0
  have l2 : S0 + 1 + 1 < w1.heap.size := by omega
  generalize hS2 : S0 + 1 + 1 = S2 at *
  generalize hS1 : S0 + 1 = S1 at *
  have l1 : S1 < w1.heap.size := by omega
  have l0 : S0 < w1.heap.size := by omega
  have m1 : S0 ≤ S1 := by omega
  have m2 : S0 ≤ S2 := by omega
  have n1 : S1 ≠ S0 := by omega
  have n2 : S2 ≠ S0 := by omega
  have n3 : S2 ≠ S1 := by omega
  have HNe := Lib.hid n1
  clear hS1 hS2 sz1 n1 n2 n3
  have f0 := cells3 p0
  have f2 := cells5 p2
  go_wp2_with fail
  refine (hc _).mono ?_
  rintro e w3 ⟨rfl, hb3⟩
  have hb3' : Below w1.heap.size w1 w3 := ((Below.refl w1.heap.size w1).alloc (Nat.le_refl _) (.cells #[.int .u64 PC, .int .u64 PW] 100)).trans (hb3.mono (by simp))
  have sz3 := hb3'.size
  have HD3 := Lib.hid (HD1.out.below (hb3'.mono (by omega)))
  have HB3 := Lib.hid (HB1.out.trans (hb3'.mono (by omega)))
  rw [← hb3'.block _ l0] at p0
  rw [← hb3'.block _ l1] at p1
  rw [← hb3'.block _ l2] at p2
  have k0 : S0 < w3.heap.size := by omega
  have k1 : S1 < w3.heap.size := by omega
  have k2 : S2 < w3.heap.size := by omega
  clear hb3 hb3' sz3 HD1 HB1 hc f0 f2 l0 l1 l2
  generalize w1.heap.size = E1
  have f0 := cells3 p0
  have f2 := cells5 p2
  go_wp2_with fail
  have hu3 := fun (x : Grow w3) => hu x.w (HD3.out.below (x.below.mono (by omega))) (by have := x.size; omega)
  have hx3 := fun (x : Grow w3) => x.cell
  have hnN : n + 2 ≤ size - (Lof os).length := by omega
  have HU := Lib.hid hu
  clear hu
  generalize hLN : (Lof os).length = N at *
  have HLN := Lib.hid hLN
  clear hLN
  refine wp_region_grow (by kernel_rfl) (by kernel_rfl) ?_
  repeat (go_big_quiet_step ((first
    | (go_at_call 42; exact Grow.call _ (hu3 _)))))
  refine wpQuiet_nil ?_
  intro _ hw'
  obtain ⟨x, rfl⟩ := hw'
  clear hu3 hx3
  have hxb := x.below
  have hxs := x.size
  have HD4 := Lib.hid (HD3.out.below (hxb.mono (by omega)))
  have HB4 := Lib.hid (HB3.out.trans (hxb.mono (by omega)))
  rw [← hxb.block _ k0] at p0
  rw [← hxb.block _ k1] at p1
  rw [← hxb.block _ k2] at p2
  have l0 : S0 < x.w.heap.size := by omega
  have l1 : S1 < x.w.heap.size := by omega
  have l2 : S2 < x.w.heap.size := by omega
  clear f0 f2 hxb hxs k0 k1 k2 HD3 HB3
  generalize x.w = w4 at *
  clear x w3
  have f0 := cells3 p0
  have f2 := cells5 p2
  go_upto_region 8 with fail
  go_cut [17] (fun v wx => ∃ b : Nat, v = .pointer (some ⟨b, 0, none⟩) ∧ Hid (w4.heap.size ≤ b ∧ wx.heap[b]? = some (.cells #[.int .i64 (N : Int), .int .u64 (cl : Int), .int .i64 (kind : Int), .int .i64 (sz : Int), .int .u32 0, .bool false, .slice none 0 0, .slice none 0 0] 43 (0, 0))) ∧ Hid (Below w4.heap.size w4 wx))
  case first =>
    have hu4 := fun (w' : World) (hb : Below w4.heap.size w4 w') => HU.out w' (HD4.out.below (hb.mono (by omega))) (by have := hb.size; omega)
    have sx : ∀ w' : World, Below w4.heap.size w4 w' → (w'.cell? ⟨S0, 0, none⟩ = some (.int .i64 (size : Int)) ∧ w'.cell? ⟨S0, 1, none⟩ = some (.slice A os.length c) ∧ w'.cell? ⟨S0, 2, none⟩ = some (.int .u32 (last : Int)) ∧ w'.cell? ⟨S2, 0, none⟩ = some (.int .u64 (cl : Int)) ∧ w'.cell? ⟨S2, 1, none⟩ = some (.int .i64 (kind : Int)) ∧ w'.cell? ⟨S2, 2, none⟩ = some (.int .i64 (sz : Int)) ∧ w'.cell? ⟨S2, 3, none⟩ = some (.int .u32 0) ∧ w'.cell? ⟨S2, 4, none⟩ = some (.bool false)) := fun w' hb =>
      ⟨(hb.cell (p := ⟨S0, 0, none⟩) l0).trans f0.1, (hb.cell (p := ⟨S0, 1, none⟩) l0).trans f0.2.1, (hb.cell (p := ⟨S0, 2, none⟩) l0).trans f0.2.2.1, (hb.cell (p := ⟨S2, 0, none⟩) l2).trans f2.1, (hb.cell (p := ⟨S2, 1, none⟩) l2).trans f2.2.1, (hb.cell (p := ⟨S2, 2, none⟩) l2).trans f2.2.2.1, (hb.cell (p := ⟨S2, 3, none⟩) l2).trans f2.2.2.2.1, (hb.cell (p := ⟨S2, 4, none⟩) l2).trans f2.2.2.2.2⟩
    have HSx := Lib.hid sx
    clear sx
    go_wp2_with fail
    go_region_held3 (fun w' : World => w'.cell? ⟨S0, 0, none⟩ = some (.int .i64 (size : Int)) ∧ w'.cell? ⟨S0, 1, none⟩ = some (.slice A os.length c) ∧ w'.cell? ⟨S0, 2, none⟩ = some (.int .u32 (last : Int)) ∧ w'.cell? ⟨S2, 0, none⟩ = some (.int .u64 (cl : Int)) ∧ w'.cell? ⟨S2, 1, none⟩ = some (.int .i64 (kind : Int)) ∧ w'.cell? ⟨S2, 2, none⟩ = some (.int .i64 (sz : Int)) ∧ w'.cell? ⟨S2, 3, none⟩ = some (.int .u32 0) ∧ w'.cell? ⟨S2, 4, none⟩ = some (.bool false))
      (first
        | with_reducible exact HSx.out _ (kS8 hbk (Nat.le_refl _))
        | with_reducible exact HSx.out _ (kA hbk)
        | with_reducible exact HSx.out _ hbk
        | with_reducible exact HSx.out _ k1
        | with_reducible exact HSx.out _ k2
        | with_reducible exact HSx.out _ k2')
      (first
        | (go_at_call 42; (refine (hu4 _ ?_).mono ?_); (first | with_reducible exact k1 | with_reducible exact k2 | with_reducible exact k2'); rintro e w5 ⟨rfl, hb5⟩; (first | (have hbk := k3' hb5; have hq := cells_after8 hb5; obtain ⟨hq1, hq2, hq3⟩ := hq; have hq4 := lt_of_block hq3; have HQ3 := Lib.hid hq3; clear hq3 hq4 hb5) | (have hbk := k3 hb5; clear hb5)); clear hu4 f0 f2 p0 p1 p2))
    all_goals (rename_i hK hH; clear hH; refine hK _ _ ?_; clear hK)
    all_goals go_meet
    · exact fin8_alloc hbk
    · exact fin8_set HQ3.out hbk
  case rest =>
    obtain ⟨b, rfl, HBb, HX⟩ := hcut
    have hxb := HX.out
    have hxs := hxb.size
    have HD5 := Lib.hid (HD4.out.below (hxb.mono (by omega)))
    have HB5 := Lib.hid (HB4.out.trans (hxb.mono (by omega)))
    rw [← hxb.block _ l0] at p0
    rw [← hxb.block _ l1] at p1
    have hbb := HBb.out.2
    have hbl := lt_of_block hbb
    have hb0 : S0 < b := by have := HBb.out.1; omega
    have hbS1 : S1 < b := by have := HBb.out.1; omega
    clear hxb HX HBb HD4 HB4 f0 f2 p2 l2 m2 HU hfit hnN
    generalize hw4 : w4.heap.size = E4 at *
    clear hw4 w4
    have f0 := cells3 p0
    have fb := cells8 hbb
    have fbf := fun k => frozen_of_row _ b k _ _ hbb
    obtain ⟨o, ho⟩ : ∃ o, newOb cl kind sz n fill = o := ⟨_, rfl⟩
    have hnsz : kind ≠ 2 → n = sz := fun hk => by
      have h1 := HN.out
      unfold cellsI at h1
      rw [if_pos HE.out, if_neg (by omega)] at h1
      omega
    have HNs := Lib.hid hnsz
    have HO := Lib.hid ho
    clear hnsz
    clear ho
    go_upto_if 48 with fail
    go_cut [18] (fun v wx => ∃ Aw cA Ab cB, Hid (wx.heap[b]? = some (.cells #[.int .i64 (N : Int), .int .u64 (cl : Int), .int .i64 (kind : Int), .int .i64 (sz : Int), .int .u32 0, .bool false, .slice Aw o.words.length cA, .slice Ab o.bytes.length cB] 43 (0, 0)) ∧ Rt wx lo wx.heap.size 37 Aw (cw o.words) ∧ Rt wx lo wx.heap.size 5 Ab (cb o.bytes)) ∧ Hid (Below b wc wx))
    case first =>
      by_cases hk : kind = 2
      · have hk2' : ((kind : Int) == 2) = true := by simp; omega
        rw [hk2']
        clear hk2'
        obtain ⟨e1, e2⟩ := newOb_raw (cl := cl) (sz := sz) (n := n) (fill := fill) hk
        rw [HO.out] at e1 e2
        have E1' := Lib.hid e1
        have E2' := Lib.hid e2
        clear e1 e2 hk
        have HBB := Lib.hid (And.intro hbl hbb)
        clear hbb fb fbf p0 p1 f0
        go_wp2_with (at_make; refine wpList_make_bytesN _ rfl _ _ rfl sz rfl rfl (by omega) ?_; intro w3 HG hb3 hs3; have B3 := (hb3.block b HBB.out.1).trans HBB.out.2; have f3 := cells8 B3; have ff3 := fun k => frozen_of_row _ b k _ _ B3; have HBb := Lib.hid (And.intro B3 hb3); clear B3 hb3 hs3)
        go_meet
        refine ⟨none, 0, some ⟨wc.heap.size, 0, none⟩, sz, Lib.hid ⟨?_, ?_, ?_⟩, Lib.hid ?_⟩
        · rw [E1'.out, E2'.out, show (zb sz).length = sz by simp [zb]]; exact heap_setCell_same _ b 7 _ _ _ HBb.out.1
        · rw [E1'.out]; exact Rt.nil _ _ _ _ _
        · rw [E2'.out]
          have h7 : Own (w3.setCell ⟨b, 7, none⟩ (.slice (some ⟨wc.heap.size, 0, none⟩) sz sz)) wc.heap.size (.slice (some ⟨wc.heap.size, 0, none⟩) sz sz) (zb sz) := ownsRow_lo HG.out hbl
          unfold Own at h7
          rw [show (zb sz).length = sz by simp [zb]] at h7
          exact (ownsRow_rt h7).less (by omega)
        · exact (HBb.out.2.mono (Nat.le_of_lt hbl)).setCell (p := ⟨b, 7, none⟩) (Nat.le_refl _) _
      · have hk2' : ((kind : Int) == 2) = false := by simp; omega
        rw [hk2']
        clear hk2'
        have hn2 := HNs.out hk
        obtain ⟨e1, e2⟩ := newOb_words (cl := cl) (fill := fill) hk hn2
        rw [HO.out] at e1 e2
        have E1' := Lib.hid e1
        have E2' := Lib.hid e2
        clear e1 e2 hk
        have HN2 := Lib.hid hn2
        have HW0 := Lib.hid (show OwnW wc wc.heap.size (.slice none 0 0) (List.replicate 0 fill) from World.ownsRow_nil _ _ _ _)
        clear hn2
        go_wp2_with fail
        have HF0 := HF.out
        go_loopw [18] (fun v wr => ∃ (j : Nat) (Aj : Option Addr) (cj : Nat), j ≤ sz ∧ v = .int .i64 j ∧ Hid (wr.heap[b]? = some (.cells #[.int .i64 (N : Int), .int .u64 (cl : Int), .int .i64 (kind : Int), .int .i64 (sz : Int), .int .u32 0, .bool false, .slice Aj j cj, .slice none 0 0] 43 (0, 0))) ∧ Hid (OwnW wr wc.heap.size (.slice Aj j cj) (List.replicate j fill)) ∧ Hid (Below b wc wr)) (fun v _ => sz - (intOf v).toNat)
        case atStart => exact ⟨0, none, 0, Nat.zero_le _, rfl, Lib.hid hbb, HW0, Lib.hid (Below.refl _ _)⟩
        case round =>
          obtain ⟨j, Aj, cj, hj, rfl, HRb, HRo, HRw⟩ := hrel
          have B3 := HRb.out
          have f3 := cells8 B3
          have ff3 := fun k => frozen_of_row _ b k _ _ B3
          have hl3 := lt_of_block B3
          clear B3 HW0 hbb fb fbf p0 p1 f0
          by_cases hlt : j < sz
          · obtain ⟨i0, hi0, hz0, hz1, hz2⟩ := info_parts u64info
            have hws := HRw.out.size
            go_wp2_with (at_builtin; refine wpList_append_own _ rfl _ _ 23 rfl wc.heap.size 37 i0 (.int .u64 0) 1 8 Tryd.underlying23 hi0 hz0 hz1 hz2 rfl (by decide) _ _ _ rfl (World.ownsRow.alloc HRo.out _) ⟨wr.heap.size, 0, none⟩ 1 1 [.int .u64 (fill : Int)] rfl rfl ?c1 ?c2 ?c3 ?c4 ?c5 ?_)
            case c1 => exact lone_cell wr _ _
            case c2 => intro u hu; simp at hu; subst hu; rfl
            case c3 => rw [List.length_replicate]; unfold maxLen; omega
            case c4 => rw [List.length_replicate]; omega
            case c5 => simp; omega
            intro v' w3 hown hgrow _
            obtain ⟨gv, cv, rfl⟩ : ∃ gv cv, v' = .slice (some ⟨gv, 0, none⟩) (j + 1) cv := by
              rcases hown.2 with ⟨_, e⟩ | ⟨g', cap', cur, e, _⟩
              · omega
              · exact ⟨g', cap', e⟩
            have hb3 : Below wr.heap.size wr (wr.alloc (.cells #[.int .u64 (fill : Int)] 37)) := (Below.refl _ _).alloc (Nat.le_refl _) _
            have hB3 : Below wc.heap.size wr w3 := ((Below.refl wr.heap.size wr).alloc (Nat.le_refl _) (.cells #[.int .u64 (fill : Int)] 37)).mono hws |>.grown hgrow (by simp; omega) (fun k hk => OwnW.lt HRo.out k hk)
            have q3 : w3.heap[b]? = _ := (hB3.block b hbl).trans HRb.out
            have g3 := cells8 q3
            have gf3 := fun k => frozen_of_row _ b k _ _ q3
            have HO3 := Lib.hid (show OwnW w3 wc.heap.size (.slice (some ⟨gv, 0, none⟩) (j + 1) cv) (List.replicate (j + 1) fill) by
              unfold OwnW
              rw [List.length_replicate, List.replicate_succ', show cw (List.replicate j fill ++ [fill]) = cw (List.replicate j fill) ++ [.int .u64 (fill : Int)] by simp [cw]]
              exact hown)
            have HB3 := Lib.hid (And.intro q3 (HRw.out.trans (hB3.mono (Nat.le_of_lt hbl))))
            clear hown hgrow hb3 hB3 q3 f3 ff3 hl3 HRo HRb HRw hi0 hz0 hz1 hz2 hws
            go_wp2_with fail
            go_roundw
            case rel => exact ⟨j + 1, some ⟨gv, 0, none⟩, cv, by omega, by simp, Lib.hid (heap_setCell_same _ b 6 _ _ _ HB3.out.1), Lib.hid (ownsRow_lo HO3.out hbl), Lib.hid (HB3.out.2.setCell (p := ⟨b, 6, none⟩) (Nat.le_refl _) _)⟩
            case measure => simp [intOf]; omega
          · have e : j = sz := by omega
            subst e
            go_wp2_with fail
            go_meet
            refine ⟨Aj, cj, none, 0, Lib.hid ⟨?_, ?_, ?_⟩, HRw⟩
            · rw [E1'.out, E2'.out, List.length_replicate]; exact HRb.out
            · rw [E1'.out]
              have h7 := HRo.out
              unfold OwnW at h7
              rw [List.length_replicate] at h7
              exact (ownsRow_rt h7).less (by omega)
            · rw [E2'.out]; exact Rt.nil _ _ _ _ _
    case rest =>
      obtain ⟨Aw, cA, Ab, cB, HR, HW⟩ := hcut
      have hxb := HW.out
      have HD6 := Lib.hid (HD5.out.below (hxb.mono (by omega)))
      have HB6 := Lib.hid (HB5.out.trans (hxb.mono (by omega)))
      rw [← hxb.block _ hb0] at p0
      rw [← hxb.block _ hbS1] at p1
      clear hxb HW HD5 HB5 hbb fb fbf f0 hxs hbl l0 l1
      have l0 := lt_of_block p0
      have l1 := lt_of_block p1
      have lb := lt_of_block HR.out.1
      have f0 := cells3 p0
      have fb := cells8 HR.out.1
      obtain ⟨us, hus, hrd⟩ := HD6.out
      have HUs := Lib.hid hus
      have HRd := Lib.hid hrd.rd
      have hlen : us.flatten.length = os.length * 8 := by rw [flatten_len 8 us hus.eight, hus.1]
      have HL := Lib.hid hlen
      have HAn := Lib.hid (fun h : A = none => hus.none hrd.rd h)
      have hos : os.length ≤ 16777216 := by
        have h1 := pos_ge os (Nat.le_refl _)
        rw [pos_all, HLN.out] at h1
        omega
      clear hus hrd hlen
      obtain ⟨ob, hob⟩ : ∃ ob, Obj.cells #[.int .i64 (N : Int), .int .u64 (cl : Int), .int .i64 (kind : Int), .int .i64 (sz : Int), .int .u32 0, .bool false, .slice Aw o.words.length cA, .slice Ab o.bytes.length cB] 43 = ob := ⟨_, rfl⟩
      have vA := Lib.hid (show (wc.alloc (.cells #[] 43)).drew.heap[wc.heap.size]? = some (.cells #[] 43 (0, 0)) from heap_alloc_new wc _)
      have vB := Lib.hid (show ((wc.alloc (.cells #[] 43)).alloc ob).drew.heap[wc.heap.size]? = some (.cells #[] 43 (0, 0)) from (heap_alloc_old _ _ (by simp)).trans (heap_alloc_new wc _))
      have vC := Lib.hid (show ((wc.alloc ob).alloc (.cells #[] 43)).drew.heap[wc.heap.size + 1]? = some (.cells #[] 43 (0, 0)) from by
        have e : (wc.alloc ob).heap.size = wc.heap.size + 1 := by simp
        rw [← e]; exact heap_alloc_new _ _)
      have oB := Lib.hid (show ((wc.alloc (.cells #[] 43)).alloc ob).drew.heap[wc.heap.size + 1]? = some ob from by
        have e : (wc.alloc (.cells #[] 43)).heap.size = wc.heap.size + 1 := by simp
        rw [← e]; exact heap_alloc_new _ _)
      have oC := Lib.hid (show ((wc.alloc ob).alloc (.cells #[] 43)).drew.heap[wc.heap.size]? = some ob from (heap_alloc_old _ _ (by simp)).trans (heap_alloc_new wc _))
      have bA := Lib.hid (show Below wc.heap.size wc (wc.alloc (.cells #[] 43)).drew from k2)
      have bB := Lib.hid (show Below wc.heap.size wc ((wc.alloc (.cells #[] 43)).alloc ob).drew from (((Below.refl wc.heap.size wc).alloc (Nat.le_refl _) _).alloc (by simp) _).drew)
      have bC := Lib.hid (show Below wc.heap.size wc ((wc.alloc ob).alloc (.cells #[] 43)).drew from (((Below.refl wc.heap.size wc).alloc (Nat.le_refl _) _).alloc (by simp) _).drew)
      have bO := Lib.hid (show Below wc.heap.size wc (wc.alloc ob).drew from k2)
      have lB := Lib.hid (show wc.heap.size + 1 < ((wc.alloc (.cells #[] 43)).alloc ob).drew.heap.size by show _ < ((wc.alloc _).alloc _).heap.size; simp)
      have lC := Lib.hid (show wc.heap.size < ((wc.alloc ob).alloc (.cells #[] 43)).drew.heap.size by show _ < ((wc.alloc _).alloc _).heap.size; simp; omega)
      have n1 := Lib.hid (show some (wc.heap.size + 1) ≠ (Value.slice (some ⟨wc.heap.size, 0, none⟩) 0 0).ownBlock by simp [Value.ownBlock])
      have n2 := Lib.hid (show some wc.heap.size ≠ (Value.slice (some ⟨wc.heap.size + 1, 0, none⟩) 0 0).ownBlock by simp [Value.ownBlock])
      have HOne := Lib.hid (show ∀ u ∈ ([.int .i64 (N : Int), .int .u64 (cl : Int), .int .i64 (kind : Int), .int .i64 (sz : Int), .int .u32 0, .bool false, .slice Aw o.words.length cA, .slice Ab o.bytes.length cB] : List Value), u.oneCell' = true by
        intro u hu
        simp only [List.mem_cons, List.not_mem_nil, or_false] at hu
        rcases hu with rfl | rfl | rfl | rfl | rfl | rfl | rfl | rfl <;> rfl)
      rw [← hob] at vB vC oB oC bB bC bO lB lC
      clear hob
      obtain ⟨i0, hi, hz0, hz1, hz2⟩ := info_parts objinfo
      have hAt := Lib.hid (And.intro hi (And.intro hz0 (And.intro hz1 hz2)))
      clear hi hz0 hz1 hz2
      have hSb : S0 ≠ b := by omega
      have sx : ∀ w' : World, Below wc.heap.size wc w' → (w'.cell? ⟨b, 0, none⟩ = some (.int .i64 (N : Int)) ∧ w'.cell? ⟨b, 1, none⟩ = some (.int .u64 (cl : Int)) ∧ w'.cell? ⟨b, 2, none⟩ = some (.int .i64 (kind : Int)) ∧ w'.cell? ⟨b, 3, none⟩ = some (.int .i64 (sz : Int)) ∧ w'.cell? ⟨b, 4, none⟩ = some (.int .u32 0) ∧ w'.cell? ⟨b, 5, none⟩ = some (.bool false) ∧ w'.cell? ⟨b, 6, none⟩ = some (.slice Aw o.words.length cA) ∧ w'.cell? ⟨b, 7, none⟩ = some (.slice Ab o.bytes.length cB)) := fun w' hb =>
        ⟨(hb.cell (p := ⟨b, 0, none⟩) lb).trans fb.1, (hb.cell (p := ⟨b, 1, none⟩) lb).trans fb.2.1, (hb.cell (p := ⟨b, 2, none⟩) lb).trans fb.2.2.1, (hb.cell (p := ⟨b, 3, none⟩) lb).trans fb.2.2.2.1, (hb.cell (p := ⟨b, 4, none⟩) lb).trans fb.2.2.2.2.1, (hb.cell (p := ⟨b, 5, none⟩) lb).trans fb.2.2.2.2.2.1, (hb.cell (p := ⟨b, 6, none⟩) lb).trans fb.2.2.2.2.2.2.1, (hb.cell (p := ⟨b, 7, none⟩) lb).trans fb.2.2.2.2.2.2.2⟩
      have HSx := Lib.hid sx
      clear sx
      have HFin := Lib.hid (fun (w3 : World) (A2 : Option Addr) (c2 : Nat) (hk : Below wc.heap.size wc w3) (ho : w3.ownsRow wc.heap.size 43 8 (.slice A2 (os.length + 1) c2) (os.length + 1) (us.flatten ++ [.int .i64 (N : Int), .int .u64 (cl : Int), .int .i64 (kind : Int), .int .i64 (sz : Int), .int .u32 0, .bool false, .slice Aw o.words.length cA, .slice Ab o.bytes.length cB])) => show ∃ A2' c2', Hid (Fin15 lo w (w3.setCell ⟨S0, 1, none⟩ (.slice A2 (os.length + 1) c2)) S0 S1 b size last N os o A2' c2') from
        ⟨A2, c2, Lib.hid (fin15 hB m1 (HNe.out) (by omega) p0 p1 (by have := HR.out.1; rw [← HO.out] at this ⊢; exact this) HR.out.2.1 HR.out.2.2 (by omega) HLN.out HUs.out HB6.out hk (by rw [← HO.out] at ho ⊢; exact ho))⟩)
      go_upto_region 15 with fail
      go_cut [70] (fun v wx => ∃ A2 c2, Hid (Fin15 lo w wx S0 S1 b size last N os o A2 c2))
      case first =>
       go_wp2_with fail
       go_region_law
        (first
          | (refine step_append_rd (base := wc.heap.size) (size := 8) (bytes := 88) (n := 0) (m := os.length) (c := c) (B := B) (v := .slice (some ⟨wc.heap.size, 0, none⟩) 0 0) (xs := []) (news := us.flatten) (A := A) rfl (.tmp 63) (.tmp 65) rfl Tryd.underlying28 hAt.out.1 hAt.out.2.1 hAt.out.2.2.1 hAt.out.2.2.2 rfl (by decide) (by simp [Act.eval]) (by simp [Act.eval]) (own_block0 ?c1 (Nat.le_refl _)) (HRd.out.below ?c2 (Nat.le_refl _)) HL.out HAn.out HUs.out.one (by unfold maxLen; omega) (by omega) ?c3 ?_
             case c1 => first | with_reducible exact vA.out | with_reducible exact vB.out
             case c2 => first | with_reducible exact bA.out.mono (by omega) | with_reducible exact bB.out.mono (by omega)
             case c3 => first | with_reducible exact bA.out.size | with_reducible exact bB.out.size
             intro v' w2 happ
             obtain ⟨A1, c1, hv1, hA1, hA2⟩ := happ.slice
             subst hv1
             have hgr := happ.grown
             have hbk : Below wc.heap.size wc w2 := by
               refine Below.grown ?_ hgr ?_ (fun k hk => by simp [Value.ownBlock] at hk; omega)
               · first | with_reducible exact bA.out | with_reducible exact bB.out
               · first | with_reducible exact bA.out.size | with_reducible exact bB.out.size
             have HAp := Lib.hid happ
             have hx2 := HSx.out _ hbk
             have hx3 := (hbk.cell (p := ⟨S0, 1, none⟩) l0).trans f0.2.1
             have HA1 := Lib.hid (And.intro hA1 hA2)
             (first | have hob : w2.heap[wc.heap.size + 1]? = some (.cells #[.int .i64 (N : Int), .int .u64 (cl : Int), .int .i64 (kind : Int), .int .i64 (sz : Int), .int .u32 0, .bool false, .slice Aw o.words.length cA, .slice Ab o.bytes.length cB] 43 (0, 0)) := (by with_reducible exact (hgr.block _ lB.out n1.out).trans oB.out) | skip)
             clear happ hA1 hA2 hgr)
          | (refine step_append_rd (base := wc.heap.size) (size := 8) (bytes := 88) (n := 0) (m := os.length) (c := c) (B := B) (v := .slice (some ⟨wc.heap.size + 1, 0, none⟩) 0 0) (xs := []) (news := us.flatten) (A := A) rfl (.tmp 63) (.tmp 65) rfl Tryd.underlying28 hAt.out.1 hAt.out.2.1 hAt.out.2.2.1 hAt.out.2.2.2 rfl (by decide) (by simp [Act.eval]) (by simp [Act.eval]) (own_block0 ?c1 (Nat.le_succ _)) (HRd.out.below ?c2 (Nat.le_refl _)) HL.out HAn.out HUs.out.one (by unfold maxLen; omega) (by omega) ?c3 ?_
             case c1 => with_reducible exact vC.out
             case c2 => with_reducible exact bC.out.mono (by omega)
             case c3 => with_reducible exact bC.out.size
             intro v' w2 happ
             obtain ⟨A1, c1, hv1, hA1, hA2⟩ := happ.slice
             subst hv1
             have hgr := happ.grown
             have hbk : Below wc.heap.size wc w2 := by
               refine Below.grown ?_ hgr ?_ (fun k hk => by simp [Value.ownBlock] at hk; omega)
               · with_reducible exact bC.out
               · with_reducible exact bC.out.size
             have HAp := Lib.hid happ
             have hx2 := HSx.out _ hbk
             have hx3 := (hbk.cell (p := ⟨S0, 1, none⟩) l0).trans f0.2.1
             have HA1 := Lib.hid (And.intro hA1 hA2)
             (first | have hob : w2.heap[wc.heap.size]? = some (.cells #[.int .i64 (N : Int), .int .u64 (cl : Int), .int .i64 (kind : Int), .int .i64 (sz : Int), .int .u32 0, .bool false, .slice Aw o.words.length cA, .slice Ab o.bytes.length cB] 43 (0, 0)) := (by with_reducible exact (hgr.block _ lC.out n2.out).trans oC.out) | skip)
             clear happ hA1 hA2 hgr)
          | (refine step_append_rd (base := wc.heap.size) (size := 8) (bytes := 88) (n := 0 + os.length) (m := 1) (c := 1) (B := w2.heap.size + 1) (v := .slice A1 (0 + os.length) c1) (xs := [] ++ us.flatten) (news := [.int .i64 (N : Int), .int .u64 (cl : Int), .int .i64 (kind : Int), .int .i64 (sz : Int), .int .u32 0, .bool false, .slice Aw o.words.length cA, .slice Ab o.bytes.length cB]) (A := some ⟨w2.heap.size, 0, none⟩) rfl (.tmp 66) (.tmp 68) rfl Tryd.underlying28 hAt.out.1 hAt.out.2.1 hAt.out.2.2.1 hAt.out.2.2.2 rfl (by decide) (by simp [Act.eval]) (by simp [Act.eval]) (HAp.out.own.alloc _) (rd_block (heap_alloc_new w2 _) (Nat.lt_succ_self _)) rfl (fun h => by cases h) HOne.out (by unfold maxLen; omega) (by omega) (by have := hbk.size; simp; omega) ?_
             intro v2 w3 happ
             obtain ⟨A2, c2, hv2, hA3, hA4⟩ := happ.slice
             subst hv2
             have hbk2 : Below wc.heap.size wc w3 := by
               refine Below.grown ?_ happ.grown ?_ (fun k hk => ?_)
               · first | with_reducible exact hbk | with_reducible exact kA hbk
               · first | with_reducible exact hbk.size | with_reducible exact (kA hbk).size
               · cases A1 with
                 | none => simp [Value.ownBlock] at hk
                 | some a1 =>
                   have h9 := HA1.out.2 a1 rfl
                   rw [h9.2.2.2.2] at hk
                   injection hk with hk
                   rw [← hk]; exact h9.2.2.1
             have HO2 := Lib.hid happ.own
             have HA3 := Lib.hid (And.intro hA3 hA4)
             have hx4 := (hbk2.cell (p := ⟨S0, 1, none⟩) l0).trans f0.2.1
             have hfz := fun k => (hbk2.frozen (p := ⟨S0, k, none⟩) l0).trans (f0.2.2.2 k)
             clear happ hA3 hA4 hbk HAp HA1 hx2 hx3)
          | (refine step_append_rd (base := wc.heap.size) (size := 8) (bytes := 88) (n := 0 + os.length) (m := 1) (c := 1) (B := wc.heap.size + 1 + 1) (v := .slice A1 (0 + os.length) c1) (xs := [] ++ us.flatten) (news := [.int .i64 (N : Int), .int .u64 (cl : Int), .int .i64 (kind : Int), .int .i64 (sz : Int), .int .u32 0, .bool false, .slice Aw o.words.length cA, .slice Ab o.bytes.length cB]) (A := some ⟨wc.heap.size + 1, 0, none⟩) rfl (.tmp 66) (.tmp 68) rfl Tryd.underlying28 hAt.out.1 hAt.out.2.1 hAt.out.2.2.1 hAt.out.2.2.2 rfl (by decide) (by simp [Act.eval]) (by simp [Act.eval]) HAp.out.own (rd_block hob (Nat.lt_succ_self _)) rfl (fun h => by cases h) HOne.out (by unfold maxLen; omega) (by omega) hbk.size ?_
             intro v2 w3 happ
             obtain ⟨A2, c2, hv2, hA3, hA4⟩ := happ.slice
             subst hv2
             have hbk2 : Below wc.heap.size wc w3 := by
               refine Below.grown ?_ happ.grown ?_ (fun k hk => ?_)
               · first | with_reducible exact hbk | with_reducible exact kA hbk
               · first | with_reducible exact hbk.size | with_reducible exact (kA hbk).size
               · cases A1 with
                 | none => simp [Value.ownBlock] at hk
                 | some a1 =>
                   have h9 := HA1.out.2 a1 rfl
                   rw [h9.2.2.2.2] at hk
                   injection hk with hk
                   rw [← hk]; exact h9.2.2.1
             have HO2 := Lib.hid happ.own
             have HA3 := Lib.hid (And.intro hA3 hA4)
             have hx4 := (hbk2.cell (p := ⟨S0, 1, none⟩) l0).trans f0.2.1
             have hfz := fun k => (hbk2.frozen (p := ⟨S0, k, none⟩) l0).trans (f0.2.2.2 k)
             clear happ hA3 hA4 hbk HAp HA1 hx2 hx3)
          | (refine step_append_rd (base := wc.heap.size) (size := 8) (bytes := 88) (n := 0 + os.length) (m := 1) (c := 1) (B := wc.heap.size + 1) (v := .slice A1 (0 + os.length) c1) (xs := [] ++ us.flatten) (news := [.int .i64 (N : Int), .int .u64 (cl : Int), .int .i64 (kind : Int), .int .i64 (sz : Int), .int .u32 0, .bool false, .slice Aw o.words.length cA, .slice Ab o.bytes.length cB]) (A := some ⟨wc.heap.size, 0, none⟩) rfl (.tmp 66) (.tmp 68) rfl Tryd.underlying28 hAt.out.1 hAt.out.2.1 hAt.out.2.2.1 hAt.out.2.2.2 rfl (by decide) (by simp [Act.eval]) (by simp [Act.eval]) HAp.out.own (rd_block hob (Nat.lt_succ_self _)) rfl (fun h => by cases h) HOne.out (by unfold maxLen; omega) (by omega) hbk.size ?_
             intro v2 w3 happ
             obtain ⟨A2, c2, hv2, hA3, hA4⟩ := happ.slice
             subst hv2
             have hbk2 : Below wc.heap.size wc w3 := by
               refine Below.grown ?_ happ.grown ?_ (fun k hk => ?_)
               · first | with_reducible exact hbk | with_reducible exact kA hbk
               · first | with_reducible exact hbk.size | with_reducible exact (kA hbk).size
               · cases A1 with
                 | none => simp [Value.ownBlock] at hk
                 | some a1 =>
                   have h9 := HA1.out.2 a1 rfl
                   rw [h9.2.2.2.2] at hk
                   injection hk with hk
                   rw [← hk]; exact h9.2.2.1
             have HO2 := Lib.hid happ.own
             have HA3 := Lib.hid (And.intro hA3 hA4)
             have hx4 := (hbk2.cell (p := ⟨S0, 1, none⟩) l0).trans f0.2.1
             have hfz := fun k => (hbk2.frozen (p := ⟨S0, k, none⟩) l0).trans (f0.2.2.2 k)
             clear happ hA3 hA4 hbk HAp HA1 hx2 hx3))
       all_goals (rename_i hK; refine hK _ _ ?_; clear hK)
       all_goals go_meet
       all_goals exact HFin.out _ _ _ hbk2 (by have h := HO2.out; rw [Nat.zero_add, List.nil_append] at h; exact h)
      case rest =>
        obtain ⟨A2, c2, HF15⟩ := hcut
        have f0 := cells3 HF15.out.p0
        have f1 := cells3 HF15.out.p1
        have fb := HF15.out.pb
        have HP1 := Lib.hid HF15.out.p1
        go_wp2_with fail
        go_region
        rename_i hK
        refine hK _ _ ?_
        clear hK
        have r1 := HP1.out
        have r2 := heap_setCell_same wc S1 0 _ _ (.int .i64 (size : Int)) r1
        have r3 := heap_setCell_same _ S1 1 _ _ (.slice A2 (os.length + 1) c2) r2
        have r4 := heap_setCell_same _ S1 2 _ _ (.int .u32 (last : Int)) r3
        have HD9 := Lib.hid HF15.out.doc
        have HB9 := Lib.hid ((((HF15.out.below.setCell (p := ⟨S1, 0, none⟩) m1 (.int .i64 (size : Int))).setCell (p := ⟨S1, 1, none⟩) m1 (.slice A2 (os.length + 1) c2)).setCell (p := ⟨S1, 2, none⟩) m1 (.int .u32 (last : Int))).drew)
        have hsz4 : (((wc.setCell ⟨S1, 0, none⟩ (.int .i64 (size : Int))).setCell ⟨S1, 1, none⟩ (.slice A2 (os.length + 1) c2)).setCell ⟨S1, 2, none⟩ (.int .u32 (last : Int))).drew.heap.size = wc.heap.size := by show (((wc.setCell ⟨S1, 0, none⟩ (.int .i64 (size : Int))).setCell ⟨S1, 1, none⟩ (.slice A2 (os.length + 1) c2)).setCell ⟨S1, 2, none⟩ (.int .u32 (last : Int))).heap.size = _; simp [World.setCell]
        have HE9 := Lib.hid (show DocAt (((wc.setCell ⟨S1, 0, none⟩ (.int .i64 (size : Int))).setCell ⟨S1, 1, none⟩ (.slice A2 (os.length + 1) c2)).setCell ⟨S1, 2, none⟩ (.int .u32 (last : Int))).drew lo (((wc.setCell ⟨S1, 0, none⟩ (.int .i64 (size : Int))).setCell ⟨S1, 1, none⟩ (.slice A2 (os.length + 1) c2)).setCell ⟨S1, 2, none⟩ (.int .u32 (last : Int))).drew.heap.size A2 (os ++ [o]) by
          rw [hsz4]
          exact HD9.out.below ((Below.refl _ _).drew))
        have HR9 := Lib.hid (show (((wc.setCell ⟨S1, 0, none⟩ (.int .i64 (size : Int))).setCell ⟨S1, 1, none⟩ (.slice A2 (os.length + 1) c2)).setCell ⟨S1, 2, none⟩ (.int .u32 (last : Int))).drew.heap[S1]? = some (.cells #[.int .i64 (size : Int), .slice A2 (os.length + 1) c2, .int .u32 (last : Int)] 31 (0, 0)) from r4)
        clear r1 r2 r3 r4 hsz4 HD9 HP1 HF15 f0 f1 fb
        go_wp2_with fail
        have hR := HR9.out
        have hB := HB9.out
        have hE := HE9.out
        generalize (((wc.setCell ⟨S1, 0, none⟩ (.int .i64 (size : Int))).setCell ⟨S1, 1, none⟩ (.slice A2 (os.length + 1) c2)).setCell ⟨S1, 2, none⟩ (.int .u32 (last : Int))).drew = wf at hR hB hE ⊢
        obtain ⟨q0, q1, q2, _⟩ := cells3 hR
        exact bodyPost_ret (v := .tuple #[.agg #[.int .i64 (size : Int), .slice A2 (os.length + 1) c2, .int .u32 (last : Int)], .int .u64 ((N : Int) * 2), .int .i64 0]) (by simp [results, Tryd.results18, go_sem, q0, q1, q2]) rfl ⟨A2, c2, by rw [show (((Lof os).length * 2 : Nat) : Int) = (N : Int) * 2 by rw [HLN.out]; omega], by rw [HO.out]; exact hE, by rw [HS0.out]; exact hB⟩
end Go.Proofs.YtahmljjjdoaahaaDoor.Fl
