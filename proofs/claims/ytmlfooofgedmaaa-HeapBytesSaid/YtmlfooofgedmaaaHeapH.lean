/-
  Memory as cells: what the rows know of a heap: how many cells are left, and that no place past the last cell is a beginning.
-/
import Derived.Test.YtmlfooofgedmaaaHeapG
namespace Go.Proofs.Ytmlfooofgedmaaa.Fl
open Go.RowKit

def HI (w : World) (base g gb gb2 C : Nat) (lf : Int) : Prop := base ≤ w.heap.size ∧ ∃ gc cap L ws, HeapAt w base g gc cap gb gb2 C 0 L ws ∧ (∀ j, L.length ≤ j → bitAt ws j = false) ∧ (L.length : Int) + lf = C
theorem hErr_fine {cl kind sz : Nat} (h1 : cl = 4) (h2 : kind ≤ 1) (h3 : sz ≤ 1048576) : hErr cl kind sz 0 = 0 := by
  subst h1
  exact hErr_0 (by omega) (by omega) (by omega) (by omega)
theorem cells_fine {cl kind sz : Nat} (h1 : cl = 4) (h2 : kind ≤ 1) (h3 : sz ≤ 1048576) : cellsI cl kind sz 0 = sz := by
  have h := hErr_fine h1 h2 h3
  unfold cellsI
  rw [if_pos h, if_neg (by omega)]
theorem HI.below {w w' : World} {base g gb gb2 C : Nat} {lf : Int} (h : HI w base g gb gb2 C lf) (hb : Below w.heap.size w w') : HI w' base g gb gb2 C lf := by
  obtain ⟨h0, gc, cap, L, ws, h1, h2⟩ := h
  exact ⟨Nat.le_trans h0 hb.size, gc, cap, L, ws, h1.below hb, h2⟩
theorem HI.bd {w : World} {base g gb gb2 C : Nat} {lf : Int} (h : HI w base g gb gb2 C lf) : 0 ≤ lf ∧ lf + 2 ≤ C ∧ (C : Int) ≤ 16777216 := by
  obtain ⟨h0, gc, cap, L, ws, h1, _, h2⟩ := h
  have := h1.two
  have := h1.room
  have := h1.small
  omega
theorem hi_free {w : World} {base g gb gb2 C : Nat} {lf : Int} (h : HI w base g gb gb2 C lf) :
    Calls Try.prog 22 #[.pointer (some ⟨g, 0, none⟩)] w fun e w' => e = .returned (.int .i64 lf) ∧ w = w' := by
  obtain ⟨h0, gc, cap, L, ws, h1, _, h2⟩ := h
  have := h1.room
  obtain rfl : lf = ((C - L.length : Nat) : Int) := by omega
  exact free_any w h1
theorem hi_used {w : World} {base g gb gb2 C : Nat} {lf : Int} (h : HI w base g gb gb2 C lf) :
    Calls Try.prog 23 #[.pointer (some ⟨g, 0, none⟩)] w fun e w' => e = .returned (.int .i64 ((C : Int) - lf)) ∧ w = w' := by
  obtain ⟨h0, gc, cap, L, ws, h1, _, h2⟩ := h
  rw [show (C : Int) - lf = (L.length : Int) by omega]
  exact used_any w h1
theorem hi_full {w : World} {base g gb gb2 C : Nat} {lf : Int} (kd n : Int) (h : HI w base g gb gb2 C lf) (k0 : 0 ≤ kd) (k1 : kd ≤ 1) (n0 : 0 ≤ n) (n1 : n ≤ 1048576) (hf : lf < n + 2) :
    Calls Try.prog 21 #[.pointer (some ⟨g, 0, none⟩), .int .u64 4, .int .i64 kd, .int .i64 n, .int .u64 1] w fun e w' => e = .returned (.tuple #[.int .u64 0, .int .i64 8]) ∧ Below w.heap.size w w' := by
  obtain ⟨h0, gc, cap, L, ws, h1, _, h2⟩ := h
  obtain ⟨kd, rfl⟩ := Int.eq_ofNat_of_zero_le k0
  obtain ⟨n, rfl⟩ := Int.eq_ofNat_of_zero_le n0
  exact alloc_full 4 kd n n 1 w h1 (hErr_fine rfl (by omega) (by omega)) (by decide) (cells_fine rfl (by omega) (by omega)) (by omega) (by omega)
theorem hi_new {w' : World} {base g gc' cap' gb gb2 C n : Nat} {L ws : List Nat} {lf : Int} {X : Nat} (hb : base ≤ w'.heap.size) (h : HeapAt w' base g gc' cap' gb gb2 C 0 (L ++ (4 :: X :: List.replicate n 1)) (flip ws L.length))
    (ht : ∀ j, L.length ≤ j → bitAt ws j = false) (hl : (L.length : Int) + lf = C) (hi : L.length / 64 < ws.length) : HI w' base g gb gb2 C (lf - ((n : Int) + 2)) := by
  refine ⟨hb, gc', cap', _, _, h, fun j hj => ?_, ?_⟩
  · simp at hj
    rw [bitAt_flip hi, if_neg (by omega)]
    exact ht j (by omega)
  · simp; omega
def HiPost (w : World) (base g gb gb2 C : Nat) (lf n : Int) (e : Ending) (w' : World) : Prop := ∃ p : Int, e = .returned (.tuple #[.int .u64 p, .int .i64 0]) ∧ HI w' base g gb gb2 C (lf - (n + 2)) ∧ Below base w w' ∧
  Calls Try.prog 24 #[.pointer (some ⟨g, 0, none⟩), .int .u64 p] w' fun e w'' => e = .returned (.bool true) ∧ w' = w''
theorem hi_fit {w : World} {base g gb gb2 C : Nat} {lf : Int} (kd n : Int) (h : HI w base g gb gb2 C lf) (k0 : 0 ≤ kd) (k1 : kd ≤ 1) (n0 : 0 ≤ n) (n1 : n ≤ 1048576) (hf : n + 2 ≤ lf) :
    Calls Try.prog 21 #[.pointer (some ⟨g, 0, none⟩), .int .u64 4, .int .i64 kd, .int .i64 n, .int .u64 1] w (HiPost w base g gb gb2 C lf n) := by
  obtain ⟨h0, gc, cap, L, ws, h1, ht, h2⟩ := h
  obtain ⟨kd, rfl⟩ := Int.eq_ofNat_of_zero_le k0
  obtain ⟨n, rfl⟩ := Int.eq_ofNat_of_zero_le n0
  have hsm := h1.small
  have htw := h1.two
  refine (alloc_fit 4 kd n n 1 w h1 (hErr_fine rfl (by omega) (by omega)) (by decide) (cells_fine rfl (by omega) (by omega)) (by omega) (by omega) (ht _ (Nat.le_refl _)) (by omega) (by decide) h0).mono ?_
  rintro e w' ⟨gc', cap', rfl, h3, hgc, has⟩
  obtain ⟨cur, _, hbc, _⟩ := h1.row
  have hix := h1.bits.idx (i := L.length) (by omega)
  have hbit : bitAt (flip ws L.length) L.length = true := by rw [bitAt_flip hix, if_pos rfl, ht _ (Nat.le_refl _)]; rfl
  refine ⟨_, rfl, hi_new (Nat.le_trans h0 has.size) h3 ht h2 hix, has.below h0 h1.bg hbc h1.bb2, ?_⟩
  rw [← hbit]
  exact hhas_any L.length w' h3 (by omega) (by omega)
theorem hi_begin {w1 : World} {base g gc gb gb2 C : Nat} (h : HeapAt w1 base g gc 2 gb gb2 C 0 [0, 0] (List.replicate ((C + 63) / 64) 0)) (hb : base ≤ w1.heap.size) : HI w1 base g gb gb2 C ((C : Int) - 2) :=
  ⟨hb, gc, 2, _, _, h, fun j _ => by
    have hz : ∀ m k, bitAt (List.replicate m 0) k = false := by
      intro m k
      unfold bitAt
      rw [List.getD_eq_getElem?_getD, List.getElem?_replicate]
      split <;> simp
    exact hz _ _, by simp; omega⟩
end Go.Proofs.Ytmlfooofgedmaaa.Fl
