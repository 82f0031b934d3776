/-
  Memory as cells: three objects, the middle one of bytes.
-/
import Derived.Test.YtmlfooofgedmaaaHeapK
namespace Go.Proofs.Ytmlfooofgedmaaa.Fl
open Go.RowKit

abbrev oA : List Nat := [0, 0] ++ (4 :: pk 1 1 0 false :: List.replicate 1 1)
abbrev oW : List Nat := flip (List.replicate 4 0) 2
def oB (n : Nat) : List Nat := oA ++ (4 :: pk 2 n 0 false :: List.replicate ((n + 7) / 8) 0)
def oC (n : Nat) : List Nat := oB n ++ (4 :: pk 1 1 0 false :: List.replicate 1 1)
theorem oB_len (n : Nat) : (oB n).length = 7 + (n + 7) / 8 := by simp [oB]; omega
def BS (w : World) (base g gc cap gb gb2 : Nat) (P : List UInt8) : Prop := ∃ L ws, HeapAt w base g gc cap gb gb2 200 0 L ws ∧ RawIn L 5 4 P ∧ bitAt ws 5 = true ∧ bitAt ws 2 = true ∧ bitAt ws (7 + (P.length + 7) / 8) = true ∧ HeadIn L 2 4 1 1 0 false ∧ L[4]? = some 1 ∧ HeadIn L (7 + (P.length + 7) / 8) 4 1 1 0 false ∧ L[9 + (P.length + 7) / 8]? = some 1
section
variable {w : World} {base g gc cap gb gb2 : Nat}
theorem bs_x (h : HeapAt w base g gc cap gb gb2 200 0 [0, 0] (List.replicate 4 0)) (hb : base ≤ w.heap.size) :
    Calls Try.prog 21 #[.pointer (some ⟨g, 0, none⟩), .int .u64 4, .int .i64 1, .int .i64 1, .int .u64 1] w fun e w' => ∃ gc' cap', e = .returned (.tuple #[.int .u64 4, .int .i64 0]) ∧ HeapAt w' base g gc' cap' gb gb2 200 0 oA oW ∧ (gc' = gc ∨ w.heap.size ≤ gc') ∧ Aside g gc gb2 w w' :=
  alloc_fit 4 1 1 1 1 w h (by decide) (by decide) (by decide) (by decide) (by decide) (by decide) (by decide) (by decide) hb
theorem bs_w {n : Nat} (hn : n ≤ 300) (h : HeapAt w base g gc cap gb gb2 200 0 oA oW) (hb : base ≤ w.heap.size) :
    Calls Try.prog 21 #[.pointer (some ⟨g, 0, none⟩), .int .u64 4, .int .i64 2, .int .i64 (n : Int), .int .u64 0] w fun e w' => ∃ gc' cap', e = .returned (.tuple #[.int .u64 10, .int .i64 0]) ∧ HeapAt w' base g gc' cap' gb gb2 200 0 (oB n) (flip oW 5) ∧ (gc' = gc ∨ w.heap.size ≤ gc') ∧ Aside g gc gb2 w w' := by
  have hE : hErr (4 : Nat) (2 : Nat) (n : Nat) 0 = 0 := hErr_0 (by decide) (by omega) (by decide) (by decide)
  exact alloc_raw 4 2 n ((n + 7) / 8) 0 w h hE (by decide) (raw_cells hE) (by omega) (by simp; omega) (by decide) rfl hb
theorem bs_y {n : Nat} (hn : n ≤ 300) (h : HeapAt w base g gc cap gb gb2 200 0 (oB n) (flip oW 5)) (hb : base ≤ w.heap.size) :
    Calls Try.prog 21 #[.pointer (some ⟨g, 0, none⟩), .int .u64 4, .int .i64 1, .int .i64 1, .int .u64 1] w fun e w' => ∃ gc' cap', e = .returned (.tuple #[.int .u64 (((7 + (n + 7) / 8 : Nat) : Int) * 2), .int .i64 0]) ∧ BS w' base g gc' cap' gb gb2 (List.replicate n 0) ∧ (gc' = gc ∨ w.heap.size ≤ gc') ∧ Aside g gc gb2 w w' := by
  have hl := oB_len n
  have hfl : ∀ (ws : List Nat) (i k : Nat), i / 64 < ws.length → bitAt (flip ws i) k = if k = i then !(bitAt ws k) else bitAt ws k := fun ws i k h => by rw [bitAt_flip h]; split <;> simp_all
  have hz : ∀ k, bitAt (List.replicate 4 0) k = false := by
    intro k
    unfold bitAt
    rw [List.getD_eq_getElem?_getD, List.getElem?_replicate]
    split <;> simp
  have hfree : bitAt (flip oW 5) (oB n).length = false := by
    rw [hfl _ _ _ (by decide), if_neg (by omega), hfl _ _ _ (by decide), if_neg (by omega)]; exact hz _
  refine (alloc_fit 4 1 1 1 1 w h (by decide) (by decide) (by decide) (by decide) (by omega) hfree (by decide) (by decide) hb).mono ?_
  rintro e w' ⟨gc', cap', rfl, h3, hgc, has⟩
  have hm : ((List.replicate n 0 : List UInt8).length + 7) / 8 = (n + 7) / 8 := by simp
  refine ⟨gc', cap', by rw [hl], ⟨oC n, flip (flip oW 5) (oB n).length, h3, ⟨⟨rfl, by rw [List.length_replicate]; rfl, ?_, by decide⟩, ?_, fun k hk => ?_⟩, ?_, ?_, ?_, ⟨rfl, rfl, by decide, by decide⟩, rfl, ⟨?_, ?_, by decide, by decide⟩, ?_⟩, hgc, has⟩
  · rw [List.length_replicate]; exact hErr_0 (by decide) (by omega) (by decide) (by decide)
  · rw [hm]; simp [oC]; omega
  · rw [List.length_replicate] at hk
    have e : (oC n).getD (5 + 2 + k / 8) 0 = 0 := by
      rw [List.getD_eq_getElem?_getD, oC, List.getElem?_append_left (by omega), oB, List.getElem?_append_right (by simp; omega)]
      simp only [List.length_append, List.length_cons, List.length_nil, List.length_replicate]
      rw [show 5 + 2 + k / 8 - (0 + 1 + 1 + (1 + 1 + 1)) = k / 8 + 2 by omega, List.getElem?_cons_succ, List.getElem?_cons_succ, List.getElem?_replicate]
      split <;> rfl
    rw [e]; simp [getB]
  · rw [hfl _ _ _ (by simp [flip_len]; omega), if_neg (by omega)]; decide
  · rw [hfl _ _ _ (by simp [flip_len]; omega), if_neg (by omega)]; decide
  · rw [hm, ← hl, hfl _ _ _ (by simp [flip_len]; omega), if_pos rfl, hfree]; rfl
  · rw [hm, ← hl, oC, List.getElem?_append_right (Nat.le_refl _), Nat.sub_self]; rfl
  · rw [hm, ← hl, oC, List.getElem?_append_right (by omega), show (oB n).length + 1 - (oB n).length = 1 by omega]; rfl
  · rw [hm, show 9 + (n + 7) / 8 = (oB n).length + 2 by omega, oC, List.getElem?_append_right (by omega), show (oB n).length + 2 - (oB n).length = 2 by omega]; rfl
theorem BS.below {w' : World} {P : List UInt8} (h : BS w base g gc cap gb gb2 P) (hb : Below w.heap.size w w') : BS w' base g gc cap gb gb2 P := by
  obtain ⟨L, ws, h1, h2⟩ := h
  exact ⟨L, ws, h1.below hb, h2⟩
theorem bs_none {P : List UInt8} (k b : Int) (h : BS w base g gc cap gb gb2 P) (hk : k < 0 ∨ (P.length : Int) ≤ k) :
    Calls Try.prog 25 #[.pointer (some ⟨g, 0, none⟩), .int .u64 10, .int .i64 k, .int .u8 b] w fun e w' => e = .returned (.int .i64 6) ∧ Below w.heap.size w w' := by
  obtain ⟨L, ws, h1, h2, h3, _⟩ := h
  exact putByte_none 5 4 P.length 0 k b false w h1 h2.hd h3 (by decide) hk
theorem bs_put {P : List UInt8} (k : Nat) (b : UInt8) (h : BS w base g gc cap gb gb2 P) (hk : k < P.length) :
    Calls Try.prog 25 #[.pointer (some ⟨g, 0, none⟩), .int .u64 10, .int .i64 (k : Int), .int .u8 (b.toNat : Int)] w fun e w' => e = .returned (.int .i64 0) ∧ BS w' base g gc cap gb gb2 (P.set k b) ∧ Aside g gc gb2 w w' := by
  obtain ⟨L, ws, h1, h2, h3, h4, h5, h6, h7, h8, h9⟩ := h
  have hr := h2.room
  have hx : 5 + 2 + k / 8 < L.length := by omega
  refine (putByte_yes 5 k 4 P.length 0 b.toNat false w h1 h2.hd h3 (by decide) hk hx b.toNat_lt).mono ?_
  rintro e w' ⟨rfl, h1', has⟩
  refine ⟨rfl, ⟨_, ws, h1', h2.put h1.lt hk b hx, h3, h4, by rw [List.length_set]; exact h5, ⟨?_, ?_, h6.ok, h6.lt⟩, ?_, ⟨?_, ?_, h8.ok, h8.lt⟩, ?_⟩, has⟩
  · rw [List.getElem?_set_ne (by omega)]; exact h6.a
  · rw [List.getElem?_set_ne (by omega)]; exact h6.b
  · rw [List.getElem?_set_ne (by omega)]; exact h7
  · rw [List.length_set, List.getElem?_set_ne (by omega)]; exact h8.a
  · rw [List.length_set, List.getElem?_set_ne (by omega)]; exact h8.b
  · rw [List.length_set, List.getElem?_set_ne (by omega)]; exact h9
theorem bs_bytes {P : List UInt8} (h : BS w base g gc cap gb gb2 P) (hn : P.length ≤ 300) :
    Calls Try.prog 27 #[.pointer (some ⟨g, 0, none⟩), .int .u64 10] w (BytesPost P w) := by
  obtain ⟨L, ws, h1, h2, h3, _⟩ := h
  exact bytes_yes 5 4 P w h1 h2 h3 (by decide) hn
theorem bs_getx {P : List UInt8} (h : BS w base g gc cap gb gb2 P) :
    Calls Try.prog 28 #[.pointer (some ⟨g, 0, none⟩), .int .u64 4, .int .i64 0] w fun e w' => e = .returned (.tuple #[.int .u64 1, .int .i64 0]) ∧ Below w.heap.size w w' := by
  obtain ⟨L, ws, h1, h2, h3, h4, h5, h6, h7, h8, h9⟩ := h
  exact get_yes 2 0 4 1 1 0 1 false w h1 h6 h4 (by decide) (by decide) (by decide) h7
theorem bs_gety {P : List UInt8} (h : BS w base g gc cap gb gb2 P) :
    Calls Try.prog 28 #[.pointer (some ⟨g, 0, none⟩), .int .u64 (((7 + (P.length + 7) / 8 : Nat) : Int) * 2), .int .i64 0] w fun e w' => e = .returned (.tuple #[.int .u64 1, .int .i64 0]) ∧ Below w.heap.size w w' := by
  obtain ⟨L, ws, h1, h2, h3, h4, h5, h6, h7, h8, h9⟩ := h
  exact get_yes (7 + (P.length + 7) / 8) 0 4 1 1 0 1 false w h1 h8 h5 (by omega) (by decide) (by decide) (by rw [show 7 + (P.length + 7) / 8 + 2 + 0 = 9 + (P.length + 7) / 8 by omega]; exact h9)
end
end Go.Proofs.Ytmlfooofgedmaaa.Fl
