/-
  Memory as cells: Alloc of an object of bytes; the cell in which a byte stands.
-/
import Derived.Test.YtahmljjjdoaahaaDoorHeapF
import Derived.Laws.BitsAllLaws
import Derived.Test.YtahmljjjdoaahaaDoorPPut
namespace Go.Proofs.YtahmljjjdoaahaaDoor.Fl
open Go.RowKit

set_option maxRecDepth 100000 in
set_option maxHeartbeats 2000000 in
theorem alloc_raw {base g gc cap gb gb2 size last : Nat} {L ws : List Nat} (cl kind sz n : Nat) (fill : Nat) (w : World) (h : HeapAt w base g gc cap gb gb2 size last L ws) (hE : hErr cl kind sz 0 = 0) (hl : cl < 18446744073709551616)
    (hn : cellsI cl kind sz 0 = n) (hn2 : n ≤ 1048576) (hfit : L.length + n + 2 ≤ size) (hfree : bitAt ws L.length = false) (hk : kind = 2) (hbs : base ≤ w.heap.size) :
    Calls Tryd.prog 13 #[.pointer (some ⟨g, 0, none⟩), .int .u64 (cl : Int), .int .i64 (kind : Int), .int .i64 (sz : Int), .int .u64 (fill : Int)] w (AllocPost g gc gb gb2 base size last cl kind sz n 0 L ws w) := by
  have hp := fun (w' : World) => pack_obj cl kind sz 0 false w' hE hl
  have hc := fun (w' : World) => cells_any cl kind sz 0 false w' (by omega) (by omega)
  rw [hn] at hc
  have hfr := fun (w' : World) (hw' : HeapAt w' base g gc cap gb gb2 size last L ws) => free_any w' hw'
  have hrm := h.room
  have hsm := h.small
  have hg1 := h.gl.1
  have H := Lib.hid h
  obtain ⟨F, hF⟩ : ∃ F, size - L.length = F := ⟨_, rfl⟩
  rw [hF] at hfr
  have hF2 : n + 2 ≤ F := by omega
  have HF := Lib.hid hF
  have hk2 : ((kind : Int) != 2) = false := by simp; omega
  have HX := Lib.hid (pk_lt (kind := kind) (size := sz) (hash := 0) (mark := false) (by have := hErr_ok hE; omega) (by have := hErr_ok hE; omega) (by omega))
  have HFree := Lib.hid hfree
  have HCl := Lib.hid hl
  clear hn h hE hl hF hfree hk
  obtain ⟨X, hXX⟩ : ∃ X, pk kind sz 0 false = X := ⟨_, rfl⟩
  rw [hXX] at hp HX
  have HXX := Lib.hid hXX
  clear hXX
  go_enter Tryd.func13, Tryd.ntmps13
  go_wp2_with fail
  refine (hp _).mono ?_
  rintro e w1 ⟨rfl, hb1⟩
  have s1 := hb1.size
  simp at s1
  have t1 : w.heap.size < w1.heap.size := by omega
  have B1 : w1.heap[w.heap.size]? = some (.cells #[.int .u64 (cl : Int), .int .i64 (kind : Int), .int .i64 (sz : Int), .int .u32 0, .bool false] 52 (0, 0)) := by
    rw [hb1.block _ (by simp)]; exact heap_alloc_new w _
  have hbw1 : Below w.heap.size w w1 := ((Below.refl _ _).alloc (Nat.le_refl _) _).trans (hb1.mono (by simp))
  have f1 := cells5 B1
  clear hb1
  go_wp2_with fail
  refine (hc _).mono ?_
  rintro e w2 ⟨rfl, hb2⟩
  have s2 := hb2.size
  simp at s2
  have hbw2 : Below w.heap.size w w2 := (hbw1.alloc (by omega) _).trans (hb2.mono (by simp; omega))
  have H2 := Lib.hid (H.out.below hbw2)
  have P1 : w2.heap[w.heap.size]? = some (.cells #[.int .u64 (cl : Int), .int .i64 (kind : Int), .int .i64 (sz : Int), .int .u32 0, .bool false] 52 (0, 0)) := by
    rw [hb2.block _ (by simp; omega), heap_alloc_old _ _ t1]; exact B1
  have P2 : w2.heap[w1.heap.size]? = some (.cells #[.int .u64 (cl : Int), .int .u64 (X : Int)] 92 (0, 0)) := by
    rw [hb2.block _ (by simp)]; exact heap_alloc_new w1 _
  clear hb2 f1 B1 hbw1
  go_wp2_with fail
  refine (hfr _ H2.out).mono ?_
  rintro e w3 ⟨rfl, rfl⟩
  have c1' := H2.out.c1
  have lw : w.heap.size ≤ w2.heap.size := hbw2.size
  obtain ⟨gc', cap', w3, hA, hO, hG, hgc⟩ := append_zeros w2 base gc cap (n + 2) L 44 H2.out.own (by omega) (by omega) (by omega)
  obtain ⟨M, hM⟩ : ∃ M, L ++ List.replicate (n + 2) 0 = M := ⟨_, rfl⟩
  have hML : L.length + (n + 2) = M.length := by rw [← hM]; simp
  rw [hML, show ((n + 2 : Nat) : Int) = 2 + (n : Int) by omega] at hA
  rw [hML, hM] at hO
  have H4 := Lib.hid (H2.out.grown hG hO (by omega) (by omega) (by
    intro x hx
    rw [← hM] at hx
    rcases List.mem_append.1 hx with h1 | h1
    · exact H.out.lt x h1
    · rw [List.eq_of_mem_replicate h1]; decide))
  obtain ⟨w4, hw4⟩ : ∃ w4, w3.setCell ⟨g, 1, none⟩ (.slice (some ⟨gc', 0, none⟩) M.length cap') = w4 := ⟨_, rfl⟩
  rw [hw4] at H4
  have hMl : L.length + 2 + n ≤ M.length := by omega
  have hMs : M.length ≤ 16777216 := by omega
  have HM := Lib.hid hM
  have HA := Lib.hid hA
  have hfg : w3.frozen? ⟨g, 1, none⟩ = false := by
    have := frozen_of_row _ g 1 _ _ ((hG.block g H2.out.gl.1 (by simpa using H2.out.apart.1)).trans H2.out.hd)
    exact this
  obtain ⟨og, hog⟩ : ∃ u, w3.cell? ⟨g, 1, none⟩ = some u := ⟨_, cell_of_row _ g 1 _ _ _ ((hG.block g H2.out.gl.1 (by simpa using H2.out.apart.1)).trans H2.out.hd)⟩
  have HG := Lib.hid hG
  obtain ⟨curO, hcO, hz1⟩ := H2.out.row
  clear hz1
  have n1 : w.heap.size ≠ gc := other_type P1 hcO (by decide)
  have n2 : w1.heap.size ≠ gc := other_type P2 hcO (by decide)
  have n3 : w.heap.size ≠ g := other_type P1 H2.out.hd (by decide)
  have n4 : w1.heap.size ≠ g := other_type P2 H2.out.hd (by decide)
  have Q1 : w4.heap[w.heap.size]? = some (.cells #[.int .u64 (cl : Int), .int .i64 (kind : Int), .int .i64 (sz : Int), .int .u32 0, .bool false] 52 (0, 0)) := by
    rw [← hw4, Below.heap_setCell _ _ _ _ n3, hG.block _ (by omega) (by simpa using n1)]; exact P1
  have Q2 : w4.heap[w1.heap.size]? = some (.cells #[.int .u64 (cl : Int), .int .u64 (X : Int)] 92 (0, 0)) := by
    rw [← hw4, Below.heap_setCell _ _ _ _ n4, hG.block _ (by omega) (by simpa using n2)]; exact P2
  have As4 := Lib.hid (show Aside g gc gb2 w w4 by
    rw [← hw4]; exact ((Aside.of_below hbw2).trans (Aside.of_grown hG) (.inl rfl)).trans (Aside.set_g w3 1 _) (.inl rfl))
  have hgc' : gc' = gc ∨ w.heap.size ≤ gc' := by rcases hgc with h | h; exact .inl h; exact .inr (by omega)
  clear hA hO hM hML hG P1 P2 n1 n2 n3 n4 hcO hgc hbw2 s1 s2
  go_upto_region 10 with (at_builtin; refine Lib.wpList_append_run _ rfl _ _ _ _ rfl _ _ rfl rfl _ _ HA.out ?_)
  clear hc hfr HA HG hw4 H2 HF c1' hfg hog lw hF2 hp
  obtain ⟨W0, hW0⟩ : ∃ W0, w.heap.size = W0 := ⟨_, rfl⟩
  rw [hW0] at Q1 hgc' ⊢
  generalize w1.heap.size = W1 at *
  have HW0 := Lib.hid hW0
  have c1' := H4.out.c1
  obtain ⟨cur, hcur, hz1, hlc, hcm, hcs, hz2⟩ := H4.out.row
  clear hz1 hz2
  unfold maxLen at hcm
  have HC := Lib.hid hcur
  have f2 := two Q2
  have HS := Lib.hid (show ∀ j v, ([Value.int .u64 (cl : Int), .int .u64 (X : Int)] : List Value)[j]? = some v → w4.drew.cell? ((⟨W1, 0, none⟩ : Addr).add j) = some v by
    intro j v hj
    rcases j with _ | _ | j
    · simp at hj; subst hj; exact f2.1
    · simp at hj; subst hj; exact f2.2
    · simp at hj)
  have H1 := Lib.hid (show ∀ v ∈ [Value.int .u64 (cl : Int), .int .u64 (X : Int)], v.oneCell' = true by
    intro v hv; simp at hv; rcases hv with rfl | rfl <;> rfl)
  have Hsz := Lib.hid (show L.length + 2 ≤ cur.size by omega)
  have hlM : L.length ≤ M.length := by omega
  have hlc2 : ¬ (cap' = L.length) := by omega
  have Hn := Lib.hid (show ([Value.int .u64 (cl : Int), .int .u64 (X : Int)] : List Value).length = Nat.min 2 (M.length - L.length) by
    have : (2 : Nat) = min 2 (M.length - L.length) := by omega
    exact this)
  clear hcur hcs
  go_region_law (refine step_copy_row rfl (.tmp 57) (.tmp 58) 44 44 rfl 38 Tryd.underlying44 wsize gc' L.length (M.length - L.length) (cap' - L.length) ⟨W1, 0, none⟩ 2 2 rfl rfl cur 38 HC.out [.int .u64 (cl : Int), .int .u64 (X : Int)] Hn.out HS.out Hsz.out H1.out ?_)
  have hX := HX.out
  have hcl := HCl.out
  have H5 := Lib.hid (H4.out.drew.splice (cur := cur) HC.out L.length [cl, X] (by simp; omega) (by
    intro x hx; simp at hx; rcases hx with rfl | rfl; exact hcl; exact hX))
  have hne : W0 ≠ gc' := other_type Q1 HC.out (by decide)
  have Q5 : (w4.drew.setRow gc' (cur.toList.take L.length ++ (cw [cl, X] ++ cur.toList.drop (L.length + (cw [cl, X]).length))).toArray).heap[W0]? = some (.cells #[.int .u64 (cl : Int), .int .i64 (kind : Int), .int .i64 (sz : Int), .int .u32 0, .bool false] 52 (0, 0)) :=
    (setRow_other _ _ _ _ hne).trans Q1
  have As5 := Lib.hid (As4.out.trans ((Aside.of_below ((Below.refl w4.heap.size w4).drew)).trans (Aside.row (g := g) (gc := gc') (gb2 := gb2) w4.drew (cur.toList.take L.length ++ (cw [cl, X] ++ cur.toList.drop (L.length + (cw [cl, X]).length))).toArray) (.inl rfl)) (by rw [hW0]; exact hgc'))
  change Exit.then _ _ _ _ (w4.drew.setRow gc' (cur.toList.take L.length ++ (cw [cl, X] ++ cur.toList.drop (L.length + (cw [cl, X]).length))).toArray)
  generalize (w4.drew.setRow gc' (cur.toList.take L.length ++ (cw [cl, X] ++ cur.toList.drop (L.length + (cw [cl, X]).length))).toArray) = w5 at H5 Q5 As5 ⊢
  have hl5 : M.take L.length ++ ([cl, X] ++ M.drop (L.length + [cl, X].length)) = L ++ (cl :: X :: List.replicate n 0) := by
    rw [← HM.out]
    simp
  rw [hl5] at H5
  have f5 := cells5 Q5
  clear hl5 f2 Q1 Q2 As4 H4 c1' HC HS H1 Hsz Hn hlc hcm hlM hlc2 hX hcl hne hMl hMs HM HX
  rename_i hK
  refine hK _ _ ?_
  clear hK
  have H7 := H5
  have HAs := As5
  clear H5 As5 f5 Q5
  have c2' := H7.out.c2
  have hL1 : 1 ≤ L.length := by have := H.out.two; omega
  go_wp2_with fail
  refine (set_flip gb gb2 size L.length true ws w5 H7.out.bits (by omega) HFree.out).mono ?_
  rintro e w8 ⟨rfl, hB8, hbl8, hs8, hk8⟩
  have H8 := Lib.hid (H7.out.bit hB8 hk8)
  have As8 := Lib.hid (HAs.out.trans (show Aside g gc' gb2 w5 w8 by
    have := hbl8 0 (Nat.zero_le _)
    exact ⟨this.os, this.tape, this.output, this.size, fun i _ _ _ h => hk8 i h⟩) (by rw [HW0.out]; exact hgc'))
  clear hB8 hbl8 hk8 HAs H7 c2'
  go_wp2_with fail
  refine (hpointer_any L.length w8 (by omega) (by omega)).mono ?_
  rintro e w9 ⟨rfl, rfl⟩
  go_wp2_with fail
  go_ret2
  exact ⟨gc', cap', rfl, by rw [HXX.out]; exact H8.out, by rw [HW0.out]; exact hgc', As8.out⟩
end Go.Proofs.YtahmljjjdoaahaaDoor.Fl

/-
  One byte of a word.
-/
namespace Go.Proofs.YtahmljjjdoaahaaDoor.Fl
open Go.RowKit

def getB (x j : Nat) : Nat := x / 2 ^ (8 * j) % 2 ^ 8
def putB (x s b : Nat) : Nat := (BitVec.ofNat 64 x &&& ~~~ BitVec.ofNat 64 (255 * 2 ^ s)).toNat ||| (b * 2 ^ s)
theorem shl_lt {c s : Nat} (hc : c < 256) (hs : s ≤ 56) : c * 2 ^ s < 18446744073709551616 := by
  have h1 : 2 ^ s ≤ 2 ^ 56 := Nat.pow_le_pow_right (by omega) hs
  have h2 : c * 2 ^ s ≤ 255 * 2 ^ 56 := Nat.mul_le_mul (by omega) h1
  have h3 : 255 * 2 ^ 56 < 18446744073709551616 := by decide
  omega
theorem wrap_shl {c s : Nat} (hc : c < 256) (hs : s ≤ 56) : IntKind.u64.wrap ((c : Int) * 2 ^ s) = ((c * 2 ^ s : Nat) : Int) := by
  have h := shl_lt hc hs
  have e : (c : Int) * 2 ^ s = ((c * 2 ^ s : Nat) : Int) := by simp
  rw [e, IntKind.wrap_u64]
  generalize c * 2 ^ s = m at h ⊢
  omega
theorem andNot_nat (a b : Nat) : bits .andNot .u64 (a : Int) (b : Int) = ((BitVec.ofNat 64 a &&& ~~~ BitVec.ofNat 64 b).toNat : Int) := by
  show IntKind.u64.wrap ((BitVec.ofInt 64 (a : Int) &&& ~~~ BitVec.ofInt 64 (b : Int)).toNat : Int) = _
  rw [BitVec.ofInt_natCast, BitVec.ofInt_natCast, IntKind.wrap_u64]
  have := (BitVec.ofNat 64 a &&& ~~~ BitVec.ofNat 64 b).isLt
  generalize (BitVec.ofNat 64 a &&& ~~~ BitVec.ofNat 64 b).toNat = m at this ⊢
  omega
theorem putB_lt {x s b : Nat} (hs : s ≤ 56) (hb : b < 256) : putB x s b < 18446744073709551616 :=
  Nat.or_lt_two_pow (n := 64) (BitVec.isLt _) (shl_lt hb hs)
theorem putB_int {x s b : Nat} (hs : s ≤ 56) (hb : b < 256) : bits .or .u64 (bits .andNot .u64 (x : Int) (IntKind.u64.wrap (255 * 2 ^ s))) (IntKind.u64.wrap ((b : Int) * 2 ^ s)) = ((putB x s b : Nat) : Int) := by
  have h1 := wrap_shl (c := 255) (by omega) hs
  rw [show ((255 : Nat) : Int) = 255 from rfl] at h1
  rw [h1, wrap_shl hb hs, andNot_nat, u64_or_nat _ _ (BitVec.isLt _) (shl_lt hb hs)]
  rfl
theorem bit_shl (c s m : Nat) : (c * 2 ^ s).testBit m = (decide (s ≤ m) && c.testBit (m - s)) := by
  rw [Nat.mul_comm, Nat.testBit_two_pow_mul]
theorem bit_255 (t : Nat) : (255 : Nat).testBit t = decide (t < 8) := Nat.testBit_two_pow_sub_one 8 t
theorem bit_high {b : Nat} (hb : b < 256) {t : Nat} (ht : 8 ≤ t) : b.testBit t = false := Nat.testBit_lt_two_pow (Nat.lt_of_lt_of_le hb (Nat.pow_le_pow_right (n := 2) (by omega) ht))
theorem bit_putB {x s b m : Nat} (hm : m < 64) (_hx : x < 18446744073709551616) (hs : s ≤ 56) : (putB x s b).testBit m = ((x.testBit m && !(decide (s ≤ m) && decide (m - s < 8))) || (decide (s ≤ m) && b.testBit (m - s))) := by
  unfold putB
  have h255 := shl_lt (c := 255) (by omega) hs
  rw [Nat.testBit_or, bit_shl, ← BitVec.getLsbD, BitVec.getLsbD_and, BitVec.getLsbD_not, BitVec.getLsbD_ofNat, BitVec.getLsbD_ofNat, bit_shl, bit_255]
  simp [hm]
theorem getB_putB {x j j2 b : Nat} (hx : x < 18446744073709551616) (hj : j < 8) (hj2 : j2 < 8) (hb : b < 256) : getB (putB x (8 * j) b) j2 = if j = j2 then b else getB x j2 := by
  apply Nat.eq_of_testBit_eq
  intro t
  unfold getB
  rw [Nat.testBit_mod_two_pow, Nat.testBit_div_two_pow]
  by_cases ht : t < 8
  · rw [bit_putB (by omega) hx (by omega)]
    by_cases e : j = j2
    · subst e
      rw [if_pos rfl]
      have e1 : t + 8 * j - 8 * j = t := by omega
      simp [ht, e1]
    · rw [if_neg e, Nat.testBit_mod_two_pow, Nat.testBit_div_two_pow]
      by_cases h1 : 8 * j ≤ t + 8 * j2
      · have h2 : 8 ≤ t + 8 * j2 - 8 * j := by omega
        have h3 : ¬ (t + 8 * j2 - 8 * j < 8) := by omega
        simp [ht, h1, h3, bit_high hb h2]
      · simp [ht, h1]
  · simp only [ht, decide_false, Bool.false_and]
    by_cases e : j = j2
    · rw [if_pos e]; exact (bit_high hb (by omega)).symm
    · rw [if_neg e, Nat.testBit_mod_two_pow]; simp [ht]
theorem getB_lt (x j : Nat) : getB x j < 256 := by unfold getB; exact Nat.mod_lt _ (by decide)
end Go.Proofs.YtahmljjjdoaahaaDoor.Fl

/-
  Memory as cells: a byte of an object.
-/
namespace Go.Proofs.YtahmljjjdoaahaaDoor.Fl
open Go.RowKit

end Go.Proofs.YtahmljjjdoaahaaDoor.Fl

/-
  Memory as cells: all bytes of an object.
-/
namespace Go.Proofs.YtahmljjjdoaahaaDoor.Fl
open Go.RowKit

theorem getB_int (x j : Nat) : (x : Int) / 2 ^ (j * 8) % 256 = (getB x j : Int) := by
  unfold getB
  rw [Nat.mul_comm 8 j]
  simp
theorem own_lower {w : World} {base base2 : Nat} {v : Value} {xs : List UInt8} (h : Own w base v xs) (hb : base2 ≤ base) : Own w base2 v xs := by
  refine ⟨h.1, ?_⟩
  rcases h.2 with h0 | ⟨g, cap, cur, e, hbg, hr⟩
  · exact .inl h0
  · exact .inr ⟨g, cap, cur, e, Nat.le_trans hb hbg, hr⟩
structure RawIn (L : List Nat) (i cl : Nat) (bs : List UInt8) : Prop where
  hd : HeadIn L i cl 2 bs.length 0 false
  room : i + 2 + (bs.length + 7) / 8 ≤ L.length
  val : ∀ k, (h : k < bs.length) → getB (L.getD (i + 2 + k / 8) 0) (k % 8) = bs[k].toNat
theorem RawIn.put {L : List Nat} {i cl : Nat} {bs : List UInt8} (h : RawIn L i cl bs) (hL : ∀ x ∈ L, x < 18446744073709551616) {k : Nat} (_hk : k < bs.length) (b : UInt8) (hx : i + 2 + k / 8 < L.length) :
    RawIn (L.set (i + 2 + k / 8) (putB (L[i + 2 + k / 8]) (8 * (k % 8)) b.toNat)) i cl (bs.set k b) := by
  refine ⟨⟨?_, ?_, by rw [List.length_set]; exact h.hd.ok, h.hd.lt⟩, by rw [List.length_set, List.length_set]; exact h.room, fun k2 hk2 => ?_⟩
  · rw [List.getElem?_set_ne (by omega)]; exact h.hd.a
  · rw [List.getElem?_set_ne (by omega), List.length_set]; exact h.hd.b
  · rw [List.length_set] at hk2
    have hv := h.val k2 hk2
    rw [List.getElem_set]
    by_cases e : k / 8 = k2 / 8
    · have e1 : (L.set (i + 2 + k / 8) (putB (L[i + 2 + k / 8]) (8 * (k % 8)) b.toNat)).getD (i + 2 + k2 / 8) 0 = putB (L[i + 2 + k / 8]) (8 * (k % 8)) b.toNat := by
        rw [← e, List.getD_eq_getElem?_getD, List.getElem?_set_self hx]; rfl
      rw [e1, getB_putB (hL _ (List.getElem_mem hx)) (Nat.mod_lt _ (by decide)) (Nat.mod_lt _ (by decide)) b.toNat_lt]
      by_cases e2 : k = k2
      · rw [if_pos e2, if_pos (by rw [e2])]
      · rw [if_neg e2, if_neg (by omega), ← hv, ← e, List.getD_eq_getElem?_getD, List.getElem?_eq_getElem hx]; rfl
    · rw [if_neg (by omega : ¬ k = k2), List.getD_eq_getElem?_getD, List.getElem?_set_ne (by omega), ← List.getD_eq_getElem?_getD]
      exact hv
theorem make_bytesN (w : World) (l : Nat) (h : l ≤ 200000) :
    (Instr.makeSlice 41 (.int .i64 (l : Int)) (.int .i64 (l : Int))).run Tryd.prog w = .ok (.slice (some ⟨w.heap.size, 0, none⟩) l l) (w.alloc (.cells (cb (zb l)).toArray 5)) := by
  obtain ⟨i0, hi, hz0, hz1, hz2⟩ := info_parts u8info
  have hmk := run_make (P := Tryd.prog) w 41 5 i0 (.int .u8 0) Tryd.underlying41 hi hz0 .i64 .i64 (l : Int) (l : Int) (by omega) (by omega) (by rw [hz2]; omega) (by omega)
  rw [hmk, hz1, show ((l : Int)).toNat = l by omega, show (Value.int .u8 0).cells = #[Value.int .u8 0] from rfl, zb_made]
theorem wpList_make_bytesN (w : World) {ops : Array Oper} {rest : List Oper} {o : Oper} {a : Act} {Q : Exit → Act → World → Prop} (hg : o.guard = none) (l c : Operand) (hop : o.op = Op.makeSlice 41 l c)
    (L : Nat) (hl : a.eval l = .int .i64 (L : Int)) (hc : a.eval c = .int .i64 (L : Int)) (h : L ≤ 200000)
    (hK : ∀ w', Hid (Own w' w.heap.size (.slice (some ⟨w.heap.size, 0, none⟩) L L) (zb L)) → Below w.heap.size w w' → w.heap.size < w'.heap.size → wpList Tryd.prog ops Q rest (a.put o.dst (.slice (some ⟨w.heap.size, 0, none⟩) L L)) w') :
    wpList Tryd.prog ops Q (o :: rest) a w :=
  wpList_make_run w _ hg l c _ hop _ _ _ hl hc (make_bytesN w L h) (hK _ (own_zero w _ (by unfold maxLen; omega)) ((Below.refl _ _).alloc (Nat.le_refl _) _) (by simp))
theorem fill_byte {bs L : List UInt8} {k : Nat} (h : ∀ j, j < k → L[j]? = bs[j]?) (hk : k < bs.length) (hL : L.length = bs.length) : ∀ j, j < k + 1 → (L.set k bs[k])[j]? = bs[j]? := by
  intro j hj
  rw [List.getElem?_set]
  by_cases e : k = j
  · subst e; rw [if_pos rfl, if_pos (by omega), List.getElem?_eq_getElem hk]
  · rw [if_neg e]; exact h j (by omega)
theorem raw_cells {sz cl : Nat} (h : hErr cl 2 sz 0 = 0) : cellsI cl (2 : Nat) sz (0 : Nat) = ((sz + 7) / 8 : Nat) := by
  unfold cellsI
  rw [if_pos (by simpa using h), if_pos (by rfl)]
  omega
def BytesPost (bs : List UInt8) (w : World) (e : Ending) (w' : World) : Prop := ∃ v', e = .returned (.tuple #[v', .int .i64 0]) ∧ Own w' w.heap.size v' bs ∧ Below w.heap.size w w'
end Go.Proofs.YtahmljjjdoaahaaDoor.Fl
