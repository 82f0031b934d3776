/-
  Memory as cells: a byte of an object.
-/
import Derived.Test.YtmlfooofgedmaaaByte
namespace Go.Proofs.Ytmlfooofgedmaaa.Fl
open Go.RowKit

set_option maxHeartbeats 2000000 in
theorem byteAt_yes {base g gc cap gb gb2 size last : Nat} {L ws : List Nat} (i k cl sz hash : Nat) (mark : Bool) (w : World) (h : HeapAt w base g gc cap gb gb2 size last L ws) (hi : HeadIn L i cl 2 sz hash mark) (hb : bitAt ws i = true) (h1 : 1 ≤ i) (hs : k < sz) (hl : i + 2 + k / 8 < L.length) :
    Calls Try.prog 40 #[.pointer (some ⟨g, 0, none⟩), .int .u64 ((i : Int) * 2), .int .i64 (k : Int)] w fun e w' => e = .returned (.tuple #[.pointer (some ⟨gc, i + 2 + k / 8, none⟩), .int .i64 ((k : Int) % 8 * 8), .int .i64 0]) ∧ Below w.heap.size w w' := by
  have ho := fun w' (hw' : HeapAt w' base g gc cap gb gb2 size last L ws) => object_yes i cl 2 sz hash mark w' hw' hi hb h1
  have hrm := h.room
  have hsm := h.small
  have hsz := (hErr_ok hi.ok).2.1
  have hg1 := h.gl.1
  have H := Lib.hid h
  clear h hi hb
  go_enter Try.func40, Try.ntmps40
  go_wp2_with fail
  refine (ho _ H.out).mono ?_
  rintro e w1 ⟨rfl, hb1⟩
  have c1 := (H.out.below hb1).c1
  have s1 := hb1.size
  have l1 : g < w1.heap.size := by omega
  go_wp2_with fail
  go_ret3
  exact ⟨rfl, hb1.alloc s1 _⟩
set_option maxHeartbeats 2000000 in
theorem byteAt_none {base g gc cap gb gb2 size last : Nat} {L ws : List Nat} (i cl sz hash : Nat) (k : Int) (mark : Bool) (w : World) (h : HeapAt w base g gc cap gb gb2 size last L ws) (hi : HeadIn L i cl 2 sz hash mark) (hb : bitAt ws i = true) (h1 : 1 ≤ i) (hs : k < 0 ∨ (sz : Int) ≤ k) :
    Calls Try.prog 40 #[.pointer (some ⟨g, 0, none⟩), .int .u64 ((i : Int) * 2), .int .i64 k] w fun e w' => e = .returned (.tuple #[.pointer none, .int .i64 0, .int .i64 6]) ∧ Below w.heap.size w w' := by
  have ho := fun w' (hw' : HeapAt w' base g gc cap gb gb2 size last L ws) => object_yes i cl 2 sz hash mark w' hw' hi hb h1
  have H := Lib.hid h
  clear h hi hb
  rcases hs with hs | hs
  · go_enter Try.func40, Try.ntmps40
    go_wp2_with fail
    refine (ho _ H.out).mono ?_
    rintro e w1 ⟨rfl, hb1⟩
    have s1 := hb1.size
    go_wp2_with fail
    go_ret3
    exact ⟨rfl, hb1.alloc s1 _⟩
  · go_enter Try.func40, Try.ntmps40
    go_wp2_with fail
    refine (ho _ H.out).mono ?_
    rintro e w1 ⟨rfl, hb1⟩
    have s1 := hb1.size
    go_wp2_with fail
    go_ret3
    exact ⟨rfl, hb1.alloc s1 _⟩
theorem putByte_none {base g gc cap gb gb2 size last : Nat} {L ws : List Nat} (i cl sz hash : Nat) (k b : Int) (mark : Bool) (w : World) (h : HeapAt w base g gc cap gb gb2 size last L ws) (hi : HeadIn L i cl 2 sz hash mark) (hb : bitAt ws i = true) (h1 : 1 ≤ i) (hs : k < 0 ∨ (sz : Int) ≤ k) :
    Calls Try.prog 25 #[.pointer (some ⟨g, 0, none⟩), .int .u64 ((i : Int) * 2), .int .i64 k, .int .u8 b] w fun e w' => e = .returned (.int .i64 6) ∧ Below w.heap.size w w' := by
  have ho := fun w' (hw' : HeapAt w' base g gc cap gb gb2 size last L ws) => byteAt_none i cl sz hash k mark w' hw' hi hb h1 hs
  have H := Lib.hid h
  clear h hi hb hs
  go_enter Try.func25, Try.ntmps25
  go_wp2_with fail
  refine (ho _ H.out).mono ?_
  rintro e w1 ⟨rfl, hb1⟩
  go_wp2_with fail
  go_ret
  exact ⟨rfl, hb1⟩
set_option maxHeartbeats 2000000 in
theorem putByte_yes {base g gc cap gb gb2 size last : Nat} {L ws : List Nat} (i k cl sz hash b : Nat) (mark : Bool) (w : World) (h : HeapAt w base g gc cap gb gb2 size last L ws) (hi : HeadIn L i cl 2 sz hash mark) (hb : bitAt ws i = true) (h1 : 1 ≤ i) (hs : k < sz) (hl : i + 2 + k / 8 < L.length) (hb8 : b < 256) :
    Calls Try.prog 25 #[.pointer (some ⟨g, 0, none⟩), .int .u64 ((i : Int) * 2), .int .i64 (k : Int), .int .u8 (b : Int)] w fun e w' => e = .returned (.int .i64 0) ∧ HeapAt w' base g gc cap gb gb2 size last (L.set (i + 2 + k / 8) (putB (L[i + 2 + k / 8]) (8 * (k % 8)) b)) ws ∧ Aside g gc gb2 w w' := by
  have ho := fun w' (hw' : HeapAt w' base g gc cap gb gb2 size last L ws) => byteAt_yes i k cl sz hash mark w' hw' hi hb h1 hs hl
  have H := Lib.hid h
  clear h hi hb
  go_enter Try.func25, Try.ntmps25
  go_wp2_with fail
  refine (ho _ H.out).mono ?_
  rintro e w1 ⟨rfl, hb1⟩
  have H1 := Lib.hid (H.out.below hb1)
  have c1 := H1.out.cell hl
  have f1 := H1.out.cfree (i + 2 + k / 8)
  obtain ⟨x, hx⟩ : ∃ x, L[i + 2 + k / 8] = x := ⟨_, rfl⟩
  rw [hx] at c1
  have HX := Lib.hid hx
  clear hx
  obtain ⟨s, hs8⟩ : ∃ s : Nat, (k : Int) % 8 * 8 = s := ⟨(k % 8 * 8), by omega⟩
  have hs56 : s ≤ 56 := by omega
  rw [hs8]
  have HS := Lib.hid hs8
  clear hs8
  have HV := Lib.hid (putB_int (x := x) hs56 hb8)
  go_wp2_with fail
  go_region
  rename_i hK
  refine hK _ _ ?_
  clear hK
  rw [HV.out]
  go_wp2_with fail
  go_ret
  have hks : s = 8 * (k % 8) := by have := HS.out; omega
  subst hks
  exact ⟨rfl, by rw [HX.out]; exact (H1.out.put (i + 2 + k / 8) _ (putB_lt hs56 hb8)).drew, ((Aside.of_below hb1).trans ((Aside.set_c w1 _ _).trans (Aside.of_below ((Below.refl _ _).drew)) (.inl rfl)) (.inl rfl))⟩
end Go.Proofs.Ytmlfooofgedmaaa.Fl
