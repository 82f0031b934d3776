/-
  Memory as cells: Has, Get.
-/
import Derived.Test.YtahmljjjdoaahaaDoorHeapE
namespace Go.Proofs.YtahmljjjdoaahaaDoor.Fl
open Go.RowKit

theorem hhas_any {base g gc cap gb gb2 size last : Nat} {L ws : List Nat} (i : Nat) (w : World) (h : HeapAt w base g gc cap gb gb2 size last L ws) (h1 : 1 ≤ i) (h2 : i < 16777216) :
    Calls Tryd.prog 70 #[.pointer (some ⟨g, 0, none⟩), .int .u64 ((i : Int) * 2)] w fun e w' => e = .returned (.bool (bitAt ws i)) ∧ w = w' := by
  have hat := fun w' => at_in ((i : Int) * 2) w' (by omega) (by omega) (by omega)
  rw [show (i : Int) * 2 / 2 = (i : Int) by omega] at hat
  have hHas := fun (w' : World) (hb' : BitsAt w' gb gb2 size ws) => has_any w' i hb'
  have c2 := h.c2
  have H := Lib.hid h
  clear h
  go_enter Tryd.func70, Tryd.ntmps70
  go_wp2_with (first
    | (go_at_call 46; (with_reducible refine (hat _).mono ?_); rintro e w' ⟨rfl, rfl⟩)
    | (go_at_call 25; (with_reducible refine (there_any _ _).mono ?_); rintro e w' ⟨rfl, rfl⟩)
    | (go_at_call 47; (with_reducible refine (hHas _ H.out.bits).mono ?_); rintro e w' ⟨rfl, rfl⟩))
  go_ret
  exact ⟨rfl, rfl⟩
set_option maxHeartbeats 2000000 in
theorem word_yes {base g gc cap gb gb2 size last : Nat} {L ws : List Nat} (i k cl kind sz hash : Nat) (mark : Bool) (w : World) (h : HeapAt w base g gc cap gb gb2 size last L ws) (hi : HeadIn L i cl kind sz hash mark) (hb : bitAt ws i = true) (h1 : 1 ≤ i) (hk : kind ≠ 2) (hs : k < sz) (hl : i + 2 + k < L.length) :
    Calls Tryd.prog 43 #[.pointer (some ⟨g, 0, none⟩), .int .u64 ((i : Int) * 2), .int .i64 (k : Int)] w fun e w' => e = .returned (.tuple #[.pointer (some ⟨gc, i + 2 + k, none⟩), .int .i64 0]) ∧ Below w.heap.size w w' := by
  have ho := fun w' (hw' : HeapAt w' base g gc cap gb gb2 size last L ws) => object_yes i cl kind sz hash mark w' hw' hi hb h1
  have hk2 : ((kind : Int) == 2) = false := by simp; omega
  have hrm := h.room
  have hsm := h.small
  have hsz := (hErr_ok hi.ok).2.1
  have hg1 := h.gl.1
  have H := Lib.hid h
  clear h hi hb hk
  go_enter Tryd.func43, Tryd.ntmps43
  go_wp2_with fail
  refine (ho _ H.out).mono ?_
  rintro e w1 ⟨rfl, hb1⟩
  have c1 := (H.out.below hb1).c1
  have s1 := hb1.size
  have l1 : g < w1.heap.size := by omega
  go_wp2_with fail
  go_ret2
  exact ⟨rfl, hb1.alloc s1 _⟩
theorem get_yes {base g gc cap gb gb2 size last : Nat} {L ws : List Nat} (i k cl kind sz hash x : Nat) (mark : Bool) (w : World) (h : HeapAt w base g gc cap gb gb2 size last L ws) (hi : HeadIn L i cl kind sz hash mark) (hb : bitAt ws i = true) (h1 : 1 ≤ i) (hk : kind ≠ 2) (hs : k < sz) (hx : L[i + 2 + k]? = some x) :
    Calls Tryd.prog 71 #[.pointer (some ⟨g, 0, none⟩), .int .u64 ((i : Int) * 2), .int .i64 (k : Int)] w fun e w' => e = .returned (.tuple #[.int .u64 (x : Int), .int .i64 0]) ∧ Below w.heap.size w w' := by
  obtain ⟨hl, hx'⟩ := List.getElem?_eq_some_iff.1 hx
  have hw := fun w' (hw' : HeapAt w' base g gc cap gb gb2 size last L ws) => word_yes i k cl kind sz hash mark w' hw' hi hb h1 hk hs hl
  have H := Lib.hid h
  clear h hi hb hk
  go_enter Tryd.func71, Tryd.ntmps71
  go_wp2_with fail
  refine (hw _ H.out).mono ?_
  rintro e w1 ⟨rfl, hb1⟩
  have c1 := (H.out.below hb1).cell hl
  rw [hx'] at c1
  go_wp2_with fail
  go_ret2
  exact ⟨rfl, hb1⟩
end Go.Proofs.YtahmljjjdoaahaaDoor.Fl
