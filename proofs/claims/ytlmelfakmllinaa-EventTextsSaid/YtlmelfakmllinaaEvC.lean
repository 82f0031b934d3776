/-
  Events: bytes quoted.
-/
import Derived.Test.YtlmelfakmllinaaEvB
namespace Go.Proofs.Ytlmelfakmllinaa.Fl
open Go.RowKit

theorem digit16 : ∀ n : Fin 16, ((⟨#[48, 49, 50, 51, 52, 53, 54, 55, 56, 57, 97, 98, 99, 100, 101, 102]⟩ : ByteArray)[((n.val : Int)).toNat]'(by show ((n.val : Int)).toNat < 16; omega)).toNat = (hexB n.val).toNat := by decide +kernel
theorem and256 : ∀ n : Fin 256, bits BinOp.and IntKind.u8 (n.val : Int) 15 = ((n.val % 16 : Nat) : Int) := by decide +kernel
theorem digitE (n : Nat) (h : n < 16) (i : Int) (hi : i = (n : Int)) (h2 : 0 ≤ i ∧ i < 16) :
    ((⟨#[48, 49, 50, 51, 52, 53, 54, 55, 56, 57, 97, 98, 99, 100, 101, 102]⟩ : ByteArray)[i.toNat]'(by show i.toNat < 16; omega)).toNat = (hexB n).toNat := by
  subst hi
  clear h2
  have h3 := digit16 ⟨n, h⟩
  exact h3
theorem and15E (c : UInt8) : bits BinOp.and IntKind.u8 (c.toNat : Int) 15 = ((c.toNat % 16 : Nat) : Int) := and256 ⟨c.toNat, c.toNat_lt⟩
set_option maxRecDepth 100000 in
set_option maxHeartbeats 4000000 in
theorem quoted_any (l : List UInt8) (A : Option Addr) (c B : Nat) (w : World) (hr : Rd w B A (cb l)) (hB : B ≤ w.heap.size) (hl : l.length ≤ 1000) :
    Calls Try.prog 30 #[.slice A l.length c] w fun e w' => e = .returned (.string ⟨(quoL l).toArray⟩) ∧ Below w.heap.size w w' := by
  have hw1 := heap_alloc_new w (.cells #[.pointer none, .slice none 0 0] 49)
  have hb1 : Below w.heap.size w (w.alloc (.cells #[.pointer none, .slice none 0 0] 49)) := (Below.refl _ _).alloc (Nat.le_refl _) _
  have HI1 : Hid (EbIs (w.alloc (.cells #[.pointer none, .slice none 0 0] 49)) w.heap.size w.heap.size []) := Lib.hid (Lib.fresh_isBuilder _ _ w)
  have HB1 := Lib.hid hb1
  have HR := Lib.hid hr
  clear hr hb1 hw1
  go_enter Try.func30, Try.ntmps30
  go_upto_region 2 with fail
  generalize w.alloc (.cells #[.pointer none, .slice none 0 0] 49) = w1 at *
  have hwr := writeE w.heap.size w.heap.size [] ⟨#[34]⟩ w1 HI1.out (by decide) HB1.out.size
  go_wp2_with (go_at_call 20; refine hwr.mono ?_; rintro e w2 ⟨rfl, hI2, hb2⟩; have HI2 := Lib.hid hI2; have HB2 := Lib.hid (HB1.out.trans hb2); clear hwr hI2 hb2)
  clear HI1 HB1
  go_loopw [9] (fun u wr => ∃ k : Nat, k ≤ l.length ∧ u = .int .i64 (k : Int) ∧ Hid (EbAt wr w.heap.size w.heap.size (34 :: (l.take k).flatMap quoB)) ∧ Hid (Below w.heap.size w wr)) (fun u _ => l.length - (intOf u).toNat)
  case atStart => exact ⟨0, Nat.zero_le _, rfl, HI2, HB2⟩
  case round =>
    obtain ⟨k, hk, rfl, HI, HO⟩ := hrel
    clear HI2 HB2
    by_cases hlt : k < l.length
    case neg =>
      have hq : ¬ ((k : Int) < (l.length : Int)) := by omega
      have HI2 : Hid (EbAt wr w.heap.size w.heap.size (34 :: l.flatMap quoB)) := Lib.hid (by have := HI.out; rwa [List.take_of_length_le (by omega)] at this)
      have hlen := flat_len quoB 3 l fun x _ => quoB_len x
      have hwr := writeE w.heap.size w.heap.size (34 :: l.flatMap quoB) ⟨#[34]⟩ wr (.inr HI2.out) (by rw [List.length_cons]; show _ + 1 ≤ _; omega) HO.out.size
      go_wp2_with (go_at_call 20; refine hwr.mono ?_; rintro e w4 ⟨rfl, hI4, hb4⟩; have HI4 := Lib.hid hI4; have HO4 := Lib.hid (HO.out.trans hb4); clear hwr hI4 hb4; have hst := Try.Builder_String_any w.heap.size w.heap.size _ w4 (.inr HI4.out) HO4.out.size)
      refine hst.mono ?_
      rintro e w5 ⟨rfl, hb5⟩
      have hb6 := HO4.out.trans hb5
      clear hst
      go_wp2_with fail
      go_ret
      exact ⟨rfl, hb6⟩
    obtain ⟨g, off, rfl, hg, hc⟩ := rdb_at (HR.out.below HO.out hB) hlt
    have hq : (k : Int) < (l.length : Int) := by omega
    have hlg : g < wr.heap.size := by have := HO.out.size; omega
    have HT : Hid (l.take (k + 1) = l.take k ++ [l[k]]) := Lib.hid (List.take_succ_eq_append_getElem hlt)
    have hln : ((l.take k).flatMap quoB).length ≤ 3 * k := by
      have := flat_len quoB 3 (l.take k) fun x _ => quoB_len x
      rw [List.length_take] at this
      omega
    generalize hx : l[k] = x at *
    clear hx
    have hpl := isPlain_any x wr
    by_cases hp : plainB x = true
    · have hwb := writeByteE w.heap.size w.heap.size _ x wr (.inr HI.out) (by rw [List.length_cons]; omega) HO.out.size
      rw [hp] at hpl
      go_wp2_with (first | (go_at_call 37; refine hpl.mono ?_; rintro e w3 ⟨rfl, rfl⟩; clear hpl) | (go_at_call 22; refine hwb.mono ?_; rintro e w4 ⟨rfl, hI4, hb4⟩; have HI4 := Lib.hid hI4; have HO4 := Lib.hid (HO.out.trans hb4); clear hwb hI4 hb4))
      go_roundw
      case rel => exact ⟨k + 1, by omega, by simp, Lib.hid (by rw [HT.out, List.flatMap_append]; have := HI4.out; rw [show [x].flatMap quoB = [x] by simp [quoB, hp]]; exact this), HO4⟩
      case measure => simp [intOf]; omega
    · have hp0 : plainB x = false := by simpa using hp
      rw [hp0] at hpl
      go_upto_region 8 with (go_at_call 37; refine hpl.mono ?_; rintro e w3 ⟨rfl, rfl⟩; clear hpl)
      have hxl := x.toNat_lt
      have hx1 : 0 ≤ (x.toNat : Int) / 16 ∧ (x.toNat : Int) / 16 < 16 := by omega
      have hx0 := and15E x
      have hx2 : 0 ≤ (x.toNat : Int) % 16 ∧ (x.toNat : Int) % 16 < 16 := by omega
      refine wp_region_noPanic ?_
      refine wp_region_held_drew (S := fun _ => True) (by kernel_rfl) trivial (fun hHeld => ?_)
      refine wpAnyH_take (i := 0) (v := ?_) (by first | (simp only [List.getElem?_toArray, List.getElem?_cons_succ, List.getElem?_cons_zero]; rfl) | rfl) (by kernel_rfl) (by kernel_rfl) (by kernel_rfl) (fun _ _ _ h => h) (Or.inl ⟨by rfl, ?_⟩) (by assumption) ?_
      rotate_left 1
      · (intro w' hSw; (try dsimp only at hSw); go_simp; (try with_reducible rfl))
      try simp only [Act.put, List.setIfInBounds_toArray, List.set_cons_zero, List.set_cons_succ]
      refine wpAnyH_take (i := 1) (v := ?_) (by first | (simp only [List.getElem?_toArray, List.getElem?_cons_succ, List.getElem?_cons_zero]; rfl) | rfl) (by kernel_rfl) (by kernel_rfl) (by kernel_rfl) (fun _ _ _ h => h) (Or.inl ⟨by rfl, ?_⟩) (by assumption) ?_
      rotate_left 1
      · (intro w' hSw; (try dsimp only at hSw); go_simp; (try with_reducible rfl))
      try simp only [Act.put, List.setIfInBounds_toArray, List.set_cons_zero, List.set_cons_succ]
      refine wpAnyH_take (i := 2) (v := .int .u8 ((hexB (x.toNat / 16)).toNat : Int)) (by first | (simp only [List.getElem?_toArray, List.getElem?_cons_succ, List.getElem?_cons_zero]; rfl) | rfl) (by kernel_rfl) (by kernel_rfl) (by kernel_rfl) (fun _ _ _ h => h) (Or.inl ⟨by rfl, ?_⟩) (by assumption) ?_
      · intro w' hSw
        go_simp
        rw [digitE (x.toNat / 16) (by omega) _ (by omega) hx1]
      try simp only [Act.put, List.setIfInBounds_toArray, List.set_cons_zero, List.set_cons_succ]
      refine wpAnyH_take (i := 3) (v := ?_) (by first | (simp only [List.getElem?_toArray, List.getElem?_cons_succ, List.getElem?_cons_zero]; rfl) | rfl) (by kernel_rfl) (by kernel_rfl) (by kernel_rfl) (fun _ _ _ h => h) (Or.inl ⟨by rfl, ?_⟩) (by assumption) ?_
      rotate_left 1
      · (intro w' hSw; (try dsimp only at hSw); go_simp; (try with_reducible rfl))
      try simp only [Act.put, List.setIfInBounds_toArray, List.set_cons_zero, List.set_cons_succ]
      refine wpAnyH_take (i := 4) (v := ?_) (by first | (simp only [List.getElem?_toArray, List.getElem?_cons_succ, List.getElem?_cons_zero]; rfl) | rfl) (by kernel_rfl) (by kernel_rfl) (by kernel_rfl) (fun _ _ _ h => h) (Or.inl ⟨by rfl, ?_⟩) (by assumption) ?_
      rotate_left 1
      · (intro w' hSw; (try dsimp only at hSw); go_simp; (try with_reducible rfl))
      try simp only [Act.put, List.setIfInBounds_toArray, List.set_cons_zero, List.set_cons_succ]
      refine wpAnyH_take (i := 5) (v := .int .u8 ((hexB (x.toNat % 16)).toNat : Int)) (by first | (simp only [List.getElem?_toArray, List.getElem?_cons_succ, List.getElem?_cons_zero]; rfl) | rfl) (by kernel_rfl) (by kernel_rfl) (by kernel_rfl) (fun _ _ _ h => h) (Or.inl ⟨by rfl, ?_⟩) (by assumption) ?_
      · intro w' hSw
        go_simp
        rw [digitE (x.toNat % 16) (by omega) ((x.toNat : Int) % 16) (by omega) hx2]
      try simp only [Act.put, List.setIfInBounds_toArray, List.set_cons_zero, List.set_cons_succ]
      refine wpAnyH_ready (rs := [6]) (by kernel_rfl) (by simp) ?_
      refine AllReadyH.cons (by first | (simp only [List.getElem?_toArray, List.getElem?_cons_succ, List.getElem?_cons_zero]; rfl) | rfl) (fun K hK => ?_) AllReadyH.nil
      go_simp
      have hw9 := heap_alloc_new wr (.cells (cb [92, hexB (x.toNat / 16), hexB (x.toNat % 16)]).toArray 5)
      have hb9 : Below wr.heap.size wr (wr.alloc (.cells (cb [92, hexB (x.toNat / 16), hexB (x.toNat % 16)]).toArray 5)).drew := ((Below.refl _ _).alloc (Nat.le_refl _) _).drew
      have hr9 : Rd (wr.alloc (.cells (cb [92, hexB (x.toNat / 16), hexB (x.toNat % 16)]).toArray 5)).drew (wr.alloc (.cells (cb [92, hexB (x.toNat / 16), hexB (x.toNat % 16)]).toArray 5)).drew.heap.size (some ⟨wr.heap.size, 0, none⟩) (cb [92, hexB (x.toNat / 16), hexB (x.toNat % 16)]) := .inr ⟨wr.heap.size, 0, rfl, lt_of_blk hw9, fun j u hj => by
        rw [Nat.zero_add]
        exact (cell_of_row _ _ _ _ _ _ (show (wr.alloc (.cells (cb [92, hexB (x.toNat / 16), hexB (x.toNat % 16)]).toArray 5)).drew.heap[wr.heap.size]? = _ from hw9)).trans ((List.getElem?_toArray ..).trans hj)⟩
      have hwr9 := writeRowE w.heap.size w.heap.size _ [92, hexB (x.toNat / 16), hexB (x.toNat % 16)] (some ⟨wr.heap.size, 0, none⟩) 3 _ (.inr (HI.out.keep hb9)) hr9 (fun ad e => by injection e with e; subst e; show wr.heap.size ≠ w.heap.size; have := lt_of_blk HI.out.2.choose_spec.1; omega) (fun e => by cases e) (by rw [List.length_cons]; show _ + 1 + 3 ≤ _; omega) (Nat.le_trans HO.out.size hb9.size)
      refine hK.out _ _ trivial (fun hHeld => ?_)
      clear hK K
      try simp only [Act.put, List.setIfInBounds_toArray, List.set_cons_zero, List.set_cons_succ]
      refine wpAnyH_ready (rs := [7]) (by kernel_rfl) (by simp) ?_
      refine AllReadyH.cons (by first | (simp only [List.getElem?_toArray, List.getElem?_cons_succ, List.getElem?_cons_zero]; rfl) | rfl) (fun K hK => ?_) AllReadyH.nil
      go_simp
      refine hwr9.mono ?_
      rintro e w4 ⟨rfl, hI4, hb4⟩
      dsimp only
      have HI4 := Lib.hid hI4
      have HO4 := Lib.hid ((HO.out.trans (hb9.mono HO.out.size)).trans hb4)
      clear hwr9 hr9 hw9 hI4 hb4
      refine hK.out _ _ trivial (fun hHeld => ?_)
      clear hK K
      try simp only [Act.put, List.setIfInBounds_toArray, List.set_cons_zero, List.set_cons_succ]
      refine wpAnyH_done (by kernel_rfl) ?_ _
      refine NoPanic.normal ?_
      go_wp2_with fail
      go_roundw
      case rel => exact ⟨k + 1, by omega, by simp, Lib.hid (by rw [HT.out, List.flatMap_append]; have := HI4.out; rw [show [x].flatMap quoB = [92, hexB (x.toNat / 16), hexB (x.toNat % 16)] by simp [quoB, hp0]]; exact this), HO4⟩
      case measure => simp [intOf]; omega
end Go.Proofs.Ytlmelfakmllinaa.Fl

