/-
  Events: the program's Text, Shown.
-/
import Derived.Test.YtlmelfakmllinaaEvD
namespace Go.Proofs.Ytlmelfakmllinaa.Fl
open Go.RowKit

/-- a row of events that is there -/
structure EvsAt (w : World) (B : Nat) (A : Option Addr) (xs : List EE) : Prop where
  rd : Rd w B A (ee_ xs)
  bs : EvBs w B xs
  sm : ∀ x ∈ xs, smallE x.1
theorem EvsAt.below {w w' : World} {B B' : Nat} {A : Option Addr} {xs : List EE} (h : EvsAt w B A xs) (hb : Below B' w w') (hB : B ≤ B') : EvsAt w' B A xs :=
  ⟨h.rd.below hb hB, h.bs.below hb hB, h.sm⟩
theorem EvsAt.more {w : World} {B B' : Nat} {A : Option Addr} {xs : List EE} (h : EvsAt w B A xs) (hB : B ≤ B') : EvsAt w B' A xs :=
  ⟨h.rd.more hB, h.bs.more hB, h.sm⟩
abbrev evs (xs : List EE) : List Ev := xs.map fun x => x.1
theorem evs_small {xs : List EE} (h : ∀ x ∈ xs, smallE x.1) : ∀ x ∈ evs xs, smallE x := fun x hx => by
  obtain ⟨y, hy, rfl⟩ := List.mem_map.1 hx
  exact h y hy
set_option maxRecDepth 100000 in
set_option maxHeartbeats 4000000 in
theorem text_anyE (xs : List EE) (A : Option Addr) (c B : Nat) (w : World) (h : EvsAt w B A xs) (hB : B ≤ w.heap.size) (hl : xs.length ≤ 40) :
    Calls Try.prog 9 #[.slice A xs.length c] w fun e w' => e = .returned (.string ⟨(textE (evs xs)).toArray⟩) ∧ Below w.heap.size w w' := by
  have hb1 : Below w.heap.size w (w.alloc (.cells #[.pointer none, .slice none 0 0] 49)) := (Below.refl _ _).alloc (Nat.le_refl _) _
  have HI1 : Hid (EbIs (w.alloc (.cells #[.pointer none, .slice none 0 0] 49)) w.heap.size w.heap.size []) := Lib.hid (Lib.fresh_isBuilder _ _ w)
  have HB1 := Lib.hid hb1
  have H := Lib.hid h
  clear h hb1
  go_enter Try.func9, Try.ntmps9
  go_upto_region 2 with fail
  generalize w.alloc (.cells #[.pointer none, .slice none 0 0] 49) = w1 at *
  go_wp2_with fail
  go_loopw [8] (fun u wr => ∃ k : Nat, k ≤ xs.length ∧ u = .int .i64 (k : Int) ∧ Hid (EbIs wr w.heap.size w.heap.size (textE (evs (xs.take k)))) ∧ Hid (Below w.heap.size w wr)) (fun u _ => xs.length - (intOf u).toNat)
  case atStart => exact ⟨0, Nat.zero_le _, rfl, HI1, HB1⟩
  case round =>
    obtain ⟨k, hk, rfl, HI, HO⟩ := hrel
    clear HI1 HB1
    by_cases hlt : k < xs.length
    case neg =>
      have hq : ¬ ((k : Int) < (xs.length : Int)) := by omega
      have HI2 : Hid (EbIs wr w.heap.size w.heap.size (textE (evs xs))) := Lib.hid (by have := HI.out; rwa [List.take_of_length_le (by omega)] at this)
      have hst := Try.Builder_String_any w.heap.size w.heap.size _ wr HI2.out HO.out.size
      go_wp2_with fail
      refine hst.mono ?_
      rintro e w5 ⟨rfl, hb5⟩
      have hb6 := HO.out.trans hb5
      clear hst
      go_wp2_with fail
      go_ret
      exact ⟨rfl, hb6⟩
    have H2 := H.out.below HO.out hB
    obtain ⟨g, off, rfl, hg, c0, c1, c2⟩ := ee_at H2.rd hlt
    obtain ⟨r1, r2, r3⟩ := H2.bs _ (List.getElem_mem hlt)
    have HS := Lib.hid (H2.sm _ (List.getElem_mem hlt))
    have hq : (k : Int) < (xs.length : Int) := by omega
    have hsz := HO.out.size
    have hlg : g < wr.heap.size := by omega
    have HT : Hid (xs.take (k + 1) = xs.take k ++ [xs[k]]) := Lib.hid (List.take_succ_eq_append_getElem hlt)
    have hln : (textE (evs (xs.take k))).length ≤ 40 * 611 := by
      have h1 := textE_len (evs_small (xs := xs.take k) fun x hx => H2.sm x (List.mem_of_mem_take hx))
      have h2 : (evs (xs.take k)).length ≤ 40 := by rw [List.length_map, List.length_take]; omega
      have h3 := Nat.mul_le_mul_right 611 h2
      omega
    have hw2 := heap_alloc_new wr (.cells #[.int .i64 xs[k].1.kd, .slice xs[k].2.1 xs[k].1.bs.length xs[k].2.2, .string ⟨xs[k].1.nm.toArray⟩] 45)
    have hb2 : Below wr.heap.size wr (wr.alloc (.cells #[.int .i64 xs[k].1.kd, .slice xs[k].2.1 xs[k].1.bs.length xs[k].2.2, .string ⟨xs[k].1.nm.toArray⟩] 45)) := (Below.refl _ _).alloc (Nat.le_refl _) _
    clear H2
    generalize xs[k] = x at *
    have HI2 := Lib.hid (HI.out.keep hb2)
    have HO2 := Lib.hid (HO.out.trans (hb2.mono hsz))
    have hr2 := r1.below (hb2.mono (Nat.le_trans hB hsz)) (Nat.le_refl _)
    have hln2 := lineE_len HS.out
    go_upto_region 5 with fail
    generalize wr.alloc (.cells #[.int .i64 x.1.kd, .slice x.2.1 x.1.bs.length x.2.2, .string ⟨x.1.nm.toArray⟩] 45) = w2 at *
    obtain ⟨f0, f1, f2, _⟩ := cells3E hw2
    have hli := line_any x.1 x.2.1 x.2.2 B w2 hr2 (Nat.le_trans hB HO2.out.size) ⟨by have := HS.out.1; omega, by have := HS.out.2; omega⟩
    have hwr := fun (w3 : World) (hb : Below w2.heap.size w2 w3) => writeE w.heap.size w.heap.size (textE (evs (xs.take k))) ⟨(lineE x.1).toArray⟩ w3 (HI2.out.keep hb) (by show _ + (lineE x.1).toArray.size ≤ _; rw [List.size_toArray]; omega) (Nat.le_trans HO2.out.size hb.size)
    have hwb := fun (w4 : World) (hi : EbAt w4 w.heap.size w.heap.size (textE (evs (xs.take k)) ++ sb ⟨(lineE x.1).toArray⟩)) (hs : w.heap.size ≤ w4.heap.size) => writeByteE w.heap.size w.heap.size _ 10 w4 (.inr hi) (by rw [List.length_append]; show _ + (lineE x.1).length + 1 ≤ _; omega) hs
    have HWR := Lib.hid hwr
    have HWB := Lib.hid hwb
    clear hw2 hb2 c0 c1 c2 r1 r2 r3 hr2 hwr hwb HI
    go_wp2_with (first
      | (go_at_call 21; refine hli.mono ?_; rintro e w3 ⟨rfl, hb3⟩; have HO3 := Lib.hid (HO2.out.trans (hb3.mono HO2.out.size)); have hwr3 := HWR.out w3 hb3; clear hli hb3)
      | (go_at_call 20; refine hwr3.mono ?_; rintro e w4 ⟨rfl, hI4, hb4⟩; have HO4 := Lib.hid (HO3.out.trans hb4); have hwb4 := HWB.out w4 hI4 HO4.out.size; clear hwr3 hI4 hb4)
      | (go_at_call 22; refine hwb4.mono ?_; rintro e w5 ⟨rfl, hI5, hb5⟩; have HI5 := Lib.hid hI5; have HO5 := Lib.hid (HO4.out.trans hb5); clear hwb4 hI5 hb5))
    go_roundw
    case rel => exact ⟨k + 1, by omega, by simp, Lib.hid (.inr (by have := HI5.out; rw [HT.out, evs, List.map_append, textE_app]; rw [List.append_assoc] at this; exact (by simpa [textE] using this))), HO5⟩
    case measure => simp [intOf]; omega
end Go.Proofs.Ytlmelfakmllinaa.Fl
