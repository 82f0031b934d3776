/-
  Loading memory: Load, of objects without numbers of their own.
-/
import Derived.Test.YtahmljjjdoaahaaDoorSettle
namespace Go.Proofs.YtahmljjjdoaahaaDoor.Fl
open Go.RowKit

theorem cells4' {w : World} {g : Nat} {v0 v1 v2 v3 : Value} {T : TypeId} (h : w.heap[g]? = some (.cells #[v0, v1, v2, v3] T (0, 0))) :
    w.cell? ⟨g, 0, none⟩ = some v0 ∧ w.cell? ⟨g, 1, none⟩ = some v1 ∧ w.cell? ⟨g, 2, none⟩ = some v2 ∧ w.cell? ⟨g, 3, none⟩ = some v3 ∧ ∀ k, w.frozen? ⟨g, k, none⟩ = false :=
  ⟨cell_of_row _ _ _ _ _ _ h, cell_of_row _ _ _ _ _ _ h, cell_of_row _ _ _ _ _ _ h, cell_of_row _ _ _ _ _ _ h, fun _ => frozen_of_row _ _ _ _ _ h⟩
section
variable {w : World} {base g gc cap gb gb2 size last : Nat} {L ws : List Nat} {os : List Ob}
theorem HeapAt.setLast (h : HeapAt w base g gc cap gb gb2 size last L ws) (l' : Nat) : HeapAt (w.setCell ⟨g, 3, none⟩ (.int .u32 (l' : Int))) base g gc cap gb gb2 size l' L ws := by
  obtain ⟨a1, a2, a3, a4, a5, a6⟩ := h.apart
  obtain ⟨cur, hg, hb, hn, hm, hs, ht⟩ := h.row
  have hk : ∀ k, k ≠ g → (w.setCell ⟨g, 3, none⟩ (.int .u32 (l' : Int))).heap[k]? = w.heap[k]? := fun k hk => Below.heap_setCell _ _ _ _ hk
  exact ⟨heap_setCell_same w g 3 _ _ _ h.hd, ⟨h.own.1, .inr ⟨gc, cap, cur, rfl, hb, (hk gc (fun e => a1 e.symm)).trans hg, hn, hm, by omega, by rw [Nat.mul_one]; exact ht⟩⟩, h.bits.at_ (hk gb (fun e => a2 e.symm)) (hk gb2 (fun e => a3 e.symm)), h.bg, h.bb, h.bb2, h.two, h.room, h.lt⟩
def LoadPost (os : List Ob) (size : Nat) (w : World) (e : Ending) (w' : World) : Prop := ∃ g gc cap gb gb2 ws, e = .returned (.tuple #[.pointer (some ⟨g, 0, none⟩), .int .i64 0]) ∧ ObsAt w' w.heap.size g gc cap gb gb2 size 0 os ws ∧ Below w.heap.size w w'
def NoRoom (w : World) (e : Ending) (w' : World) : Prop := e = .returned (.tuple #[.pointer none, .int .i64 8]) ∧ Below w.heap.size w w'
theorem load_full (size c : Nat) (D : List Nat) (A : Option Addr) (w : World) (h0 : 16 ≤ size) (h1 : size ≤ 16777216) (hfull : size < D.length + 2) :
    Calls Tryd.prog 28 #[.int .i64 (size : Int), .int .u32 0, .slice A D.length c] w (NoRoom w) := by
  have hnew := new_ok size w h0 h1
  go_enter Tryd.func28, Tryd.ntmps28
  go_wp2_with fail
  refine hnew.mono ?_
  rintro e w1 ⟨g, gc, gb, gb2, rfl, h1, hb1⟩
  have hfr := free_any w1 h1
  rw [show ([0, 0] : List Nat).length = 2 from rfl] at hfr
  have HB := Lib.hid hb1
  have hgt : ((D.length : Int) > ((size - 2 : Nat) : Int)) := by omega
  clear hnew h1 hb1
  go_wp2_with fail
  refine hfr.mono ?_
  rintro e w' ⟨rfl, rfl⟩
  clear hfr
  go_wp2_with fail
  go_ret2
  exact ⟨rfl, HB.out⟩
set_option maxRecDepth 100000 in
set_option maxHeartbeats 4000000 in
theorem load_ok (c : Nat) (A : Option Addr) (w : World) (h0 : 16 ≤ size) (h1 : size ≤ 16777216) (hfit : (Lof os).length ≤ size) (hr : Rd w w.heap.size A (cw ((Lof os).drop 2))) (hA : A = none → ((Lof os).drop 2).length = 0) (hl : ∀ x ∈ Lof os, x < 18446744073709551616)
    (hok : ∀ o ∈ os, o.Ok) (hcl : ∀ o ∈ os, CleanO o) (hh : ∀ o ∈ os, o.hash = 0) :
    Calls Tryd.prog 28 #[.int .i64 (size : Int), .int .u32 0, .slice A ((Lof os).drop 2).length c] w (LoadPost os size w) := by
  have hnew := new_ok size w h0 h1
  have HR := Lib.hid hr
  have HA := Lib.hid hA
  have HL := Lib.hid hl
  have HF := Lib.hid hfit
  have HK := Lib.hid (And.intro hok (And.intro hcl hh))
  have HD : Hid (Lof os = [0, 0] ++ (Lof os).drop 2) := Lib.hid rfl
  have hle : ¬ ((((Lof os).drop 2).length : Int) > ((size - 2 : Nat) : Int)) := by simp; omega
  have hDl : ((Lof os).drop 2).length ≤ 16777216 := by simp; omega
  clear hr hA hl hok hcl hh hfit
  generalize hDD : (Lof os).drop 2 = D at *
  clear hDD
  go_enter Tryd.func28, Tryd.ntmps28
  go_wp2_with fail
  refine hnew.mono ?_
  rintro e w1 ⟨g, gc, gb, gb2, rfl, hH, hb1⟩
  have hfr := free_any w1 hH
  rw [show ([0, 0] : List Nat).length = 2 from rfl] at hfr
  have HH := Lib.hid hH
  have HB1 := Lib.hid hb1
  have c1 := hH.c1
  have hRd := Lib.hid ((HR.out.below hb1 (Nat.le_refl _)).more hb1.size)
  obtain ⟨i0, hi, hz0, hz1, hz2⟩ := info_parts wordinfo
  have HI := Lib.hid (And.intro hi (And.intro hz0 (And.intro hz1 hz2)))
  clear hnew hH hb1 hi hz0 hz1 hz2
  go_wp2_with fail
  refine hfr.mono ?_
  rintro e w' ⟨rfl, rfl⟩
  clear hfr
  go_wp2_with (at_builtin; refine wpList_append_rd (base := w.heap.size) (size := 1) (bytes := 8) (n := 2) (m := D.length) (c := c) (v := .slice (some ⟨gc, 0, none⟩) 2 2) (xs := cw [0, 0]) (news := cw D) rfl _ _ rfl Tryd.underlying44 HI.out.1 HI.out.2.1 HI.out.2.2.1 HI.out.2.2.2 rfl (by decide) rfl rfl HH.out.own hRd.out (by rw [cw_len]; omega) HA.out (cwh_one D) (by unfold maxLen; omega) (by omega) HB1.out.size ?_; intro v' w2 happ; obtain ⟨A2, c2, hv, hA2, hA3⟩ := happ.slice; subst hv; have HAp := Lib.hid happ; have HA2 := Lib.hid (And.intro hA2 hA3); have q := cells4' ((happ.grown.block g HH.out.gl.1 (by have := HH.out.apart.1; simpa [Value.ownBlock] using this)).trans HH.out.hd); clear happ hA2 hA3)
  have happ := HAp.out
  obtain ⟨gc', rfl, hgc'⟩ : ∃ gc', A2 = some ⟨gc', 0, none⟩ ∧ w.heap.size ≤ gc' := by
    cases A2 with
    | none => have := HA2.out.1 rfl; omega
    | some a =>
      obtain ⟨e1, e2, e3, _⟩ := HA2.out.2 a rfl
      obtain ⟨b, o, s⟩ := a
      simp only at e1 e2 e3
      subst e1 e2
      exact ⟨b, rfl, e3⟩
  have hlen : (Lof os).length = 2 + D.length := by rw [HD.out]; simp; omega
  have hO : OwnH w2 w.heap.size (.slice (some ⟨gc', 0, none⟩) (Lof os).length c2) (Lof os) := by
    have := happ.own
    rw [show cw [0, 0] ++ cw D = cw (Lof os) by rw [HD.out]; simp [cw]] at this
    unfold OwnH
    rw [hlen]; exact this
  have hG := HH.out.grown (gc' := gc') (cap' := c2) (L' := Lof os) happ.grown hO (by rw [hlen]; show 2 ≤ _; omega) HF.out HL.out
  have hG3 := hG.setLast 0
  rw [show ((0 : Nat) : Int) = 0 from rfl, hlen] at hG3
  have hb2 : Below w.heap.size w w2 := HB1.out.grown happ.grown HB1.out.size (fun k hk => by
    have e : gc = k := by simpa [Value.ownBlock] using hk
    subst e
    obtain ⟨_, _, hbc, _⟩ := HH.out.row
    exact hbc)
  have hb3 := (hb2.setCell (p := ⟨g, 1, none⟩) HH.out.bg (.slice (some ⟨gc', 0, none⟩) (2 + D.length) c2)).setCell (p := ⟨g, 3, none⟩) HH.out.bg (.int .u32 0)
  obtain ⟨w3, hw3⟩ : ∃ w3, (w2.setCell ⟨g, 1, none⟩ (.slice (some ⟨gc', 0, none⟩) (2 + D.length) c2)).setCell ⟨g, 3, none⟩ (.int .u32 0) = w3 := ⟨_, rfl⟩
  rw [hw3] at hG3 hb3 ⊢
  have hse := settle_any w3 hG3 (fun i => bitAt_zero _ i) HK.out.1 HK.out.2.1 HK.out.2.2
  have HB3 := Lib.hid hb3
  have HG3 := Lib.hid hG3
  clear happ hO hG hG3 hb2 hb3 hw3 hlen
  refine hse.mono ?_
  rintro e w4 ⟨rfl, ⟨ws', hobs⟩, has⟩
  have HOb := Lib.hid hobs
  obtain ⟨cur, _, hbc, _⟩ := HG3.out.row
  have HB4 := Lib.hid (HB3.out.trans (has.below HB3.out.size HG3.out.bg hbc HG3.out.bb2))
  clear hobs has hse hbc
  go_wp2_with fail
  go_ret2
  exact ⟨g, gc', c2, gb, gb2, ws', rfl, HOb.out, HB4.out⟩
end
end Go.Proofs.YtahmljjjdoaahaaDoor.Fl
