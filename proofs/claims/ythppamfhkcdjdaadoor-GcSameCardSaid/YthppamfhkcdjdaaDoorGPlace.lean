/-
  The map from an object's pointer to when it was met, and GcSame's closure.
-/
import Derived.Test.YthppamfhkcdjdaaDoorGOrd
import Derived.Maps.OwnSet
import Derived.WalkKit
namespace Go.Proofs.YthppamfhkcdjdaaDoor.Fl
open Go.RowKit Go.Maps

theorem keyedU : Keyed Tryd.prog 43 := int_keyed Tryd.underlying43
theorem zeroInt (w : World) : (zeroValue 3).run Tryd.prog w = .ok (.int .i64 0) w := by kernel_rfl
theorem keyU {y : Nat} (h : y < 18446744073709551616) : keyOf Tryd.prog 43 (.int .u64 (y : Int)) = some (.int .u64 (y : Int)) :=
  keyOf_int_mk Tryd.underlying43 (WalkArith.wf_u64 (by omega))
/-- the map, when j of them have been put in -/
structure PlI (os : List Ob) (ks : List Nat) (j : Nat) (D : DataW Unit) : Prop where
  yes : ∀ (y i : Nat) (h : i < ks.length), i < j → 2 * pos os ks[i] = y → Maps.has D (.int .u64 (y : Int)) = true ∧ ∀ z, D.atKey (.int .u64 (y : Int)) z = .lit (.int .i64 (i : Int))
  no : ∀ y : Nat, (∀ (i : Nat) (h : i < ks.length), i < j → 2 * pos os ks[i] ≠ y) → Maps.has D (.int .u64 (y : Int)) = false
theorem PlI.start (os : List Ob) (ks : List Nat) : PlI os ks 0 (.map []) :=
  ⟨fun y i h hi => absurd hi (Nat.not_lt_zero _), fun y _ => rfl⟩
theorem PlI.step {os : List Ob} {ks : List Nat} {j : Nat} {D : DataW Unit} (h : PlI os ks j D) (hD : Maps.IsMap D) (hj : j < ks.length) (hn : ks.Nodup) (hl : ∀ k ∈ ks, k < os.length) :
    PlI os ks (j + 1) (D.put (.int .u64 ((2 * pos os ks[j] : Nat) : Int)) (.lit (.int .i64 (j : Int)))) := by
  have hne : ∀ {y : Nat}, y ≠ 2 * pos os ks[j] → (Lit.int .u64 (y : Int)) ≠ .int .u64 ((2 * pos os ks[j] : Nat) : Int) := fun hy e => by
    injection e with _ e
    exact hy (Int.ofNat.inj e)
  refine ⟨fun y i hi hij he => ?_, fun y hy => ?_⟩
  · rcases Nat.lt_or_ge i j with h1 | h1
    · have hy : y ≠ 2 * pos os ks[j] := fun e => by
        have := pos_inj os (hl _ (List.getElem_mem hi)) (hl _ (List.getElem_mem hj)) (by omega)
        have := (List.getElem_inj hn).1 this
        omega
      rw [Maps.has_put_other (hne hy)]
      obtain ⟨a1, a2⟩ := h.yes y i hi h1 he
      exact ⟨a1, fun z => by rw [Maps.atKey_put_other (hne hy)]; exact a2 z⟩
    · have e : i = j := by omega
      subst e
      subst he
      have hk : WideAt.IsKeyLit (.int .u64 ((2 * pos os ks[i] : Nat) : Int)) := by simp [WideAt.IsKeyLit]
      exact ⟨Maps.has_put_same hD hk _, fun z => Maps.atKey_put_same hD hk _ z⟩
  · have hy2 : y ≠ 2 * pos os ks[j] := fun e => hy j hj (Nat.lt_succ_self _) e.symm
    rw [Maps.has_put_other (hne hy2)]
    exact h.no y fun i hi hij => hy i hi (Nat.lt_succ_of_lt hij)
/-- what the closure reads -/
structure SameW (w : World) (Bp Bo B n c9 : Nat) (ks : List Nat) (D : DataW Unit) (A9 : Option Addr) (ow : List Nat) : Prop where
  mp : w.cell? ⟨Bp, 0, none⟩ = some (.map (some B))
  op : w.cell? ⟨Bo, 0, none⟩ = some (.slice A9 ks.length c9)
  lp : Bp < w.heap.size ∧ Bo < w.heap.size
  own : w.ownsMap Tryd.prog 43 (plainElem Tryd.prog 3) B n D
  row : Rd w w.heap.size A9 (cw ow)
set_option maxRecDepth 100000 in
set_option maxHeartbeats 4000000 in
theorem same6_in {w : World} {Bp Bo B n c9 : Nat} {os : List Ob} {ks : List Nat} {D : DataW Unit} {A9 : Option Addr} {gl : Nat → Nat} (h : SameW w Bp Bo B n c9 ks D A9 ((PP os ks).map gl)) (hp : PlI os ks ks.length D) {i y : Nat} (hi : i < ks.length) (hy : 2 * pos os ks[i] = y) (hy64 : y < 18446744073709551616) (hks : ks.length ≤ 16777216) :
    Calls Tryd.prog 13 #[.int .u64 (gl y : Int), .int .u64 (y : Int), .pointer (some ⟨Bp, 0, none⟩), .pointer (some ⟨Bo, 0, none⟩)] w fun e w' => e = .returned (.bool true) ∧ Below w.heap.size w w' := by
  obtain ⟨h1, h2⟩ := hp.yes y i hi hi hy
  have hc : ∀ c : Int, D.atKey (.int .u64 (y : Int)) (.lit (.int .i64 0)) = .lit (.int .i64 c) → c = (i : Int) := fun c e => by
    rw [h2] at e
    injection e with e
    injection e with _ e
    exact e.symm
  have hlen : ((PP os ks).map gl).length = ks.length := by rw [List.length_map, PP_len]
  obtain ⟨b, off, rfl, hb, hcell⟩ := rdw_at h.row (k := i) (by rw [hlen]; exact hi)
  have e1 : ((PP os ks).map gl)[i]'(by rw [hlen]; exact hi) = gl y := by rw [← hy]; simp [PP]
  rw [e1] at hcell
  have c1 := h.mp
  have c2 := h.op
  have hO := h.own
  have m1 : ((y : Int) % 2 == 0) = true := by rw [beq_iff_eq]; omega
  have m2 : ((y : Int).tmod 2 == 0) = true := by rw [Int.tmod_eq_emod_of_nonneg (by omega)]; exact m1
  clear h hp hy h2 e1 hlen
  generalize gl y = x at *
  go_enter Tryd.func13, Tryd.ntmps13
  go_wp2_with (at_lookup; refine wpList_lookup_own_ok_int _ rfl _ _ 42 rfl 43 3 .i64 keyedU Tryd.underlying42 Tryd.underlying3 (zeroInt _) B n D rfl hO _ _ rfl (keyU hy64) ?_; intro c hat hwc; obtain rfl := hc c hat; rw [h1])
  go_ret
  exact ⟨rfl, Below.refl _ _⟩
set_option maxRecDepth 100000 in
set_option maxHeartbeats 4000000 in
theorem same6_out {w : World} {Bp Bo B n c9 : Nat} {os : List Ob} {ks ow : List Nat} {D : DataW Unit} {A9 : Option Addr} (h : SameW w Bp Bo B n c9 ks D A9 ow) (hp : PlI os ks ks.length D) {y : Nat} (hy : ∀ (i : Nat) (h : i < ks.length), 2 * pos os ks[i] ≠ y) (hy64 : y < 18446744073709551616) :
    Calls Tryd.prog 13 #[.int .u64 (y : Int), .int .u64 (y : Int), .pointer (some ⟨Bp, 0, none⟩), .pointer (some ⟨Bo, 0, none⟩)] w fun e w' => e = .returned (.bool true) ∧ Below w.heap.size w w' := by
  have h1 := hp.no y fun i hi _ => hy i hi
  have c1 := h.mp
  have c2 := h.op
  have hO := h.own
  clear h hp hy
  go_enter Tryd.func13, Tryd.ntmps13
  go_wp2_with (at_lookup; refine wpList_lookup_own_ok_int _ rfl _ _ 42 rfl 43 3 .i64 keyedU Tryd.underlying42 Tryd.underlying3 (zeroInt _) B n D rfl hO _ _ rfl (keyU hy64) ?_; intro c hat hwc; rw [h1])
  go_ret
  exact ⟨rfl, Below.refl _ _⟩
end Go.Proofs.YthppamfhkcdjdaaDoor.Fl
