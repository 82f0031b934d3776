/-
  PackBits: a set of the program's and one of the document's, side by side.
-/
import Derived.Test.YthklbpcpmmpfmaaDoorRBits
import Derived.Test.YthklbpcpmmpfmaaDoorClone
import Derived.Test.YthklbpcpmmpfmaaDoorGrow
namespace Go.Proofs.YthklbpcpmmpfmaaDoor.Fl
open Go.RowKit

theorem other_type {w : World} {a b : Nat} {c1 c2 : Array Value} {t1 t2 : TypeId} (h1 : w.heap[a]? = some (.cells c1 t1 (0, 0))) (h2 : w.heap[b]? = some (.cells c2 t2 (0, 0))) (ht : t1 ≠ t2) : a ≠ b := by
  rintro rfl
  rw [h1] at h2
  injection h2 with h2
  injection h2 with _ h2 _
  exact ht h2
theorem lt_of_block {w : World} {k : Nat} {o : Obj} (h : w.heap[k]? = some o) : k < w.heap.size := by
  rcases Nat.lt_or_ge k w.heap.size with h1 | h1
  · exact h1
  · rw [Array.getElem?_eq_none h1] at h; cases h
theorem below_q2 (w : World) : ∀ q, Below w.heap.size w (w.drewN q)
  | 0 => Below.refl _ _
  | q + 1 => (below_q2 w q).drew
/-- the two sets -/
structure PB (w : World) (base g g2 G R N c : Nat) (ws : List Nat) : Prop where
  bits : BitsAt w g g2 N ws
  lat : LAt w G (inl ws N)
  rb : w.heap[R]? = some (.cells #[.slice (some ⟨G, 0, none⟩) N c] 28 (0, 0))
  env : EnvB w
  lo : base ≤ g2 ∧ base ≤ G
  eb : 0 < base
  top : base ≤ w.heap.size
section
variable {w w' w1 w2 : World} {base g g2 G R N c : Nat} {ws ws' : List Nat}
theorem PB.ne (h : PB w base g g2 G R N c ws) : g2 ≠ G ∧ g ≠ G ∧ R ≠ g2 ∧ R ≠ G := by
  obtain ⟨cc, h1⟩ := h.bits.hd
  obtain ⟨cur, h2, _⟩ := h.bits.wd
  exact ⟨other_type h2 h.lat (by decide), other_type h1 h.lat (by decide), other_type h.rb h2 (by decide), other_type h.rb h.lat (by decide)⟩
theorem PB.below (h : PB w base g g2 G R N c ws) (hb : Below w.heap.size w w') : PB w' base g g2 G R N c ws :=
  ⟨h.bits.below hb h.bits.gl h.bits.gl2, h.lat.at_ (hb.block _ h.lat.lt), (hb.block _ (lt_of_block h.rb)).trans h.rb, h.env.below hb, h.lo, h.eb, Nat.le_trans h.top hb.size⟩
theorem PB.small (h : PB w base g g2 G R N c ws) : N ≤ 16777216 := h.bits.small
theorem PB.cR (h : PB w base g g2 G R N c ws) : w.cell? ⟨R, 0, none⟩ = some (.slice (some ⟨G, 0, none⟩) N c) := cell_of_row _ _ _ _ _ _ h.rb
theorem EnvB.keep {B : Nat} (h : EnvB w) (hb : Below B w w') (hB : 0 < B) : EnvB w' := fun j hj => (hb.cell (p := ⟨0, j, none⟩) hB).trans (h j hj)
/-- the program's set turned, then the document's -/
theorem PB.setA (h : PB w base g g2 G R N c ws) (hB : BitsAt w1 g g2 N ws') (hb : ∀ B, B ≤ g2 → Below B w w1) (hs : w1.heap.size = w.heap.size) (hk : ∀ k, k ≠ g2 → w1.heap[k]? = w.heap[k]?)
    (hL : LAt w2 G (inl ws' N)) (hb2 : ∀ B, B ≤ G → B ≤ w1.heap.size → Below B w1 w2) (hj : ∀ j, j < w1.heap.size → j ≠ G → w2.heap[j]? = w1.heap[j]?) :
    PB w2 base g g2 G R N c ws' ∧ Below base w w2 := by
  obtain ⟨n1, n2, n3, n4⟩ := h.ne
  have hbb : Below base w w2 := (hb base h.lo.1).trans (hb2 base h.lo.2 (by rw [hs]; exact h.top))
  exact ⟨⟨hB.at_ (hj _ hB.gl n2) (hj _ hB.gl2 n1), hL, (hj _ (by rw [hs]; exact lt_of_block h.rb) n4).trans ((hk _ n3).trans h.rb), h.env.keep hbb h.eb, h.lo, h.eb, Nat.le_trans h.top hbb.size⟩, hbb⟩
/-- the document's set turned, then the program's -/
theorem PB.setB (h : PB w base g g2 G R N c ws) (hL : LAt w2 G (inl ws' N)) (hb2 : ∀ B, B ≤ G → B ≤ w.heap.size → Below B w w2) (hj : ∀ j, j < w.heap.size → j ≠ G → w2.heap[j]? = w.heap[j]?)
    (hB : BitsAt w1 g g2 N ws') (hb : ∀ B, B ≤ g2 → Below B w2 w1) (hk : ∀ k, k ≠ g2 → w1.heap[k]? = w2.heap[k]?) :
    PB w1 base g g2 G R N c ws' ∧ Below base w w1 := by
  obtain ⟨n1, n2, n3, n4⟩ := h.ne
  have hbb : Below base w w1 := (hb2 base h.lo.2 h.top).trans (hb base h.lo.1)
  exact ⟨⟨hB, hL.at_ (hk _ (fun e => n1 e.symm)), (hk _ n3).trans ((hj _ (lt_of_block h.rb) n4).trans h.rb), h.env.keep hbb h.eb, h.lo, h.eb, Nat.le_trans h.top hbb.size⟩, hbb⟩
theorem set_both (g g2 G N c : Nat) (i : Int) (on : Bool) (ws : List Nat) (hl : ws.length = (N + 63) / 64) (hN : N ≤ 16777216) : ∃ (ws' : List Nat) (r : Bool),
    (∀ w, BitsAt w g g2 N ws → Calls Tryd.prog 13 #[.pointer (some ⟨g, 0, none⟩), .int .i64 i, .bool on] w (SetPost w g g2 N ws' r)) ∧
    (∀ w, LAt w G (inl ws N) → Calls Tryd.prog 14 #[.agg #[.slice (some ⟨G, 0, none⟩) N c], .int .i64 i, .bool on] w (RSetPost w G N ws' r)) := by
  by_cases hi : i < 0 ∨ (N : Int) ≤ i
  · exact ⟨ws, false, fun w h => set_out g g2 N i on ws w h hi, fun w h => rset_out w c i on h hi hN⟩
  · obtain ⟨k, rfl⟩ := Int.eq_ofNat_of_zero_le (show 0 ≤ i by omega)
    have hk : k < N := by omega
    by_cases hb : bitAt ws k = on
    · exact ⟨ws, false, fun w h => set_same g g2 N k on ws w h hk hb, fun w h => rset_same w c k on h hk hb hN⟩
    · have hb' : bitAt ws k = !on := by revert hb; cases bitAt ws k <;> cases on <;> simp
      exact ⟨flip ws k, true, fun w h => set_flip g g2 N k on ws w h hk hb', fun w h => rset_flip w c k on h hk (by rw [hl]; omega) hb' hN⟩
/-- whether a number is in it, for the program and the document -/
theorem has_both (g g2 G N c : Nat) (i : Int) (ws : List Nat) (hN : N ≤ 16777216) : ∃ r : Bool,
    (∀ w, BitsAt w g g2 N ws → Calls Tryd.prog 15 #[.pointer (some ⟨g, 0, none⟩), .int .i64 i] w fun e w' => e = .returned (.bool r) ∧ w = w') ∧
    (∀ w, LAt w G (inl ws N) → Calls Tryd.prog 16 #[.agg #[.slice (some ⟨G, 0, none⟩) N c], .int .i64 i] w fun e w' => e = .returned (.bool r) ∧ Below w.heap.size w w') ∧
    ((i < 0 ∨ (N : Int) ≤ i) → r = false) ∧ ∀ k : Nat, i = k → k < N → r = bitAt ws k := by
  by_cases hi : i < 0 ∨ (N : Int) ≤ i
  · exact ⟨false, fun w h => has_out g g2 N i ws w h hi, fun w h => rhas_out w c i h hi hN, fun _ => rfl, fun k hk hkN => by omega⟩
  · obtain ⟨k, rfl⟩ := Int.eq_ofNat_of_zero_le (show 0 ≤ i by omega)
    have hk : k < N := by omega
    exact ⟨bitAt ws k, fun w h => has_in g g2 N k ws w h hk, fun w h => rhas_in w c k h hk hN, fun h => by omega, fun k' e _ => by rw [show k = k' by omega]⟩
/-- the next number, for the program and the document -/
theorem next_both (g g2 G N c : Nat) (z : Int) (ws : List Nat) (hN : N ≤ 16777216) (ht : ∀ k, N ≤ k → bitAt ws k = false) : ∃ r : Int,
    (∀ w, BitsAt w g g2 N ws → EnvB w → Calls Tryd.prog 17 #[.pointer (some ⟨g, 0, none⟩), .int .i64 z] w fun e w' => e = .returned (.int .i64 r) ∧ Below w.heap.size w w') ∧
    (∀ w, LAt w G (inl ws N) → Calls Tryd.prog 18 #[.agg #[.slice (some ⟨G, 0, none⟩) N c], .int .i64 z] w fun e w' => e = .returned (.int .i64 r) ∧ Below w.heap.size w w') := by
  obtain ⟨m, hm⟩ : ∃ m : Nat, max z 0 = (m : Int) := ⟨(max z 0).toNat, by omega⟩
  obtain ⟨r, hr⟩ : ∃ r, IsNext ws N m r := by
    by_cases h : ∃ k, m ≤ k ∧ bitAt ws k = true
    · obtain ⟨k0, h1, h2⟩ := h
      have key : ∀ d, ∀ k, k - m ≤ d → m ≤ k → bitAt ws k = true → ∃ k', m ≤ k' ∧ bitAt ws k' = true ∧ ∀ j, m ≤ j → j < k' → bitAt ws j = false := by
        intro d
        induction d with
        | zero => intro k hd hk hb; exact ⟨k, hk, hb, fun j h1 h2 => by omega⟩
        | succ d ih =>
          intro k hd hk hb
          by_cases e : ∃ j, m ≤ j ∧ j < k ∧ bitAt ws j = true
          · obtain ⟨j, j1, j2, j3⟩ := e
            exact ih j (by omega) j1 j3
          · refine ⟨k, hk, hb, fun j h1 h2 => ?_⟩
            cases hc : bitAt ws j with
            | false => rfl
            | true => exact absurd ⟨j, h1, h2, hc⟩ e
      obtain ⟨k', a, b, d⟩ := key (k0 - m) k0 (Nat.le_refl _) h1 h2
      refine ⟨(k' : Int), .inr ⟨k', rfl, a, ?_, b, d⟩⟩
      rcases Nat.lt_or_ge k' N with hlt | hge
      · exact hlt
      · rw [ht k' hge] at b; cases b
    · refine ⟨-1, .inl ⟨rfl, fun k hk => ?_⟩⟩
      cases hc : bitAt ws k with
      | false => rfl
      | true => exact absurd ⟨k, hk, hc⟩ h
  refine ⟨r, fun w h he => (next_any g g2 N m z ws w h he hm).mono ?_, fun w h => (rnext_any w c m z h hN ht hm).mono ?_⟩
  · rintro e w' ⟨r', q, rfl, hn, rfl⟩
    exact ⟨by rw [isNext_one hn hr], below_q2 w q⟩
  · rintro e w' ⟨r', rfl, hn, hb⟩
    exact ⟨by rw [isNext_one hn hr], hb⟩
/-- how many are below, for the program and the document -/
theorem below_both (g g2 G N c : Nat) (z : Int) (ws : List Nat) (hN : N ≤ 16777216) : ∃ r : Int,
    (∀ w, BitsAt w g g2 N ws → Calls Tryd.prog 19 #[.pointer (some ⟨g, 0, none⟩), .int .i64 z] w fun e w' => e = .returned (.int .i64 r) ∧ Below w.heap.size w w') ∧
    (∀ w, LAt w G (inl ws N) → Calls Tryd.prog 20 #[.agg #[.slice (some ⟨G, 0, none⟩) N c], .int .i64 z] w fun e w' => e = .returned (.int .i64 r) ∧ Below w.heap.size w w') := by
  obtain ⟨i, hi⟩ : ∃ i : Nat, min (max z 0) (N : Int) = (i : Int) := ⟨(min (max z 0) (N : Int)).toNat, by omega⟩
  refine ⟨(cnt (bitAt ws) i : Nat), fun w h => (below_nat g g2 N i z ws w h hi).mono ?_, fun w h => rbelow_any w c i z h hN hi⟩
  rintro e w' ⟨q, rfl, rfl⟩
  exact ⟨rfl, below_q2 w q⟩
end
end Go.Proofs.YthklbpcpmmpfmaaDoor.Fl
