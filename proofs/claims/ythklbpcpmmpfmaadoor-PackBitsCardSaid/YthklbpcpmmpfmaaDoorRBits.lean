/-
  The document's sets: Has, Set, Next, Below.
-/
import Derived.Test.YthklbpcpmmpfmaaDoorBools
namespace Go.Proofs.YthklbpcpmmpfmaaDoor.Fl
open Go.RowKit
attribute [local irreducible] cnt

section
variable {w : World} {G N : Nat} {ws : List Nat}
theorem inl_cell (h : LAt w G (inl ws N)) {k : Nat} (hk : k < N) : w.cell? ⟨G, k, none⟩ = some (.bool (bitAt ws k)) := by
  have := h.cell (k := k) (by rw [inl_len]; exact hk)
  rw [this, inl_at ws hk]
theorem rhas_in (w : World) (c k : Nat) (h : LAt w G (inl ws N)) (hk : k < N) (hN : N ≤ 16777216) :
    Calls Tryd.prog 16 #[.agg #[.slice (some ⟨G, 0, none⟩) N c], .int .i64 (k : Int)] w fun e w' => e = .returned (.bool (bitAt ws k)) ∧ Below w.heap.size w w' := by
  have hc := inl_cell h hk
  have hl := h.lt
  clear h
  generalize bitAt ws k = b at *
  go_enter Tryd.func16, Tryd.ntmps16
  go_wp2_with fail
  go_ret
  exact ⟨rfl, (Below.refl _ _).alloc (Nat.le_refl _) _⟩
theorem rhas_out (w : World) (c : Nat) (i : Int) (h : LAt w G (inl ws N)) (hi : i < 0 ∨ (N : Int) ≤ i) (hN : N ≤ 16777216) :
    Calls Tryd.prog 16 #[.agg #[.slice (some ⟨G, 0, none⟩) N c], .int .i64 i] w fun e w' => e = .returned (.bool false) ∧ Below w.heap.size w w' := by
  clear h
  rcases hi with hi | hi
  · go_enter Tryd.func16, Tryd.ntmps16
    go_wp2_with fail
    go_ret
    exact ⟨rfl, (Below.refl _ _).alloc (Nat.le_refl _) _⟩
  · have h0 : 0 ≤ i := by omega
    go_enter Tryd.func16, Tryd.ntmps16
    go_wp2_with fail
    go_ret
    exact ⟨rfl, (Below.refl _ _).alloc (Nat.le_refl _) _⟩
def RSetPost (w : World) (G N : Nat) (ws' : List Nat) (r : Bool) (e : Ending) (w' : World) : Prop :=
  e = .returned (.bool r) ∧ LAt w' G (inl ws' N) ∧ (∀ B, B ≤ G → B ≤ w.heap.size → Below B w w') ∧ ∀ j, j < w.heap.size → j ≠ G → w'.heap[j]? = w.heap[j]?
theorem rset_quiet {ws' : List Nat} {r : Bool} {o : Obj} (h : LAt w G (inl ws' N)) : RSetPost w G N ws' r (.returned (.bool r)) (w.alloc o) :=
  ⟨rfl, h.at_ (heap_alloc_old _ _ h.lt), fun _ _ hB => (Below.refl _ _).alloc hB _, fun _ hj _ => heap_alloc_old _ _ hj⟩
theorem rset_out (w : World) (c : Nat) (i : Int) (on : Bool) (h : LAt w G (inl ws N)) (hi : i < 0 ∨ (N : Int) ≤ i) (hN : N ≤ 16777216) :
    Calls Tryd.prog 14 #[.agg #[.slice (some ⟨G, 0, none⟩) N c], .int .i64 i, .bool on] w (RSetPost w G N ws false) := by
  have H := Lib.hid h
  clear h
  rcases hi with hi | hi
  · go_enter Tryd.func14, Tryd.ntmps14
    go_wp2_with fail
    go_ret
    exact rset_quiet H.out
  · have h0 : 0 ≤ i := by omega
    go_enter Tryd.func14, Tryd.ntmps14
    go_wp2_with fail
    go_ret
    exact rset_quiet H.out
theorem rset_same (w : World) (c k : Nat) (on : Bool) (h : LAt w G (inl ws N)) (hk : k < N) (hb : bitAt ws k = on) (hN : N ≤ 16777216) :
    Calls Tryd.prog 14 #[.agg #[.slice (some ⟨G, 0, none⟩) N c], .int .i64 (k : Int), .bool on] w (RSetPost w G N ws false) := by
  have hc := inl_cell h hk
  rw [hb] at hc
  have hl := h.lt
  have H := Lib.hid h
  have he : (on == on) = true := by cases on <;> rfl
  clear h hb
  go_enter Tryd.func14, Tryd.ntmps14
  go_wp2_with fail
  go_ret
  exact rset_quiet H.out
theorem rset_flip (w : World) (c k : Nat) (on : Bool) (h : LAt w G (inl ws N)) (hk : k < N) (hl : k / 64 < ws.length) (hb : bitAt ws k = !on) (hN : N ≤ 16777216) :
    Calls Tryd.prog 14 #[.agg #[.slice (some ⟨G, 0, none⟩) N c], .int .i64 (k : Int), .bool on] w (RSetPost w G N (flip ws k) true) := by
  have hc := inl_cell h hk
  rw [hb] at hc
  have hg := h.lt
  have hset : (inl ws N).set k on = inl (flip ws k) N := by
    cases on with
    | true => exact inl_flip hl (by simpa using hb)
    | false => exact inl_flip_off hl (by simpa using hb)
  have hfz := h.free k
  have he : ((!on) == on) = false := by cases on <;> rfl
  have H := Lib.hid h
  have HS := Lib.hid hset
  clear h hb hset
  go_enter Tryd.func14, Tryd.ntmps14
  go_wp2_with fail
  go_ret
  have hsz : (w.setCell ⟨G, k, none⟩ (.bool on)).heap.size = w.heap.size := by simp [World.setCell]
  refine ⟨rfl, ?_, fun B h1 h2 => ((Below.refl B w).setCell (p := ⟨G, k, none⟩) h1 (.bool on)).alloc (by rw [hsz]; exact h2) _, fun j hj hne => ?_⟩
  · rw [← HS.out]; exact (H.out.set k on).at_ (heap_alloc_old _ _ (by rw [hsz]; exact hg))
  · exact (heap_alloc_old _ _ (by rw [hsz]; exact hj)).trans (Below.heap_setCell _ _ _ _ hne)
set_option maxHeartbeats 1000000 in
theorem rnext_any (w : World) (c m : Nat) (z : Int) (h : LAt w G (inl ws N)) (hN : N ≤ 16777216) (ht : ∀ k, N ≤ k → bitAt ws k = false) (hz : max z 0 = (m : Int)) :
    Calls Tryd.prog 18 #[.agg #[.slice (some ⟨G, 0, none⟩) N c], .int .i64 z] w fun e w' => ∃ r : Int, e = .returned (.int .i64 r) ∧ IsNext ws N m r ∧ Below w.heap.size w w' := by
  have HZ := Lib.hid hz
  have HT := Lib.hid ht
  have H := Lib.hid h
  have hg := h.lt
  clear hz ht h
  obtain ⟨w0, hw0⟩ : ∃ w0, w.alloc (.cells #[.slice (some ⟨G, 0, none⟩) N c] 28) = w0 := ⟨_, rfl⟩
  have hb0 : Below w.heap.size w w0 := by rw [← hw0]; exact (Below.refl _ _).alloc (Nat.le_refl _) _
  have c0 : w0.cell? ⟨w.heap.size, 0, none⟩ = some (.slice (some ⟨G, 0, none⟩) N c) := by rw [← hw0]; exact cell_of_row _ _ _ _ _ _ (heap_alloc_new w _)
  have H0 := Lib.hid (H.out.at_ (w' := w0) (hb0.block _ hg))
  by_cases hz0 : z < 0
  · have HM := Lib.hid (show m = 0 by have := HZ.out; omega)
    go_enter Tryd.func18, Tryd.ntmps18
    go_wp2_with fail
    go_loopw [1] (fun v wr => ∃ k : Nat, m ≤ k ∧ (k ≤ m ∨ k ≤ N) ∧ v = .int .i64 (k : Int) ∧ Hid (∀ j, m ≤ j → j < k → bitAt ws j = false) ∧ w0 = wr) (fun v _ => N - (intOf v).toNat)
    case atStart => exact ⟨m, Nat.le_refl _, .inl (Nat.le_refl _), by rw [HM.out]; rfl, Lib.hid (fun j h1 h2 => by omega), rfl⟩
    case round =>
      obtain ⟨k, hk0, hk1, rfl, HK, rfl⟩ := hrel
      by_cases hlt : k < N
      · have hc := inl_cell H0.out hlt
        cases hbit : bitAt ws k with
        | true =>
          rw [hbit] at hc
          go_wp2_with fail
          go_ret
          exact ⟨_, rfl, .inr ⟨k, rfl, hk0, hlt, hbit, HK.out⟩, hb0⟩
        | false =>
          rw [hbit] at hc
          have HB := Lib.hid hbit
          clear hbit
          go_wp2_with fail
          go_roundw
          case rel => exact ⟨k + 1, by omega, by omega, by simp, Lib.hid (fun j h1 h2 => by
            by_cases e : j = k
            · rw [e]; exact HB.out
            · exact HK.out j h1 (by omega)), by first | rfl | trivial⟩
          case measure => simp [intOf]; omega
      · go_wp2_with fail
        go_ret
        exact ⟨_, rfl, .inl ⟨rfl, fun j hj => by
          by_cases e : j < k
          · exact HK.out j hj e
          · exact HT.out j (by omega)⟩, hb0⟩
  · obtain rfl : z = (m : Int) := by have := HZ.out; omega
    clear hz0
    have hz0 : 0 ≤ (m : Int) := by omega
    go_enter Tryd.func18, Tryd.ntmps18
    go_wp2_with fail
    go_loopw [1] (fun v wr => ∃ k : Nat, m ≤ k ∧ (k ≤ m ∨ k ≤ N) ∧ v = .int .i64 (k : Int) ∧ Hid (∀ j, m ≤ j → j < k → bitAt ws j = false) ∧ w0 = wr) (fun v _ => N - (intOf v).toNat)
    case atStart => exact ⟨m, Nat.le_refl _, .inl (Nat.le_refl _), rfl, Lib.hid (fun j h1 h2 => by omega), rfl⟩
    case round =>
      obtain ⟨k, hk0, hk1, rfl, HK, rfl⟩ := hrel
      by_cases hlt : k < N
      · have hc := inl_cell H0.out hlt
        cases hbit : bitAt ws k with
        | true =>
          rw [hbit] at hc
          go_wp2_with fail
          go_ret
          exact ⟨_, rfl, .inr ⟨k, rfl, hk0, hlt, hbit, HK.out⟩, hb0⟩
        | false =>
          rw [hbit] at hc
          have HB := Lib.hid hbit
          clear hbit
          go_wp2_with fail
          go_roundw
          case rel => exact ⟨k + 1, by omega, by omega, by simp, Lib.hid (fun j h1 h2 => by
            by_cases e : j = k
            · rw [e]; exact HB.out
            · exact HK.out j h1 (by omega)), by first | rfl | trivial⟩
          case measure => simp [intOf]; omega
      · go_wp2_with fail
        go_ret
        exact ⟨_, rfl, .inl ⟨rfl, fun j hj => by
          by_cases e : j < k
          · exact HK.out j hj e
          · exact HT.out j (by omega)⟩, hb0⟩
set_option maxHeartbeats 1000000 in
theorem rbelow_any (w : World) (c i : Nat) (z : Int) (h : LAt w G (inl ws N)) (hN : N ≤ 16777216) (hz : min (max z 0) (N : Int) = (i : Int)) :
    Calls Tryd.prog 20 #[.agg #[.slice (some ⟨G, 0, none⟩) N c], .int .i64 z] w fun e w' => e = .returned (.int .i64 (cnt (bitAt ws) i : Nat)) ∧ Below w.heap.size w w' := by
  have HZ := Lib.hid hz
  have H := Lib.hid h
  have hg := h.lt
  clear hz h
  obtain ⟨w0, hw0⟩ : ∃ w0, w.alloc (.cells #[.slice (some ⟨G, 0, none⟩) N c] 28) = w0 := ⟨_, rfl⟩
  have hb0 : Below w.heap.size w w0 := by rw [← hw0]; exact (Below.refl _ _).alloc (Nat.le_refl _) _
  have c0 : w0.cell? ⟨w.heap.size, 0, none⟩ = some (.slice (some ⟨G, 0, none⟩) N c) := by rw [← hw0]; exact cell_of_row _ _ _ _ _ _ (heap_alloc_new w _)
  have H0 := Lib.hid (H.out.at_ (w' := w0) (hb0.block _ hg))
  go_enter Tryd.func20, Tryd.ntmps20
  go_wp2_with fail
  go_loopw [6, 5] (fun v u wr => ∃ k : Nat, k ≤ i ∧ v = .int .i64 (k : Int) ∧ u = .int .i64 (cnt (bitAt ws) k : Nat) ∧ w0 = wr) (fun v _ _ => i - (intOf v).toNat)
  case atStart => exact ⟨0, Nat.zero_le _, rfl, by rw [cnt_zero]; rfl, rfl⟩
  case round =>
    obtain ⟨k, hk, rfl, rfl, rfl⟩ := hrel
    by_cases hlt : k < i
    · have hkN : k < N := by have := HZ.out; omega
      have hkz : (k : Int) < z := by have := HZ.out; omega
      have hc := inl_cell H0.out hkN
      have hle := cnt_le (bitAt ws) k
      have HS := Lib.hid (show cnt (bitAt ws) (k + 1) = cnt (bitAt ws) k + (bitAt ws k).toNat by rw [cnt_add _ k 1, cnt_front, cnt_zero]; rfl)
      generalize cnt (bitAt ws) k = s at *
      have hs9 : s ≤ 16777216 := by omega
      cases hbit : bitAt ws k with
      | true =>
        rw [hbit] at hc HS
        clear hbit
        go_wp2_with fail
        go_roundw
        case rel => exact ⟨k + 1, by omega, by simp, by rw [HS.out]; simp, by first | rfl | trivial⟩
        case measure => simp [intOf]; omega
      | false =>
        rw [hbit] at hc HS
        clear hbit
        go_wp2_with fail
        go_roundw
        case rel => exact ⟨k + 1, by omega, by simp, by rw [HS.out]; simp, by first | rfl | trivial⟩
        case measure => simp [intOf]; omega
    · obtain rfl : k = i := by omega
      have hend : (N : Int) ≤ k ∨ z ≤ k := by have := HZ.out; omega
      rcases Nat.lt_or_ge k N with hq | hq
      · have hz9 : z ≤ k := by omega
        go_wp2_with fail
        go_ret
        exact ⟨rfl, hb0⟩
      · go_wp2_with fail
        go_ret
        exact ⟨rfl, hb0⟩
theorem isNext_one {n m : Nat} {r r' : Int} (h : IsNext ws n m r) (h' : IsNext ws n m r') : r = r' := by
  rcases h with ⟨rfl, h⟩ | ⟨k, rfl, h1, h2, h3, h4⟩
  · rcases h' with ⟨rfl, _⟩ | ⟨k', rfl, h1', h2', h3', h4'⟩
    · rfl
    · rw [h k' h1'] at h3'; cases h3'
  · rcases h' with ⟨rfl, h'⟩ | ⟨k', rfl, h1', h2', h3', h4'⟩
    · rw [h' k h1] at h3; cases h3
    · rcases Nat.lt_trichotomy k k' with h | h | h
      · rw [h4' k h1 h] at h3; cases h3
      · rw [h]
      · rw [h4 k' h1' h] at h3'; cases h3'
end
end Go.Proofs.YthklbpcpmmpfmaaDoor.Fl
