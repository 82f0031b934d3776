/-
  Events: the program's line, and its text of a row of them.
-/
import Derived.Test.YtlmelfakmllinaaEvC
namespace Go.Proofs.Ytlmelfakmllinaa.Fl
open Go.RowKit

theorem cells3E {w : World} {g : Nat} {x y z : Value} {T : TypeId} (h : w.heap[g]? = some (.cells #[x, y, z] T (0, 0))) :
    w.cell? ⟨g, 0, none⟩ = some x ∧ w.cell? ⟨g, 1, none⟩ = some y ∧ w.cell? ⟨g, 2, none⟩ = some z ∧ ∀ k, w.frozen? ⟨g, k, none⟩ = false :=
  ⟨cell_of_row _ _ _ _ _ _ h, cell_of_row _ _ _ _ _ _ h, cell_of_row _ _ _ _ _ _ h, fun k => frozen_of_row _ _ _ _ _ h⟩
theorem conv_bytesE (w : World) (l : List UInt8) : ∃ c w', (convert 9 32 (.string ⟨l.toArray⟩)).run Try.prog w = .ok (.slice (some ⟨w.heap.size, 0, none⟩) l.length c) w' ∧ Rd w' w'.heap.size (some ⟨w.heap.size, 0, none⟩) (cb l) ∧ Below w.heap.size w w' := by
  have h := Lib.run_convert_string_bytes (P := Try.prog) w 9 32 5 ⟨l.toArray⟩ Try.underlying9 Try.underlying32 Try.underlying5
  refine ⟨_, _, h.trans (by rw [show (⟨l.toArray⟩ : ByteArray).size = l.length from List.size_toArray]), .inr ⟨w.heap.size, 0, rfl, by rw [Lib.bytesWorld_size]; omega, fun j u hj => ?_⟩, ?_⟩
  · have hjl : j < l.length := by
      have := (List.getElem?_eq_some_iff.1 hj).1
      rwa [cb_len] at this
    rw [Nat.zero_add, Lib.bytesWorld_cell w _ _ j (by rw [show (⟨l.toArray⟩ : ByteArray).size = l.length from List.size_toArray]; exact hjl)]
    rw [cb_at l j hjl] at hj
    rw [← hj]
    simp [hjl]
  · exact ⟨rfl, rfl, rfl, by rw [Lib.bytesWorld_size]; omega, fun k hk => Lib.bytesWorld_at_old _ _ _ _ hk⟩
set_option maxRecDepth 100000 in
set_option maxHeartbeats 2000000 in
theorem line_any (x : Ev) (A : Option Addr) (c B : Nat) (w : World) (hr : Rd w B A (cb x.bs)) (hB : B ≤ w.heap.size) (hs : x.bs.length ≤ 1000 ∧ x.nm.length ≤ 1000) :
    Calls Try.prog 21 #[.agg #[.int .i64 x.kd, .slice A x.bs.length c, .string ⟨x.nm.toArray⟩]] w fun e w' => e = .returned (.string ⟨(lineE x).toArray⟩) ∧ Below w.heap.size w w' := by
  obtain ⟨kd, bs, nm⟩ := x
  have HR := Lib.hid hr
  have hw1 := heap_alloc_new w (.cells #[.int .i64 kd, .slice A bs.length c, .string ⟨nm.toArray⟩] 45)
  have hb1 : Below w.heap.size w (w.alloc (.cells #[.int .i64 kd, .slice A bs.length c, .string ⟨nm.toArray⟩] 45)) := (Below.refl _ _).alloc (Nat.le_refl _) _
  obtain ⟨f0, f1, f2, _⟩ := cells3E hw1
  have hlt := lt_of_blk hw1
  clear hr
  dsimp only at hs ⊢
  by_cases h1 : kd = 1
  · subst h1
    have hqu := fun w' (hb : Below w.heap.size w w') => quoted_any bs A c B w' (HR.out.below hb hB) (Nat.le_trans hB hb.size) hs.1
    have hq := hqu _ hb1
    have HB := Lib.hid hb1
    clear hqu hw1 hb1
    have hcl : ¬ 9223372036854775807 < 4 + (quoL bs).length := by have := quoL_len bs; omega
    go_enter Try.func21, Try.ntmps21
    go_wp2_with (go_at_call 30; refine hq.mono ?_; rintro e w2 ⟨rfl, hb2⟩; have hb3 := HB.out.trans (hb2.mono HB.out.size); clear hq hb2)
    go_ret
    refine ⟨congrArg (fun l : List UInt8 => Ending.returned (.string ⟨l.toArray⟩)) ?_, hb3⟩
    rfl
  by_cases h2 : kd = 2
  · subst h2
    have hcv := conv_bytesE (w.alloc (.cells #[.int .i64 2, .slice A bs.length c, .string ⟨nm.toArray⟩] 45)) nm
    obtain ⟨c2, w2, hcv, hr2, hb2⟩ := hcv
    have HCV := Lib.hid hcv
    clear hcv
    have hq := quoted_any nm _ c2 w2.heap.size w2 hr2 (Nat.le_refl _) hs.2
    rw [World.size_alloc] at hq
    have HB := Lib.hid (hb1.trans (hb2.mono hb1.size))
    clear hw1 hb1 hr2 hb2
    have hcl : ¬ 9223372036854775807 < 6 + (quoL nm).length := by have := quoL_len nm; omega
    go_enter Try.func21, Try.ntmps21
    go_wp2_with fail
    rw [HCV.out]
    simp only [Result.andThen]
    rw [Oper.upon_value]
    clear HCV f0 f1 f2
    go_wp2_with (go_at_call 30; refine hq.mono ?_; rintro e w3 ⟨rfl, hb2⟩; have hb3 := HB.out.trans (hb2.mono HB.out.size); clear hq hb2)
    go_ret
    refine ⟨congrArg (fun l : List UInt8 => Ending.returned (.string ⟨l.toArray⟩)) ?_, hb3⟩
    rfl
  by_cases h3 : kd = 3
  · subst h3
    have HB := Lib.hid hb1
    clear hw1 hb1
    go_enter Try.func21, Try.ntmps21
    go_wp2_with fail
    go_ret
    exact ⟨rfl, HB.out⟩
  · have HB := Lib.hid hb1
    clear hw1 hb1
    have hl : lineE ⟨kd, bs, nm⟩ = [63] := by unfold lineE; simp [h1, h2, h3]
    rw [hl]
    go_enter Try.func21, Try.ntmps21
    go_wp2_with fail
    go_ret
    exact ⟨rfl, HB.out⟩
end Go.Proofs.Ytlmelfakmllinaa.Fl
