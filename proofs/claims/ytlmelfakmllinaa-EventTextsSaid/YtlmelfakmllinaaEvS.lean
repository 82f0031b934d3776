/-
  Events: a line, read.
-/
import Derived.Test.YtlmelfakmllinaaEvR
import Derived.Deep.RegionHeld3
namespace Go.Proofs.Ytlmelfakmllinaa.Fl
open Go.RowKit

theorem lineE_pre (x : Ev) (h1 : x.kd ≠ 1) (h2 : x.kd ≠ 2) : Lib.hasPrefix (lineE x) outP = false ∧ Lib.hasPrefix (lineE x) fauP = false := by
  unfold lineE
  rw [if_neg h1, if_neg h2]
  split <;> exact ⟨by rfl, by rfl⟩
theorem meant_line (x : Ev) (w : World) (hs : smallE x) :
    Calls Try.prog 35 #[.string ⟨(lineE x).toArray⟩] w (MeantPost (canE x) w) := by
  by_cases h1 : x.kd = 1
  · rw [show lineE x = outP ++ quoL x.bs by unfold lineE; rw [if_pos h1]; rfl, show canE x = ⟨1, x.bs, []⟩ by unfold canE; rw [if_pos h1]]
    exact meant_out x.bs w (by have := hs.1; omega)
  by_cases h2 : x.kd = 2
  · rw [show lineE x = fauP ++ quoL x.nm by unfold lineE; rw [if_neg h1, if_pos h2]; rfl, show canE x = ⟨2, [], x.nm⟩ by unfold canE; rw [if_neg h1, if_pos h2]]
    exact meant_fault x.nm w (by have := hs.2; omega)
  · rw [show canE x = ⟨3, [], []⟩ by unfold canE; rw [if_neg h1, if_neg h2]]
    exact meant_else _ w (lineE_pre x h1 h2).1 (lineE_pre x h1 h2).2
def plainK (x : Ev) : Bool := decide (1 ≤ x.kd) && decide (x.kd ≤ 3)
theorem can_line (x : Ev) : (lineE (canE x) == lineE x) = plainK x := by
  unfold canE plainK
  by_cases h1 : x.kd = 1
  · rw [if_pos h1]; unfold lineE; simp [h1]
  by_cases h2 : x.kd = 2
  · rw [if_neg h1, if_pos h2]; unfold lineE; simp [h1, h2]
  rw [if_neg h1, if_neg h2]
  by_cases h3 : x.kd = 3
  · unfold lineE; simp [h1, h2, h3]
  · rw [show lineE x = [63] by unfold lineE; simp [h1, h2, h3], show lineE ⟨3, [], []⟩ = [115, 97, 118, 101, 100] from rfl]
    rw [show (([115, 97, 118, 101, 100] : List UInt8) == [63]) = false from by decide]
    symm
    rw [Bool.and_eq_false_iff]
    simp
    omega
theorem read_result {W : World} {C : Nat} {v0 v1 v2 u : Value} {a : Array Value} (h : W.heap[C]? = some (.cells #[v0, v1, v2] 45 (0, 0))) (h2 : a[2]?.getD undef = .pointer (some ⟨C, 0, none⟩)) (h3 : a[3]?.getD undef = u) :
    (results Try.f27 a).run Try.prog W = .ok (.tuple #[.agg #[v0, v1, v2], u]) W := by
  obtain ⟨c0, c1, c2, _⟩ := cells3E h
  simp [results, Try.results27, go_sem, h2, h3, c0, c1, c2]
set_option maxRecDepth 100000 in
set_option maxHeartbeats 4000000 in
theorem read_line (x : Ev) (w : World) (hs : smallE x) :
    Calls Try.prog 27 #[.string ⟨(lineE x).toArray⟩] w fun e w' => ∃ A c, e = .returned (.tuple #[.agg #[.int .i64 (canE x).kd, .slice A (canE x).bs.length c, .string ⟨(canE x).nm.toArray⟩], .bool (plainK x)]) ∧ Own w' w.heap.size (.slice A (canE x).bs.length c) (canE x).bs ∧ Below w.heap.size w w' := by
  have hw0 := heap_alloc_new w (.cells #[.int .i64 0, .slice none 0 0, .string ⟨#[]⟩] 45)
  have hb0 : Below w.heap.size w (w.alloc (.cells #[.int .i64 0, .slice none 0 0, .string ⟨#[]⟩] 45)) := (Below.refl _ _).alloc (Nat.le_refl _) _
  have HB0 := Lib.hid hb0
  clear hb0
  have HSy : Hid (smallE (canE x)) := Lib.hid (by
    unfold canE smallE
    have h1 := hs.1
    have h2 := hs.2
    split
    · exact ⟨h1, by simp⟩
    · split
      · exact ⟨by simp, h2⟩
      · exact ⟨by simp, by simp⟩)
  have HCL := Lib.hid (can_line x)
  have HME := Lib.hid (fun (w' : World) => meant_line x w' hs)
  generalize canE x = y at *
  go_enter Try.func27, Try.ntmps27
  go_upto_region 1 with fail
  generalize w.alloc (.cells #[.int .i64 0, .slice none 0 0, .string ⟨#[]⟩] 45) = w0 at *
  have hme := HME.out w0
  have hlt := lt_of_blk hw0
  go_upto_region 2 with (go_at_call 35; refine hme.mono ?_; rintro e w2 ⟨A, c, rfl, ho, hb2⟩; have HO := Lib.hid ho; have HB2 := Lib.hid hb2; have hw2 := (hb2.block _ hlt).trans hw0; have hl2 := lt_of_blk hw2; clear hme ho hb2)
  -- the last step
  obtain ⟨X, hX⟩ : ∃ X, w2.heap.size = X := ⟨_, rfl⟩
  obtain ⟨W3, hW3⟩ : ∃ W, w2.alloc (.cells #[.int .i64 y.kd, .slice A y.bs.length c, .string ⟨y.nm.toArray⟩] 45) = W := ⟨_, rfl⟩
  have hw3 : W3.heap[X]? = some (.cells #[.int .i64 y.kd, .slice A y.bs.length c, .string ⟨y.nm.toArray⟩] 45 (0, 0)) := by rw [← hW3, ← hX]; exact heap_alloc_new _ _
  have hb3 : Below w2.heap.size w2 W3 := by rw [← hW3]; exact (Below.refl _ _).alloc (Nat.le_refl _) _
  have HW3 := Lib.hid hw3
  have HC3 := Lib.hid ((hb3.block _ hl2).trans hw2)
  have HO3 := Lib.hid (OwnE_below HO.out hb3)
  have HB3 := Lib.hid (HB0.out.trans ((HB2.out.trans (hb3.mono HB2.out.size)).mono HB0.out.size))
  have hli := line_any y A c W3.heap.size W3.drew ((ownE_rd HO3.out).1.below (Below.refl _ _).drew (Nat.le_refl _)) (Nat.le_refl _) ⟨by have := HSy.out.1; omega, by have := HSy.out.2; omega⟩
  have HQ := Lib.hid (eqStrE (lineE y) (lineE x))
  rw [hX]
  rw [hW3]
  clear hW3 hb3 hw3 hw2 hw0 hs
  refine wp_region_noPanic ?_
  refine wp_region_held_drew (S := (fun w' : World => w'.cell? ⟨X, 0, none⟩ = some (.int .i64 y.kd) ∧ w'.cell? ⟨X, 1, none⟩ = some (.slice A y.bs.length c) ∧ w'.cell? ⟨X, 2, none⟩ = some (.string ⟨y.nm.toArray⟩))) (by kernel_rfl) (by obtain ⟨a0, a1, a2, _⟩ := cells3E HW3.out; exact ⟨a0, a1, a2⟩) (fun hHeld => ?_)
  refine wpAnyH_take (i := 0) (v := ?_) (by first | (simp only [List.getElem?_toArray, List.getElem?_cons_succ, List.getElem?_cons_zero]; rfl) | rfl) (by kernel_rfl) (by kernel_rfl) (by kernel_rfl) (fun _ _ _ h => h) (Or.inl ⟨by rfl, ?_⟩) (by assumption) ?_
  rotate_left 1
  · (intro w' hSw; (try dsimp only at hSw); go_simp; (try with_reducible rfl))
  try simp only [Act.put, List.setIfInBounds_toArray, List.set_cons_zero, List.set_cons_succ]
  refine wpAnyH_take (i := 1) (v := ?_) (by first | (simp only [List.getElem?_toArray, List.getElem?_cons_succ, List.getElem?_cons_zero]; rfl) | rfl) (by kernel_rfl) (by kernel_rfl) (by kernel_rfl) (fun _ _ _ h => h) (Or.inl ⟨by rfl, ?_⟩) (by assumption) ?_
  rotate_left 1
  · (intro w' hSw; (try dsimp only at hSw); go_simp; (try with_reducible rfl))
  try simp only [Act.put, List.setIfInBounds_toArray, List.set_cons_zero, List.set_cons_succ]
  refine wpAnyH_take (i := 3) (v := ?_) (by first | (simp only [List.getElem?_toArray, List.getElem?_cons_succ, List.getElem?_cons_zero]; rfl) | rfl) (by kernel_rfl) (by kernel_rfl) (by kernel_rfl) (fun _ _ _ h => h) (Or.inl ⟨by rfl, ?_⟩) (by assumption) ?_
  rotate_left 1
  · (intro w' hSw; (try dsimp only at hSw); go_simp; (try with_reducible rfl))
  try simp only [Act.put, List.setIfInBounds_toArray, List.set_cons_zero, List.set_cons_succ]
  refine wpAnyH_ready (rs := [2]) (by kernel_rfl) (by simp) ?_
  refine AllReadyH.cons (by first | (simp only [List.getElem?_toArray, List.getElem?_cons_succ, List.getElem?_cons_zero]; rfl) | rfl) (fun K hK => ?_) AllReadyH.nil
  go_simp
  refine hli.mono ?_
  rintro e W4 ⟨rfl, hb4⟩
  dsimp only
  have HB4 := Lib.hid (show Below W3.heap.size W3 W4 from (Below.refl _ _).drew.trans hb4)
  clear hli hb4
  refine hK.out _ _ (by obtain ⟨a0, a1, a2, _⟩ := cells3E ((HB4.out.block _ (lt_of_blk HW3.out)).trans HW3.out); exact ⟨a0, a1, a2⟩) (fun hHeld => ?_)
  clear hK K
  try simp only [Act.put, List.setIfInBounds_toArray, List.set_cons_zero, List.set_cons_succ]
  refine wpAnyH_take (i := 4) (v := .bool (plainK x)) (by first | (simp only [List.getElem?_toArray, List.getElem?_cons_succ, List.getElem?_cons_zero]; rfl) | rfl) (by kernel_rfl) (by kernel_rfl) (by kernel_rfl) (fun _ _ _ h => h) (Or.inl ⟨by rfl, ?_⟩) (by assumption) ?_
  · (intro w' hSw; (try dsimp only at hSw); go_simp; (first | (rw [← HCL.out]) | (rw [HQ.out, HCL.out]) | (trace_state; sorry)))
  try simp only [Act.put, List.setIfInBounds_toArray, List.set_cons_zero, List.set_cons_succ]
  refine wpAnyH_ready (rs := [5]) (by kernel_rfl) (by simp) ?_
  refine AllReadyH.cons (by first | (simp only [List.getElem?_toArray, List.getElem?_cons_succ, List.getElem?_cons_zero]; rfl) | rfl) (fun K hK => ?_) AllReadyH.nil
  have hc4 := (HB4.out.block _ (lt_of_blk HC3.out)).trans HC3.out
  have hl4 := lt_of_blk hc4
  obtain ⟨f0, f1, f2, f3⟩ := cells3E hc4
  go_simp
  have hXC : X ≠ w.heap.size := by omega
  have hw5 := set3E hc4 (.int .i64 y.kd) (.slice A y.bs.length c) (.string ⟨y.nm.toArray⟩)
  have HX5 := Lib.hid (((Below.heap_setCell _ ⟨w.heap.size, 2, none⟩ (.string ⟨y.nm.toArray⟩) X hXC).trans ((Below.heap_setCell _ ⟨w.heap.size, 1, none⟩ (.slice A y.bs.length c) X hXC).trans (Below.heap_setCell W4 ⟨w.heap.size, 0, none⟩ (.int .i64 y.kd) X hXC))).trans ((HB4.out.block _ (lt_of_blk HW3.out)).trans HW3.out))
  have HO5 := Lib.hid (own3E (OwnE_below HO3.out HB4.out) hlt (.int .i64 y.kd) (.slice A y.bs.length c) (.string ⟨y.nm.toArray⟩))
  have HB5 := Lib.hid (below3E (HB3.out.trans (HB4.out.mono HB3.out.size)) (Nat.le_refl w.heap.size) (.int .i64 y.kd) (.slice A y.bs.length c) (.string ⟨y.nm.toArray⟩))
  refine hK.out _ _ (by obtain ⟨a0, a1, a2, _⟩ := cells3E HX5.out; exact ⟨a0, a1, a2⟩) (fun hHeld => ?_)
  clear hK K
  try simp only [Act.put, List.setIfInBounds_toArray, List.set_cons_zero, List.set_cons_succ]
  refine wpAnyH_take (i := 6) (v := ?_) (by first | (simp only [List.getElem?_toArray, List.getElem?_cons_succ, List.getElem?_cons_zero]; rfl) | rfl) (by kernel_rfl) (by kernel_rfl) (by kernel_rfl) (fun _ _ _ h => h) (Or.inl ⟨by rfl, ?_⟩) (by assumption) ?_
  rotate_left 1
  · (intro w' hSw; (try dsimp only at hSw); go_simp; (try with_reducible rfl))
  try simp only [Act.put, List.setIfInBounds_toArray, List.set_cons_zero, List.set_cons_succ]
  refine wpAnyH_done (by kernel_rfl) ?_ _
  refine NoPanic.normal ?_
  go_wp2_with fail
  exact bodyPost_ret (read_result hw5 rfl rfl) rfl ⟨A, c, rfl, HO5.out.wideE (Nat.le_of_lt hlt), HB5.out⟩
end Go.Proofs.Ytlmelfakmllinaa.Fl
