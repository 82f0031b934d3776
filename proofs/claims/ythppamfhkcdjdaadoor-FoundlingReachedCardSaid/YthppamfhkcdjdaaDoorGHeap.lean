/-
  A heap's Clone and Same; Live; where something is loose, Collect changes nothing.
-/
import Derived.Test.YthppamfhkcdjdaaDoorPGColl
import Derived.Test.YthppamfhkcdjdaaDoorPPut
import Derived.Test.YthppamfhkcdjdaaDoorPAwM
namespace Go.Proofs.YthppamfhkcdjdaaDoor.Fl
open Go.RowKit

section
variable {base g gc cap gb gb2 size last : Nat} {os : List Ob} {ws fs : List Nat}
def CloneHPost (size last : Nat) (os : List Ob) (ws : List Nat) (w : World) (e : Ending) (w' : World) : Prop := ∃ g' gc' cap' gb' gb2', e = .returned (.pointer (some ⟨g', 0, none⟩)) ∧ ObsAt w' w.heap.size g' gc' cap' gb' gb2' size last os ws ∧ Below w.heap.size w w'
theorem clone_mk {w w2 : World} {gc' cap' gb' gb2' : Nat} (h : ObsAt w base g gc cap gb gb2 size last os ws) (hb : Below w.heap.size w w2) (ho : OwnH w2 w.heap.size (.slice (some ⟨gc', 0, none⟩) (Lof os).length cap') (Lof os)) (hB : BitsAt w2 gb' gb2' size ws) (h1 : w.heap.size ≤ gb') (h2 : w.heap.size ≤ gb2') :
    ObsAt (w2.alloc (.cells #[.int .i64 (size : Int), .slice (some ⟨gc', 0, none⟩) (Lof os).length cap', .pointer (some ⟨gb', 0, none⟩), .int .u32 (last : Int)] 101)) w.heap.size w2.heap.size gc' cap' gb' gb2' size last os ws ∧ Below w.heap.size w (w2.alloc (.cells #[.int .i64 (size : Int), .slice (some ⟨gc', 0, none⟩) (Lof os).length cap', .pointer (some ⟨gb', 0, none⟩), .int .u32 (last : Int)] 101)) := by
  have ha : Below w2.heap.size w2 (w2.alloc (.cells #[.int .i64 (size : Int), .slice (some ⟨gc', 0, none⟩) (Lof os).length cap', .pointer (some ⟨gb', 0, none⟩), .int .u32 (last : Int)] 101)) := (Below.refl _ _).alloc (Nat.le_refl _) _
  exact ⟨⟨⟨heap_alloc_new w2 _, ho.keep (fun k cur hc => ha.block k (lt_of_block hc)), hB.below ha hB.gl hB.gl2, hb.size, h1, h2, h.heap.two, h.heap.room, h.heap.lt⟩, h.set, h.ok⟩, hb.trans (ha.mono hb.size)⟩
theorem row_some {w : World} {L : List Nat} (hl : 0 < L.length) {e : Ending} {w' : World} (h : RowPost L w e w') : ∃ b c, e = .returned (.slice (some ⟨b, 0, none⟩) L.length c) ∧ OwnH w' w.heap.size (.slice (some ⟨b, 0, none⟩) L.length c) L ∧ Below w.heap.size w w' := by
  obtain ⟨A, c, rfl, ho, hb⟩ := h
  rcases ho.2 with ⟨_, e2⟩ | ⟨g', cap', cur, e1, _⟩
  · omega
  · have e4 := e1
    injection e4 with e4 _ e5
    subst e4 e5
    exact ⟨g', _, rfl, ho, hb⟩
set_option maxHeartbeats 2000000 in
theorem hclone_any (w : World) (h : ObsAt w base g gc cap gb gb2 size last os ws) : Calls Tryd.prog 19 #[.pointer (some ⟨g, 0, none⟩)] w (CloneHPost size last os ws w) := by
  have hcw := fun (w' : World) (hb : Below w.heap.size w w') => clone_ha (Lof os) cap ⟨gc, 0, none⟩ w' (ownH_rd (h.below hb).heap.own) h.len
  have hcb := fun (w' : World) (hb : Below w.heap.size w w') => clone_any gb gb2 size ws w' (h.below hb).heap.bits
  have H := Lib.hid h
  have hl2 : 0 < (Lof os).length := by have := h.heap.two; omega
  have HCw := Lib.hid hcw
  have HCb := Lib.hid hcb
  have f := cells4' h.heap.hd
  have hS : ∀ w' : World, Below w.heap.size w w' → (w'.cell? ⟨g, 0, none⟩ = some (.int .i64 (size : Int)) ∧ w'.cell? ⟨g, 1, none⟩ = some (.slice (some ⟨gc, 0, none⟩) (Lof os).length cap) ∧ w'.cell? ⟨g, 2, none⟩ = some (.pointer (some ⟨gb, 0, none⟩)) ∧ w'.cell? ⟨g, 3, none⟩ = some (.int .u32 (last : Int))) := fun w' hb => by
    have f := cells4' (h.below hb).heap.hd
    exact ⟨f.1, f.2.1, f.2.2.1, f.2.2.2.1⟩
  have HSx := Lib.hid hS
  clear h hcw hcb hS
  go_enter Tryd.func19, Tryd.ntmps19
  go_wp2_with (go_at_call 52; (with_reducible refine (there_any _ _).mono ?_); rintro e w' ⟨rfl, rfl⟩)
  rename_i hKo
  have HKo := Lib.hid hKo
  clear hKo
  refine wp_region_noPanic ?_
  refine wp_region_held_drew (S := (fun w' : World => w'.cell? ⟨g, 0, none⟩ = some (.int .i64 (size : Int)) ∧ w'.cell? ⟨g, 1, none⟩ = some (.slice (some ⟨gc, 0, none⟩) (Lof os).length cap) ∧ w'.cell? ⟨g, 2, none⟩ = some (.pointer (some ⟨gb, 0, none⟩)) ∧ w'.cell? ⟨g, 3, none⟩ = some (.int .u32 (last : Int)))) (by kernel_rfl) (HSx.out _ ((Below.refl _ _).drew)) (fun hHeld => ?_)
  refine wpAnyH_take (i := 0) (v := ?_) (by first | (simp only [List.getElem?_toArray, List.getElem?_cons_succ, List.getElem?_cons_zero]; rfl) | rfl) (by kernel_rfl) (by kernel_rfl) (by kernel_rfl) (fun _ _ _ h => h) (Or.inl ⟨by rfl, ?_⟩) (by assumption) ?_
  rotate_left 1
  · (intro w' hSw; (try dsimp only at hSw); go_simp; (try with_reducible rfl))
  try simp only [Act.put, List.setIfInBounds_toArray, List.set_cons_zero, List.set_cons_succ]
  refine wpAnyH_take (i := 1) (v := ?_) (by first | (simp only [List.getElem?_toArray, List.getElem?_cons_succ, List.getElem?_cons_zero]; rfl) | rfl) (by kernel_rfl) (by kernel_rfl) (by kernel_rfl) (fun _ _ _ h => h) (Or.inl ⟨by rfl, ?_⟩) (by assumption) ?_
  rotate_left 1
  · (intro w' hSw; (try dsimp only at hSw); go_simp; (try with_reducible rfl))
  try simp only [Act.put, List.setIfInBounds_toArray, List.set_cons_zero, List.set_cons_succ]
  refine wpAnyH_take (i := 2) (v := ?_) (by first | (simp only [List.getElem?_toArray, List.getElem?_cons_succ, List.getElem?_cons_zero]; rfl) | rfl) (by kernel_rfl) (by kernel_rfl) (by kernel_rfl) (fun _ _ _ h => h) (Or.inl ⟨by rfl, ?_⟩) (by assumption) ?_
  rotate_left 1
  · (intro w' hSw; (try dsimp only at hSw); go_simp; (try with_reducible rfl))
  try simp only [Act.put, List.setIfInBounds_toArray, List.set_cons_zero, List.set_cons_succ]
  refine wpAnyH_take (i := 3) (v := ?_) (by first | (simp only [List.getElem?_toArray, List.getElem?_cons_succ, List.getElem?_cons_zero]; rfl) | rfl) (by kernel_rfl) (by kernel_rfl) (by kernel_rfl) (fun _ _ _ h => h) (Or.inl ⟨by rfl, ?_⟩) (by assumption) ?_
  rotate_left 1
  · (intro w' hSw; (try dsimp only at hSw); go_simp; (try with_reducible rfl))
  try simp only [Act.put, List.setIfInBounds_toArray, List.set_cons_zero, List.set_cons_succ]
  refine wpAnyH_take (i := 4) (v := ?_) (by first | (simp only [List.getElem?_toArray, List.getElem?_cons_succ, List.getElem?_cons_zero]; rfl) | rfl) (by kernel_rfl) (by kernel_rfl) (by kernel_rfl) (fun _ _ _ h => h) (Or.inl ⟨by rfl, ?_⟩) (by assumption) ?_
  rotate_left 1
  · (intro w' hSw; (try dsimp only at hSw); go_simp; (try with_reducible rfl))
  try simp only [Act.put, List.setIfInBounds_toArray, List.set_cons_zero, List.set_cons_succ]
  refine wpAnyH_take (i := 5) (v := ?_) (by first | (simp only [List.getElem?_toArray, List.getElem?_cons_succ, List.getElem?_cons_zero]; rfl) | rfl) (by kernel_rfl) (by kernel_rfl) (by kernel_rfl) (fun _ _ _ h => h) (Or.inl ⟨by rfl, ?_⟩) (by assumption) ?_
  rotate_left 1
  · (intro w' hSw; (try dsimp only at hSw); go_simp; (try with_reducible rfl))
  try simp only [Act.put, List.setIfInBounds_toArray, List.set_cons_zero, List.set_cons_succ]
  refine wpAnyH_take (i := 6) (v := ?_) (by first | (simp only [List.getElem?_toArray, List.getElem?_cons_succ, List.getElem?_cons_zero]; rfl) | rfl) (by kernel_rfl) (by kernel_rfl) (by kernel_rfl) (fun _ _ _ h => h) (Or.inl ⟨by rfl, ?_⟩) (by assumption) ?_
  rotate_left 1
  · (intro w' hSw; (try dsimp only at hSw); go_simp; (try with_reducible rfl))
  try simp only [Act.put, List.setIfInBounds_toArray, List.set_cons_zero, List.set_cons_succ]
  refine wpAnyH_take (i := 7) (v := ?_) (by first | (simp only [List.getElem?_toArray, List.getElem?_cons_succ, List.getElem?_cons_zero]; rfl) | rfl) (by kernel_rfl) (by kernel_rfl) (by kernel_rfl) (fun _ _ _ h => h) (Or.inl ⟨by rfl, ?_⟩) (by assumption) ?_
  rotate_left 1
  · (intro w' hSw; (try dsimp only at hSw); go_simp; (try with_reducible rfl))
  try simp only [Act.put, List.setIfInBounds_toArray, List.set_cons_zero, List.set_cons_succ]
  refine wpAnyH_take (i := 9) (v := ?_) (by first | (simp only [List.getElem?_toArray, List.getElem?_cons_succ, List.getElem?_cons_zero]; rfl) | rfl) (by kernel_rfl) (by kernel_rfl) (by kernel_rfl) (fun _ _ _ h => h) (Or.inl ⟨by rfl, ?_⟩) (by assumption) ?_
  rotate_left 1
  · (intro w' hSw; (try dsimp only at hSw); go_simp; (try with_reducible rfl))
  try simp only [Act.put, List.setIfInBounds_toArray, List.set_cons_zero, List.set_cons_succ]
  refine wpAnyH_take (i := 10) (v := ?_) (by first | (simp only [List.getElem?_toArray, List.getElem?_cons_succ, List.getElem?_cons_zero]; rfl) | rfl) (by kernel_rfl) (by kernel_rfl) (by kernel_rfl) (fun _ _ _ h => h) (Or.inl ⟨by rfl, ?_⟩) (by assumption) ?_
  rotate_left 1
  · (intro w' hSw; (try dsimp only at hSw); go_simp; (try with_reducible rfl))
  try simp only [Act.put, List.setIfInBounds_toArray, List.set_cons_zero, List.set_cons_succ]
  refine wpAnyH_take (i := 11) (v := ?_) (by first | (simp only [List.getElem?_toArray, List.getElem?_cons_succ, List.getElem?_cons_zero]; rfl) | rfl) (by kernel_rfl) (by kernel_rfl) (by kernel_rfl) (fun _ _ _ h => h) (Or.inl ⟨by rfl, ?_⟩) (by assumption) ?_
  rotate_left 1
  · (intro w' hSw; (try dsimp only at hSw); go_simp; (try with_reducible rfl))
  try simp only [Act.put, List.setIfInBounds_toArray, List.set_cons_zero, List.set_cons_succ]
  refine wpAnyH_take (i := 12) (v := ?_) (by first | (simp only [List.getElem?_toArray, List.getElem?_cons_succ, List.getElem?_cons_zero]; rfl) | rfl) (by kernel_rfl) (by kernel_rfl) (by kernel_rfl) (fun _ _ _ h => h) (Or.inl ⟨by rfl, ?_⟩) (by assumption) ?_
  rotate_left 1
  · (intro w' hSw; (try dsimp only at hSw); go_simp; (try with_reducible rfl))
  try simp only [Act.put, List.setIfInBounds_toArray, List.set_cons_zero, List.set_cons_succ]
  refine wpAnyH_take (i := 14) (v := ?_) (by first | (simp only [List.getElem?_toArray, List.getElem?_cons_succ, List.getElem?_cons_zero]; rfl) | rfl) (by kernel_rfl) (by kernel_rfl) (by kernel_rfl) (fun _ _ _ h => h) (Or.inl ⟨by rfl, ?_⟩) (by assumption) ?_
  rotate_left 1
  · (intro w' hSw; (try dsimp only at hSw); go_simp; (try with_reducible rfl))
  try simp only [Act.put, List.setIfInBounds_toArray, List.set_cons_zero, List.set_cons_succ]
  refine wpAnyH_take (i := 15) (v := ?_) (by first | (simp only [List.getElem?_toArray, List.getElem?_cons_succ, List.getElem?_cons_zero]; rfl) | rfl) (by kernel_rfl) (by kernel_rfl) (by kernel_rfl) (fun _ _ _ h => h) (Or.inl ⟨by rfl, ?_⟩) (by assumption) ?_
  rotate_left 1
  · (intro w' hSw; (try dsimp only at hSw); go_simp; (try with_reducible rfl))
  try simp only [Act.put, List.setIfInBounds_toArray, List.set_cons_zero, List.set_cons_succ]
  refine wpAnyH_take (i := 16) (v := ?_) (by first | (simp only [List.getElem?_toArray, List.getElem?_cons_succ, List.getElem?_cons_zero]; rfl) | rfl) (by kernel_rfl) (by kernel_rfl) (by kernel_rfl) (fun _ _ _ h => h) (Or.inl ⟨by rfl, ?_⟩) (by assumption) ?_
  rotate_left 1
  · (intro w' hSw; (try dsimp only at hSw); go_simp; (try with_reducible rfl))
  try simp only [Act.put, List.setIfInBounds_toArray, List.set_cons_zero, List.set_cons_succ]
  refine wpAnyH_take (i := 17) (v := ?_) (by first | (simp only [List.getElem?_toArray, List.getElem?_cons_succ, List.getElem?_cons_zero]; rfl) | rfl) (by kernel_rfl) (by kernel_rfl) (by kernel_rfl) (fun _ _ _ h => h) (Or.inl ⟨by rfl, ?_⟩) (by assumption) ?_
  rotate_left 1
  · (intro w' hSw; (try dsimp only at hSw); go_simp; (try with_reducible rfl))
  try simp only [Act.put, List.setIfInBounds_toArray, List.set_cons_zero, List.set_cons_succ]
  refine wpAnyH_ready (rs := [8]) (by kernel_rfl) (by simp) ?_
  refine AllReadyH.cons (by first | (simp only [List.getElem?_toArray, List.getElem?_cons_succ, List.getElem?_cons_zero]; rfl) | rfl) (fun K hK => ?_) AllReadyH.nil
  · go_simp
    refine (HCw.out _ ((Below.refl _ _).drew)).mono ?_
    intro e w1 hp
    obtain ⟨b, c', rfl, ho1, hb1⟩ := row_some hl2 hp
    have hbw1 : Below w.heap.size w w1 := (Below.refl w.heap.size w).drew.trans hb1
    clear hp
    try (go_wp2_with fail)
    refine hK.out _ _ (HSx.out _ hbw1) (fun hHeld => ?_)
    clear hK K
    try simp only [Act.put, List.setIfInBounds_toArray, List.set_cons_zero, List.set_cons_succ]
    refine wpAnyH_ready (rs := [13]) (by kernel_rfl) (by simp) ?_
    refine AllReadyH.cons (by first | (simp only [List.getElem?_toArray, List.getElem?_cons_succ, List.getElem?_cons_zero]; rfl) | rfl) (fun K hK => ?_) AllReadyH.nil
    go_simp
    refine (HCb.out _ hbw1).mono ?_
    rintro e w2 ⟨g', g2', rfl, hg1, hg2, hB2, hb2⟩
    have hbw2 := hbw1.trans (hb2.mono hbw1.size)
    try (go_wp2_with fail)
    refine hK.out _ _ (HSx.out _ hbw2) (fun hHeld => ?_)
    clear hK K
    try simp only [Act.put, List.setIfInBounds_toArray, List.set_cons_zero, List.set_cons_succ]
    refine wpAnyH_take (i := 18) (v := ?_) (by first | (simp only [List.getElem?_toArray, List.getElem?_cons_succ, List.getElem?_cons_zero]; rfl) | rfl) (by kernel_rfl) (by kernel_rfl) (by kernel_rfl) (fun _ _ _ h => h) (Or.inl ⟨by rfl, ?_⟩) (by assumption) ?_
    rotate_left 1
    · (intro w' hSw; (try dsimp only at hSw); go_simp; (try with_reducible rfl))
    try simp only [Act.put, List.setIfInBounds_toArray, List.set_cons_zero, List.set_cons_succ]
    refine wpAnyH_ready (rs := [19]) (by kernel_rfl) (by simp) ?_
    refine AllReadyH.cons (by first | (simp only [List.getElem?_toArray, List.getElem?_cons_succ, List.getElem?_cons_zero]; rfl) | rfl) (fun K hK => ?_) AllReadyH.nil
    go_simp
    have hmk := clone_mk H.out hbw2 (ho1.keep fun k cur hc => hb2.block k (lt_of_block hc)) hB2 (Nat.le_trans hbw1.size hg1) (Nat.le_trans hbw1.size hg2)
    refine hK.out _ _ (HSx.out _ hmk.2) (fun hHeld => ?_)
    clear hK K
    try simp only [Act.put, List.setIfInBounds_toArray, List.set_cons_zero, List.set_cons_succ]
    refine wpAnyH_take (i := 20) (v := ?_) (by first | (simp only [List.getElem?_toArray, List.getElem?_cons_succ, List.getElem?_cons_zero]; rfl) | rfl) (by kernel_rfl) (by kernel_rfl) (by kernel_rfl) (fun _ _ _ h => h) (Or.inl ⟨by rfl, ?_⟩) (by assumption) ?_
    rotate_left 1
    · (intro w' hSw; (try dsimp only at hSw); go_simp; (try with_reducible rfl))
    try simp only [Act.put, List.setIfInBounds_toArray, List.set_cons_zero, List.set_cons_succ]
    refine wpAnyH_done (by kernel_rfl) ?_ _
    refine NoPanic.normal ?_
    refine HKo.out _ _ ?_
    have HMk := Lib.hid hmk
    clear hmk hHeld HKo hbw1 hbw2 hb1 hb2 ho1 hB2
    go_wp2_with fail
    go_ret
    exact ⟨w2.heap.size, b, c', g', g2', rfl, HMk.out.1, HMk.out.2⟩
theorem equal_wordsH (L : List Nat) (c c2 B B2 : Nat) (A A2 : Option Addr) (w : World) (hr : Rd w B A (cw L)) (hr2 : Rd w B2 A2 (cw L)) (hl : L.length ≤ 16777216) :
    Calls Tryd.prog 54 #[.slice A L.length c, .slice A2 L.length c2] w (EqPost true w) := by
  have hn : ((L.length : Int) != (L.length : Int)) = false := by simp
  go_enter Tryd.func54, Tryd.ntmps54
  go_wp2_with fail
  go_loopw [13] (fun v wr => ∃ k q : Nat, k ≤ L.length ∧ v = .int .i64 k ∧ w.drewN q = wr) (fun v _ => L.length - (intOf v).toNat)
  case atStart => exact ⟨0, 0, Nat.zero_le _, rfl, rfl⟩
  case round =>
    obtain ⟨k, q, hk, rfl, rfl⟩ := hrel
    by_cases hlt : k < L.length
    · obtain ⟨b1, off1, rfl, _, hc1⟩ := rdw_at (w := w) hr hlt
      obtain ⟨b2, off2, rfl, _, hc2⟩ := rdw_at (w := w) hr2 hlt
      have hne : ((L[k] : Int) != (L[k] : Int)) = false := by simp
      go_wp2_with fail
      go_quiet (fail)
      go_wp2_with fail
      go_roundw
      case rel => exact ⟨k + 1, _, by omega, by simp, rfl⟩
      case measure => simp [intOf]; omega
    · go_wp2_with fail
      go_ret
      exact ⟨_, rfl, rfl⟩
theorem eq_below {b : Bool} {w : World} {e : Ending} {w' : World} (h : EqPost b w e w') : e = .returned (.bool b) ∧ Below w.heap.size w w' := by
  obtain ⟨q, h1, h2⟩ := h
  exact ⟨h1, by rw [← h2]; exact below_q' w q⟩
set_option maxHeartbeats 2000000 in
theorem hsame_any {base' g' gc' cap' gb' gb2' : Nat} {ws' : List Nat} (w : World) (h : ObsAt w base g gc cap gb gb2 size last os ws) (h' : ObsAt w base' g' gc' cap' gb' gb2' size last os ws') :
    Calls Tryd.prog 20 #[.pointer (some ⟨g, 0, none⟩), .pointer (some ⟨g', 0, none⟩)] w fun e w' => e = .returned (.bool true) ∧ Below w.heap.size w w' := by
  have heq := fun (x : Grow w) => (equal_wordsH (Lof os) cap cap' _ _ _ _ x.w (ownH_rd (h.below x.below).heap.own) (ownH_rd (h'.below x.below).heap.own) h.len).mono (fun _ _ hp => eq_below hp)
  have f := cells4' h.heap.hd
  have f' := cells4' h'.heap.hd
  have l1 := h.heap.gl.1
  have l2 := h'.heap.gl.1
  clear h h'
  have e1 : ((size : Int) == (size : Int)) = true := by simp
  have e2 : ((last : Int) == (last : Int)) = true := by simp
  have HEq := Lib.hid heq
  clear heq
  go_enter Tryd.func20, Tryd.ntmps20
  go_wp2_with (go_at_call 52; (with_reducible refine (there_any _ _).mono ?_); rintro e w' ⟨rfl, rfl⟩)
  have hx := fun (y : Grow w) => y.cell
  refine wp_region_grow (by kernel_rfl) (by kernel_rfl) ?_
  repeat (go_big_quiet_step ((go_at_call 54; exact Grow.call _ (HEq.out _))))
  refine wpQuiet_nil ?_
  intro _ hw'
  obtain ⟨x, rfl⟩ := hw'
  have hb := Lib.hid x.below
  clear hx f f' HEq
  go_wp2_with fail
  go_ret
  exact ⟨rfl, hb.out⟩
theorem live_any {fs0 : List Nat} {S : Nat → List Nat × Nat} {T : Nat} (rs : List Nat) (A : Option Addr) (c : Nat) (w : World) (h : ObsAt w base g gc cap gb gb2 size last os ws) (hr : Rd w w.heap.size A (cw rs)) (hrs : ∀ x ∈ rs, x < 18446744073709551616) (hrl : rs.length ≤ 9223372036854775807) (hF : Found0 os ws rs fs0 S T fs) (hs : sumC (cnOf os) fs ≤ 1000000) :
    Calls Tryd.prog 18 #[.pointer (some ⟨g, 0, none⟩), .slice A rs.length c] w fun e w' => e = .returned (.tuple #[.int .i64 ((2 + sumC (cnOf os) fs : Nat) : Int), .int .i64 0]) ∧ Below w.heap.size w w' := by
  have hre := reach_any rs A c w h.graph h.heap hr hrs hrl hF.find hF.waves
  rw [hF.all] at hre
  clear h hr hrs hrl hF
  generalize sumC (cnOf os) fs = n at *
  have HE := Lib.hid (show (2 : Int) + (n : Int) = ((2 + n : Nat) : Int) by omega)
  go_enter Tryd.func18, Tryd.ntmps18
  go_wp2_with fail
  refine hre.mono ?_
  rintro e w1 ⟨sb, sb2, bs, rfl, -, -, -, -, -, hb1⟩
  have HB1 := Lib.hid hb1
  clear hre hb1
  go_wp2_with fail
  go_ret2
  exact ⟨by rw [← HE.out]; rfl, HB1.out⟩
theorem live_no (rs : List Nat) (A : Option Addr) (c : Nat) (w : World) (hall : Calls Tryd.prog 47 #[.pointer (some ⟨g, 0, none⟩), .slice A rs.length c] w (NoPost w)) :
    Calls Tryd.prog 18 #[.pointer (some ⟨g, 0, none⟩), .slice A rs.length c] w fun e w' => e = .returned (.tuple #[.int .i64 0, .int .i64 13]) ∧ Below w.heap.size w w' := by
  have hre := reach_of_all rs A c w hall
  clear hall
  go_enter Tryd.func18, Tryd.ntmps18
  go_wp2_with fail
  refine hre.mono ?_
  rintro e w1 ⟨rfl, hb1⟩
  have HB1 := Lib.hid hb1
  clear hre hb1
  go_wp2_with fail
  go_ret2
  exact ⟨rfl, HB1.out⟩
theorem collect_no (rs : List Nat) (A : Option Addr) (c : Nat) (w : World) (hall : Calls Tryd.prog 47 #[.pointer (some ⟨g, 0, none⟩), .slice A rs.length c] w (NoPost w)) :
    Calls Tryd.prog 11 #[.pointer (some ⟨g, 0, none⟩), .slice A rs.length c] w (NoOrd w) := by
  have hre := reach_of_all rs A c w hall
  clear hall
  go_enter Tryd.func11, Tryd.ntmps11
  go_wp2_with fail
  refine hre.mono ?_
  rintro e w1 ⟨rfl, hb1⟩
  have HB1 := Lib.hid hb1
  clear hre hb1
  go_wp2_with fail
  go_ret2
  exact ⟨rfl, HB1.out⟩
end
end Go.Proofs.YthppamfhkcdjdaaDoor.Fl
