/-
  The lexer: the laws' fixed fact.
-/
import Derived.Test.YtakijeooaeflkaaGreatDoorLxU
import Derived.Test.YtakijeooaeflkaaGreatDoorLxM
namespace Go.Proofs.YtakijeooaeflkaaGreatDoor.Fl
open Go.RowKit

set_option maxRecDepth 100000 in
set_option maxHeartbeats 4000000 in
theorem awake9_any (w : World) (hm : MaxAt w) (hE : ∀ w', Below w.heap.size w w' → EnvL w') :
    Calls Tryz.prog 8 #[] w fun e w' => e = .returned (.bool true) ∧ Below w.heap.size w w' := by
  have ha := all_any fixB w (by decide) hm hE
  rw [fix_all] at ha
  clear hm hE
  unfold fixB at ha
  go_enter Tryz.func8, Tryz.ntmps8
  go_wp2_with fail
  refine ha.mono ?_
  rintro e w1 ⟨hb1, (⟨l, A, c, hl, rfl, ho⟩ | ⟨n, q, hl, _⟩)⟩
  case inr => cases hl
  injection hl with hl
  subst hl
  have hr := ownK_rd ho
  rcases hr with hr | ⟨b, off, rfl, hlt, hc⟩
  · exact absurd (congrArg List.length hr) (by rw [ct_len]; decide)
  have g1 := hc 4 _ rfl
  have g2 := hc 17 _ rfl
  have g3 := hc 25 _ rfl
  have hln : fixL.length = 8 := rfl
  rw [hln]
  have hq := arity_fix w1
  clear hc ho ha hln
  have HB := Lib.hid hb1
  clear hb1
  go_wp2_with (go_at_call 24; (with_reducible refine hq.mono ?_); rintro e w' ⟨rfl, hb2⟩)
  go_ret
  exact ⟨rfl, HB.out.trans (hb2.mono HB.out.size)⟩
end Go.Proofs.YtakijeooaeflkaaGreatDoor.Fl
