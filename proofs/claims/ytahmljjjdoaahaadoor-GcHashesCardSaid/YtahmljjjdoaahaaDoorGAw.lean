/-
  The fixed fact of gc's laws.
-/
import Derived.Test.YtahmljjjdoaahaaDoorPGColl
import Derived.Test.YtahmljjjdoaahaaDoorPDocF
import Derived.Test.YtahmljjjdoaahaaDoorPAwM
namespace Go.Proofs.YtahmljjjdoaahaaDoor.Fl
open Go.RowKit

def aw6a : List Ob := [newOb 4 0 1 1 1]
def aw6b : List Ob := aw6a ++ [newOb 4 1 1 1 1]
def aw6 : List Ob := aw6b ++ [newOb 4 1 1 1 4]
def aw6S (t : Nat) : List Nat × Nat := if t = 0 then ([16], 0) else if t = 1 then ([16, 4], 1) else ([16, 4], 2)
theorem aw6_waves {ws : List Nat} (h4 : isP ws 4) : Waves (ldOf aw6) ws [16] aw6S 2 := by
  refine ⟨rfl, fun t ht => ?_, rfl⟩
  rcases (show t = 0 ∨ t = 1 by omega) with rfl | rfl
  · refine ⟨by decide, ?_, rfl⟩
    show askL (ldOf aw6) ws [16] [16] = some [16, 4]
    rw [askL, show ldOf aw6 16 = [4, 4] from by decide, findL, find1_new h4 (by decide)]
    show ((findL ws [16, 4] [4]).bind fun f => askL (ldOf aw6) ws f []) = _
    rw [findL, find1_in h4 (by decide)]; rfl
  · refine ⟨by decide, ?_, rfl⟩
    show askL (ldOf aw6) ws [16, 4] [4] = some [16, 4]
    rw [askL, show ldOf aw6 4 = [4, 1] from by decide, findL, find1_in h4 (by decide)]
    show ((findL ws [16, 4] [1]).bind fun f => askL (ldOf aw6) ws f []) = _
    rw [findL, find1_num (by decide)]; rfl
theorem aw6_found {w : World} {base g gc cap gb gb2 : Nat} {ws : List Nat} (h : ObsAt w base g gc cap gb gb2 40 0 aw6 ws) : Found0 aw6 ws [16] [16] aw6S 2 [16, 4] := by
  have h4 : isP ws 4 := (h.isP 4).2 ⟨0, by decide, by decide⟩
  have h16 : isP ws 16 := (h.isP 16).2 ⟨2, by decide, by decide⟩
  have hf : findL ws [] [16] = some [16] := by
    rw [findL, find1_new h16 (by decide)]; rfl
  exact ⟨hf, aw6_waves h4, rfl, (aw6_waves h4).isLed hf⟩
theorem aw6_ks : ksOf (stayX aw6 [16, 4] aw6.length) = [0, 2] := by decide
theorem obs_void {w : World} {base g gc gb gb2 n : Nat} (h : HeapAt w base g gc 2 gb gb2 n 0 [0, 0] (List.replicate ((n + 63) / 64) 0)) : ObsAt w base g gc 2 gb gb2 n 0 [] (List.replicate ((n + 63) / 64) 0) :=
  ⟨h, fun i => by rw [bitAt_zero]; simp, fun o ho => by cases ho⟩
theorem aw6_mem {o : Ob} (h : o ∈ aw6) : o = newOb 4 0 1 1 1 ∨ o = newOb 4 1 1 1 1 ∨ o = newOb 4 1 1 1 4 := by
  unfold aw6 aw6b aw6a at h
  simpa using h
set_option maxRecDepth 100000 in
set_option maxHeartbeats 4000000 in
theorem awake6_any (w : World) (he : EnvB w) :
    Calls Tryd.prog 4 #[] w fun e w' => e = .returned (.bool true) ∧ Below w.heap.size w w' := by
  have hnew : Calls Tryd.prog 12 #[.int .i64 40] w (NewHPost w 40) := new_ok 40 w (by decide) (by decide)
  have HE := Lib.hid he
  clear he
  go_enter Tryd.func4, Tryd.ntmps4
  go_wp2_with fail
  refine hnew.mono ?_
  rintro e w1 ⟨g, gc, gb, gb2, rfl, h1, hb1⟩
  have H1 := Lib.hid (obs_void h1)
  have HB1 := Lib.hid hb1
  clear h1 hb1 hnew
  have ha := obs_alloc 4 0 1 1 1 w1 H1.out (by decide) (by decide) (by decide) (by decide) (by decide) (by decide) HB1.out.size
  go_wp2_with fail
  refine ha.mono ?_
  rintro e w2 ⟨gc2, cap2, ws2, rfl, h2, -, has2⟩
  obtain ⟨cur, _, hbc, _⟩ := H1.out.heap.row
  have HB2 := Lib.hid (HB1.out.trans (has2.below HB1.out.size H1.out.heap.bg hbc H1.out.heap.bb2))
  have H2 := Lib.hid h2
  clear ha h2 has2 hbc H1 HB1
  have ha := obs_alloc 4 1 1 1 1 w2 H2.out (by decide) (by decide) (by decide) (by decide) (by decide) (by decide) HB2.out.size
  rw [show ((Lof []).length : Int) * 2 = 4 from rfl]
  go_wp2_with fail
  refine ha.mono ?_
  rintro e w3 ⟨gc3, cap3, ws3, rfl, h3, -, has3⟩
  obtain ⟨cur, _, hbc, _⟩ := H2.out.heap.row
  have HB3 := Lib.hid (HB2.out.trans (has3.below HB2.out.size H2.out.heap.bg hbc H2.out.heap.bb2))
  have H3 := Lib.hid h3
  clear ha h3 has3 hbc H2 HB2
  have ha := obs_alloc 4 1 1 1 4 w3 H3.out (by decide) (by decide) (by decide) (by decide) (by decide) (by decide) HB3.out.size
  go_wp2_with fail
  refine ha.mono ?_
  rintro e w4 ⟨gc4, cap4, ws4, rfl, h4, -, has4⟩
  obtain ⟨cur, _, hbc, _⟩ := H3.out.heap.row
  have HB4 := Lib.hid (HB3.out.trans (has4.below HB3.out.size H3.out.heap.bg hbc H3.out.heap.bb2))
  have h4' : ObsAt w4 w.heap.size g gc4 cap4 gb gb2 40 0 aw6 ws4 := h4
  have H4 := Lib.hid h4'
  rw [show ((Lof ([] ++ [newOb 4 0 1 1 1] ++ [newOb 4 1 1 1 1])).length : Int) * 2 = 16 from rfl]
  clear ha h4 h4' has4 hbc H3 HB3
  have hba : Below w4.heap.size w4 (w4.alloc (.cells #[.int .u64 16] 38)) := (Below.refl _ _).alloc (Nat.le_refl _) _
  have hF := aw6_found (H4.out.below hba)
  have hst := stays_of (H4.out.below hba).isP hF.led.good
  have hco := collect_any [16] (some ⟨w4.heap.size, 0, none⟩) 1 (w4.alloc (.cells #[.int .u64 16] 38)) (H4.out.below hba) ((HE.out.below HB4.out).below hba) (Nat.le_trans HB4.out.size hba.size) (by decide) (rd_one w4 16) (fun h => by cases h) (by intro x hx; simp at hx; omega) (by simp) hF.find hF.waves hF.all hst hF.closed (fun x hx hw => hF.roots x hx hw) (by decide) (fun o ho => by rcases aw6_mem ho with rfl | rfl | rfl <;> decide) (fun o ho => by rcases aw6_mem ho with rfl | rfl | rfl <;> exact fun h => absurd h (by decide)) (fun o ho => by rcases aw6_mem ho with rfl | rfl | rfl <;> rfl)
  rw [aw6_ks] at hco
  have HB4a := Lib.hid (HB4.out.trans (hba.mono HB4.out.size))
  have HG := Lib.hid (And.intro H4.out.heap.bg H4.out.heap.gl.1)
  clear hF hst hba H4 HB4
  go_wp2_with fail
  refine hco.mono ?_
  rintro e w5 ⟨A5, c5, rfl, ⟨gcm, capm, gbm, gbm2, ws', hM⟩, hrd5, -, hch⟩
  have hb5 : Below w.heap.size w w5 := by
    have h1 := HB4a.out
    have b2 := h1.size
    have b3 := HG.out.1
    exact ⟨hch.os.trans h1.os, hch.tape.trans h1.tape, hch.output.trans h1.output, Nat.le_trans h1.size hch.size, fun k hk => (hch.block k (by omega) (by omega) (by omega)).trans (h1.block k hk)⟩
  have hus := used_any w5 hM.heap
  rw [show ((Lof (moved aw6 [0, 2])).length : Int) = 8 from by decide] at hus
  rw [show [16].map (goal aw6 [0, 2]) = [10] from by decide] at hrd5
  obtain ⟨b, off, rfl, hb, hcell⟩ := rdw_at hrd5 (k := 0) (by decide)
  rw [show (([10] : List Nat)[0] : Int) = 10 from rfl, Nat.add_zero] at hcell
  have HB5 := Lib.hid hb5
  clear hco hM hrd5 hch hb5 HB4a HG
  rw [List.length_map]
  go_wp2_with (go_at_call 14; (with_reducible refine hus.mono ?_); rintro e w' ⟨rfl, rfl⟩)
  go_ret
  exact ⟨rfl, HB5.out⟩
end Go.Proofs.YtahmljjjdoaahaaDoor.Fl
