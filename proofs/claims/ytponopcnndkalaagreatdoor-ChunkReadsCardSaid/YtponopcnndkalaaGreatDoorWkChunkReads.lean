/-
  ChunkReads: the walk.
-/
import Derived.Test.YtponopcnndkalaaGreatDoorCkY
namespace Go.Proofs.YtponopcnndkalaaGreatDoor.Fl
open Go.RowKit Go.Shelf

theorem UnAt.up {w w' : World} {v0 v1 : Value} {fs : List (Cls × Value)} {ss : List Src} (h : UnAt w w.heap.size v0 v1 fs ss) (hb : Below w.heap.size w w') : UnAt w' w'.heap.size v0 v1 fs ss := by
  obtain ⟨⟨A, c, e1, e2, e3⟩, ⟨A', c', g1, g2, g3⟩, hf⟩ := h.below hb
  exact ⟨⟨A, c, e1, e2, e3.more hb.size⟩, ⟨A', c', g1, g2, g3.more hb.size⟩, fun x hx => (hf x hx).imp fun A ⟨c, h1, h2, h3, h4⟩ => ⟨c, h1, h2, h3, h4.more hb.size⟩⟩
theorem maxAt_below {w w' : World} (h : MaxAt w) (hb : Below w.heap.size w w') : MaxAt w' := maxAt_low h hb
set_option maxRecDepth 100000 in
set_option maxHeartbeats 8000000 in
theorem walk_ChunkReads (a : ByteArray) (w : World) (_ : a.size ≤ maxLen) (henv : EnvL w) (hm : MaxAt w) :
    Calls Tryz.prog 3 #[.string a] w fun e w' => e = .returned (.bool true) ∧ Below w.heap.size w w' := by
  have hE : ∀ w', Below w.heap.size w w' → EnvL w' := fun w' hb => henv.below hb
  have haw := awakeK_any w hm hE
  obtain ⟨s, hsd⟩ : ∃ s, (if 70000 < a.size then a.extract 0 70000 else a) = s := ⟨_, rfl⟩
  have hs : s.size ≤ 16777216 := by
    rw [← hsd]
    split
    · simp; omega
    · omega
  have hK := fun w' (hb : Below w.heap.size w w') => readK_ans s w' hs (maxAt_below hm hb) (fun w2 hb2 => hE w2 (hb.trans (hb2.mono hb.size)))
  have hR := fun w' => readR_ans s w' hs
  have HL := Lib.hid (readT_len s)
  generalize readT s = r at *
  go_enter Tryz.func3, Tryz.ntmps3
  go_wp2_with fail
  refine haw.mono ?_
  rintro e w1 ⟨rfl, hb1⟩
  have HB1 := Lib.hid hb1
  clear haw hb1
  go_upto_region 3 with fail
  go_upto_if 16 with fail
  go_cut [0] from 17 (fun v wx => v = .string s ∧ w1 = wx)
  case first =>
    by_cases hbig : 70000 < a.size
    · have hd : decide ((70000 : Int) < (a.size : Int)) = true := by rw [decide_eq_true_eq]; omega
      have hq : (70000 : Int) ≤ (a.size : Int) := by omega
      rw [if_pos hbig] at hsd
      clear hK hR
      go_wp2_with fail
      go_meet
      exact ⟨by rw [← hsd], rfl⟩
    · have hd : decide ((70000 : Int) < (a.size : Int)) = false := by rw [decide_eq_false_iff_not]; omega
      rw [if_neg hbig] at hsd
      clear hK hR
      go_wp2_with fail
      go_meet
      exact ⟨by rw [← hsd], rfl⟩
  case rest =>
  obtain ⟨rfl, rfl⟩ := hcut
  clear hsd
  have hk1 := hK w1 HB1.out
  go_wp2_with fail
  refine hk1.mono ?_
  rintro e w2 ⟨hb2, fs, v0, v1, hfs, hun, rfl⟩
  have hun2 := hun
  obtain ⟨⟨A1, c1, rfl, _, _⟩, ⟨A2, c2, rfl, _, _⟩, _⟩ := hun2
  obtain ⟨W2, hW2⟩ : ∃ W2, w2.alloc (.cells #[.slice A1 fs.length c1, .slice A2 (unitS r).length c2] 26) = W2 := ⟨_, rfl⟩
  have hq2 : W2.heap[w2.heap.size]? = some (.cells #[.slice A1 fs.length c1, .slice A2 (unitS r).length c2] 26 (0, 0)) := by rw [← hW2]; exact heap_alloc_new _ _
  have hbW : Below w2.heap.size w2 W2 := by rw [← hW2]; exact (Below.refl _ _).alloc (Nat.le_refl _) _
  have HBW2 := Lib.hid (HB1.out.trans ((hb2.trans (hbW.mono hb2.size)).mono HB1.out.size))
  have HU2 := Lib.hid (hun.up hbW)
  have hr2 := hR W2
  clear hK hk1 hun hb2 hbW hR
  go_wp2_with fail
  refine hr2.mono ?_
  rintro e w3 ⟨hb3, fs', u0, u1, hfs', hun3, rfl⟩
  clear hW2
  have hun4 := hun3
  obtain ⟨⟨A3, c3, rfl, _, _⟩, ⟨A4, c4, rfl, _, _⟩, _⟩ := hun4
  obtain ⟨W3, hW3⟩ : ∃ W3, w3.alloc (.cells #[.slice A3 fs'.length c3, .slice A4 (unitS r).length c4] 33) = W3 := ⟨_, rfl⟩
  have hq3 : W3.heap[w3.heap.size]? = some (.cells #[.slice A3 fs'.length c3, .slice A4 (unitS r).length c4] 33 (0, 0)) := by rw [← hW3]; exact heap_alloc_new _ _
  have hbW : Below w3.heap.size w3 W3 := by rw [← hW3]; exact (Below.refl _ _).alloc (Nat.le_refl _) _
  have hb23 : Below W2.heap.size W2 W3 := hb3.trans (hbW.mono hb3.size)
  have HBW3 := Lib.hid (HBW2.out.trans (hb23.mono HBW2.out.size))
  have HU3 := Lib.hid (HU2.out.up hb23)
  have HV3 := Lib.hid (hun3.up hbW)
  have hq2' := (hb23.block _ (lt_of_blk hq2)).trans hq2
  have f2 := cells2V hq2'
  have l2 := lt_of_blk hq2'
  have hlen : fs.length = (unitC r).length := by rw [← hfs, List.length_map]
  have hlen' : fs'.length = fs.length := by rw [hlen, ← hfs', List.length_map]
  have htold := told_any W3 _ _ fs (unitS r) HU3.out (by have := HL.out.1; omega) (fun x hx => by have := HL.out.2 x.1 (by rw [← hfs]; exact List.mem_map_of_mem hx); omega)
  have HLen := Lib.hid (And.intro hlen hlen')
  have HFS := Lib.hid (And.intro hfs hfs')
  clear hun3 hb3 hbW hb23 hr2 hq2 hlen hlen' hfs hfs'
  go_wp2_with fail
  refine htold.mono ?_
  rintro e w4 ⟨hb4, fs2, A5, c5, A6, c6, rfl, hmap, hC, hF, hX⟩
  have hun6 := UnAt.doc hC hF hX
  obtain ⟨W4, hW4⟩ : ∃ W4, w4.alloc (.cells #[.slice A5 fs2.length c5, .slice A6 (unitS r).length c6] 33) = W4 := ⟨_, rfl⟩
  have hq4 : W4.heap[w4.heap.size]? = some (.cells #[.slice A5 fs2.length c5, .slice A6 (unitS r).length c6] 33 (0, 0)) := by rw [← hW4]; exact heap_alloc_new _ _
  have hbW : Below w4.heap.size w4 W4 := by rw [← hW4]; exact (Below.refl _ _).alloc (Nat.le_refl _) _
  have hb34 : Below W3.heap.size W3 W4 := hb4.trans (hbW.mono hb4.size)
  have HBW4 := Lib.hid (HBW3.out.trans (hb34.mono HBW3.out.size))
  have HX4 := Lib.hid (hun6.up hbW)
  have HV4 := Lib.hid (HV3.out.up hb34)
  have hq3' := (hb34.block _ (lt_of_blk hq3)).trans hq3
  have hm24 : fs2.map (fun x => x.1) = fs'.map (fun x => x.1) := by rw [hmap, HFS.out.1, HFS.out.2]
  have hl24 : fs2.length = fs'.length := by have := congrArg List.length hm24; simpa using this
  have hnA : fs2.map nA = fs'.map nA := by
    have := congrArg (List.map (fun c : Cls => (c.1, c.2.1, c.2.2.1))) hm24
    rw [List.map_map, List.map_map] at this
    exact this
  have hsame := same_true W4 _ _ _ _ fs2 fs' (unitS r) (unitS r) HX4.out HV4.out hnA rfl (by have := HL.out.1; have := HLen.out.1; have := HLen.out.2; omega) (fun x hx => by
    have hx2 : x.1 ∈ unitC r := by rw [← HFS.out.2, ← hm24]; exact List.mem_map_of_mem hx
    have := HL.out.2 x.1 hx2; omega)
  have HM := Lib.hid hm24
  have f3 := cells2V hq3'
  have f4 := cells2V hq4
  have l3 := lt_of_blk hq3'
  have l4 := lt_of_blk hq4
  have g1 : (unitE r != unitE r) = false := by simp
  have g2 : (unitP r != unitP r) = false := by simp
  have HLn := Lib.hid hl24
  have HQ3 := Lib.hid hq3'
  have HQ4 := Lib.hid hq4
  clear hun6 hC hF hX hb4 hbW hb34 hmap hm24 hl24 hnA htold f2 l2 hq2' hq3 hq3' hq4
  go_upto_region 8 with fail
  obtain ⟨P3, hP3⟩ : ∃ P3, w3.heap.size = P3 := ⟨_, rfl⟩
  obtain ⟨P4, hP4⟩ : ∃ P4, w4.heap.size = P4 := ⟨_, rfl⟩
  simp only [hP3, hP4] at f3 f4 l3 l4 HQ3 HQ4 ⊢
  clear hP3 hP4
  go_wp2_with fail
  refine hsame.mono ?_
  rintro e w5 ⟨rfl, hb5⟩
  have HB5 := Lib.hid hb5
  clear hsame hb5 f3 f4 hW4
  have hq3 := (HB5.out.block _ l3).trans HQ3.out
  have hq4 := (HB5.out.block _ l4).trans HQ4.out
  have f3 := cells2V hq3
  have f4 := cells2V hq4
  have m3 := lt_of_blk hq3
  have m4 := lt_of_blk hq4
  have hle : fs2.length ≤ 100000000 := by have := HL.out.1; have := HLen.out.1; have := HLen.out.2; have := HLn.out; omega
  have hls : (unitS r).length ≤ 100000000 := by have := HL.out.1; omega
  go_wp2_with fail
  clear f3 f4
  go_loopw [50] (fun v wr => ∃ i : Nat, i ≤ fs2.length ∧ v = .int .i64 (i : Int) ∧ Hid (Below w5.heap.size w5 wr)) (fun v _ => fs2.length - (intOf v).toNat)
  case atStart => exact ⟨0, Nat.zero_le _, rfl, Lib.hid (Below.refl _ _)⟩
  case round =>
    obtain ⟨i, hi, rfl, HW⟩ := hrel
    have hq3' := (HW.out.block _ m3).trans hq3
    have hq4' := (HW.out.block _ m4).trans hq4
    have f3 := cells2V hq3'
    have f4 := cells2V hq4'
    have n3 := lt_of_blk hq3'
    have n4 := lt_of_blk hq4'
    have hbx : Below W4.heap.size W4 wr := HB5.out.trans (HW.out.mono HB5.out.size)
    by_cases hlt : i < fs2.length
    case neg =>
      have hq : ¬ ((i : Int) < (fs2.length : Int)) := by omega
      go_wp2_with fail
      clear f3 f4
      go_loopw [70] (fun v wr => ∃ j : Nat, j ≤ (unitS r).length ∧ v = .int .i64 (j : Int) ∧ Hid (Below w5.heap.size w5 wr)) (fun v _ => (unitS r).length - (intOf v).toNat)
      case atStart => exact ⟨0, Nat.zero_le _, rfl, HW⟩
      case round =>
        clear HW hq3' hq4' n3 n4 hbx
        obtain ⟨j, hj, rfl, HW⟩ := hrel
        have hq3' := (HW.out.block _ m3).trans hq3
        have hq4' := (HW.out.block _ m4).trans hq4
        have f3 := cells2V hq3'
        have f4 := cells2V hq4'
        have n3 := lt_of_blk hq3'
        have n4 := lt_of_blk hq4'
        have hbx : Below W4.heap.size W4 wr := HB5.out.trans (HW.out.mono HB5.out.size)
        by_cases hlt2 : j < (unitS r).length
        case neg =>
          have hq : ¬ ((j : Int) < ((unitS r).length : Int)) := by omega
          have hE2 := HBW4.out.trans (hbx.mono HBW4.out.size)
          go_wp2_with fail
          go_ret
          exact ⟨rfl, hE2⟩
        have hq : (j : Int) < ((unitS r).length : Int) := by omega
        obtain ⟨A', c', e1, hc1, hr1⟩ := HX4.out.so
        injection e1 with e1 _ e2
        subst e1 e2
        obtain ⟨A', c', e1, hc2, hr2⟩ := HV4.out.so
        injection e1 with e1 _ e2
        subst e1 e2
        obtain ⟨b, o, rfl, hbb, _, _, _, d3⟩ := rdX_at (hr1.below hbx (Nat.le_refl _)) hlt2
        obtain ⟨b', o', rfl, hbb', _, _, _, e3⟩ := rdX_at (hr2.below hbx (Nat.le_refl _)) hlt2
        have hbw : b < wr.heap.size := Nat.lt_of_lt_of_le hbb hbx.size
        have hbw' : b' < wr.heap.size := Nat.lt_of_lt_of_le hbb' hbx.size
        generalize ((unitS r)[j]).2.2.2 = at_ at *
        have g4 : (at_ != at_) = false := by simp
        have HBn : ∀ n, Hid (Below w5.heap.size w5 (wr.drewN n)) := fun n => Lib.hid (_root_.Go.below_drewN HW.out n)
        clear hr1 hr2 hbb hbb' hbx hq3' hq4'
        go_upto_region 19 with fail
        go_quiet (fail)
        go_wp2_with fail
        go_roundw
        case rel => exact ⟨j + 1, by omega, rfl, HBn _⟩
        case measure => simp [intOf]; omega
    have hq : (i : Int) < (fs2.length : Int) := by omega
    have hlt3 : i < fs'.length := by have := HLn.out; omega
    obtain ⟨A', c', e1, hc1, hr1⟩ := HX4.out.cl
    injection e1 with e1 _ e2
    subst e1 e2
    obtain ⟨A', c', e1, hc2, hr2⟩ := HV4.out.cl
    injection e1 with e1 _ e2
    subst e1 e2
    obtain ⟨b, o, rfl, hbb, _, _, _, d3⟩ := rdC_at (hr1.below hbx (Nat.le_refl _)) hlt
    obtain ⟨b', o', rfl, hbb', _, _, _, e3⟩ := rdC_at (hr2.below hbx (Nat.le_refl _)) hlt3
    have hxy : fs2[i].1 = fs'[i].1 := by
      have h1 := congrArg (fun l => l[i]?) HM.out
      simp only [List.getElem?_map, List.getElem?_eq_getElem hlt, List.getElem?_eq_getElem hlt3, Option.map_some] at h1
      exact Option.some.inj h1
    rw [← hxy] at e3
    have hbw : b < wr.heap.size := Nat.lt_of_lt_of_le hbb hbx.size
    have hbw' : b' < wr.heap.size := Nat.lt_of_lt_of_le hbb' hbx.size
    have hqf : (i : Int) < (fs'.length : Int) := by omega
    generalize fs2[i].1.2.2.2 = at_ at *
    have g4 : (at_ != at_) = false := by simp
    have HBn : ∀ n, Hid (Below w5.heap.size w5 (wr.drewN n)) := fun n => Lib.hid (_root_.Go.below_drewN HW.out n)
    clear hr1 hr2 hbb hbb' hbx hxy hq3' hq4'
    go_upto_region 13 with fail
    go_quiet (fail)
    go_wp2_with fail
    go_roundw
    case rel => exact ⟨i + 1, by omega, rfl, HBn _⟩
    case measure => simp [intOf]; omega
end Go.Proofs.YtponopcnndkalaaGreatDoor.Fl
