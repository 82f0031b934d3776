/-
  ChunkPlaces: the walk.
-/
import Derived.Test.YtponopcnndkalaaGreatDoorClB
namespace Go.Proofs.YtponopcnndkalaaGreatDoor.Fl
open Go.RowKit Go.Shelf

theorem clampN_lo (i : Int) (n : Nat) (h : i < 0) : clampN i n = 0 := by unfold clampN; omega
theorem clampN_hi (i : Int) (n : Nat) (h : (n : Int) ≤ i) : clampN i n = n := by unfold clampN; omega
theorem clampN_in (k n : Nat) (h : k ≤ n) : clampN (k : Int) n = k := by unfold clampN; omega
theorem placeV_lo (t : ByteArray) (at_ i : Int) (h : i < 0) : placeV t at_ i = at_ := by unfold placeV; rw [clampN_lo _ _ h]; simp
theorem placeV_hi (t : ByteArray) (at_ i : Int) (h : (t.size : Int) ≤ i) : placeV t at_ i = placeV t at_ t.size := by unfold placeV; rw [clampN_hi _ _ h, clampN_hi _ _ (Int.le_refl _)]
theorem lt_or_in_or_ge (i : Int) (n : Nat) : i < 0 ∨ (0 ≤ i ∧ i < (n : Int)) ∨ (n : Int) ≤ i := by omega
set_option maxRecDepth 100000 in
set_option maxHeartbeats 8000000 in
theorem walk_ChunkPlaces (a : ByteArray) (i0 : Int) (w : World) (_ : a.size ≤ maxLen) (wi0 : (Lit.int .i64 i0).wf = true) (henv : EnvL w) (hm : MaxAt w) :
    Calls Tryz.prog 5 #[.string a, .int .i64 i0] w fun e w' => e = .returned (.bool true) ∧ Below w.heap.size w w' := by
  have hi0 := bounds_i64 wi0
  have hE : ∀ w', Below w.heap.size w w' → EnvL w' := fun w' hb => henv.below hb
  have haw := awakeK_any w hm hE
  obtain ⟨s, hsd⟩ : ∃ s, (if 5000 < a.size then a.extract 0 5000 else a) = s := ⟨_, rfl⟩
  have hs : s.size ≤ 5000 := by
    rw [← hsd]
    split
    · simp; omega
    · omega
  have hK := fun w' (hb : Below w.heap.size w w') => readK_ans s w' (by omega) (maxAt_low hm hb) (fun w2 hb2 => hE w2 (hb.trans (hb2.mono hb.size)))
  have HL := Lib.hid (readT_len s)
  have HP := Lib.hid (readT_src s)
  have HI0 := Lib.hid hi0
  generalize readT s = r at *
  clear hi0 wi0
  go_enter Tryz.func5, Tryz.ntmps5
  go_wp2_with fail
  refine haw.mono ?_
  rintro e w1 ⟨rfl, hb1⟩
  have HB1 := Lib.hid hb1
  clear haw hb1
  go_upto_region 3 with fail
  go_upto_if 16 with fail
  go_cut [0] from 17 (fun v wx => v = .string s ∧ w1 = wx)
  case first =>
    by_cases hbig : 5000 < a.size
    · have hd : decide ((5000 : Int) < (a.size : Int)) = true := by rw [decide_eq_true_eq]; omega
      have hq : (5000 : Int) ≤ (a.size : Int) := by omega
      rw [if_pos hbig] at hsd
      clear hK
      go_wp2_with fail
      go_meet
      exact ⟨by rw [← hsd], rfl⟩
    · have hd : decide ((5000 : Int) < (a.size : Int)) = false := by rw [decide_eq_false_iff_not]; omega
      rw [if_neg hbig] at hsd
      clear hK
      go_wp2_with fail
      go_meet
      exact ⟨by rw [← hsd], rfl⟩
  case rest =>
  obtain ⟨rfl, rfl⟩ := hcut
  clear hsd
  have hk1 := hK w1 HB1.out
  go_wp2_with fail
  refine hk1.mono ?_
  rintro e w2 ⟨hb2, fs, v0, v1, hfs, hun, rfl⟩
  have hun2 := hun
  obtain ⟨⟨A1, c1, rfl, _, _⟩, ⟨A2, c2, rfl, _, _⟩, _⟩ := hun2
  obtain ⟨W2, hW2⟩ : ∃ W2, w2.alloc (.cells #[.slice A1 fs.length c1, .slice A2 (unitS r).length c2] 26) = W2 := ⟨_, rfl⟩
  have hq2 : W2.heap[w2.heap.size]? = some (.cells #[.slice A1 fs.length c1, .slice A2 (unitS r).length c2] 26 (0, 0)) := by rw [← hW2]; exact heap_alloc_new _ _
  have hbW : Below w2.heap.size w2 W2 := by rw [← hW2]; exact (Below.refl _ _).alloc (Nat.le_refl _) _
  have HBW2 := Lib.hid (HB1.out.trans ((hb2.trans (hbW.mono hb2.size)).mono HB1.out.size))
  have HU2 := Lib.hid (hun.up2 hbW)
  have f2 := cells2V hq2
  have l2 := lt_of_blk hq2
  clear hK hk1 hun hb2 hbW
  cases hz : (unitE r != 0)
  case true =>
    go_wp2_with fail
    go_ret
    exact ⟨rfl, HBW2.out⟩
  have hls : (unitS r).length ≤ 100000000 := by have := HL.out.1; omega
  go_wp2_with fail
  clear f2 hW2
  go_loopw [30] (fun v wr => ∃ j : Nat, j ≤ (unitS r).length ∧ v = .int .i64 (j : Int) ∧ Hid (Below W2.heap.size W2 wr)) (fun v _ => (unitS r).length - (intOf v).toNat)
  case atStart => exact ⟨0, Nat.zero_le _, rfl, Lib.hid (Below.refl _ _)⟩
  case round =>
    obtain ⟨j, hj, rfl, HW⟩ := hrel
    by_cases hlt2 : j < (unitS r).length
    case neg =>
      have hq : ¬ ((j : Int) < ((unitS r).length : Int)) := by omega
      have hE2 := HBW2.out.trans (HW.out.mono HBW2.out.size)
      go_wp2_with fail
      go_ret
      exact ⟨rfl, hE2⟩
    have hq : (j : Int) < ((unitS r).length : Int) := by omega
    obtain ⟨A', c', e1, hc1, hr1⟩ := HU2.out.so
    injection e1 with e1 _ e2
    subst e1 e2
    obtain ⟨b, o, rfl, hbb, d0, d1, d2, d3⟩ := rdX_at (hr1.below HW.out (Nat.le_refl _)) hlt2
    obtain ⟨q, pa, pb, hqs, hch, hat⟩ := HP.out (unitS r)[j] (List.getElem_mem hlt2)
    obtain ⟨⟨cn, mt, tx, at_⟩, hy⟩ : ∃ y, (unitS r)[j] = y := ⟨_, rfl⟩
    rw [hy] at d0 d1 d2 d3 hch hat
    dsimp only at d0 d1 d2 d3 hch hat
    subst hat
    have hpl := chunk_place hqs hch
    have hcl := chunk_le hqs
    rw [hch] at hcl
    dsimp only at hcl
    have hbw : b < wr.heap.size := Nat.lt_of_lt_of_le hbb HW.out.size
    have hpv := fun (i : Int) (w' : World) (hi : -9223372036854775808 ≤ i ∧ i ≤ 9223372036854775807) => place_any (mkB cn) (mkB tx) mt (pa : Int) i w' (by omega) hi (by rw [mkB_size]; omega)
    have HPL := Lib.hid hpl
    have HPV := Lib.hid hpv
    have HCL := Lib.hid (And.intro hcl.2.2.1 hcl.2.2.2)
    clear hr1 hy hch hpl hpv hcl hbb hqs
    obtain ⟨W3, hW3⟩ : ∃ W3, wr.alloc (.cells #[.string (mkB cn), .bool mt, .string (mkB tx), .int .i64 (pa : Int)] 51) = W3 := ⟨_, rfl⟩
    have hq3 : W3.heap[wr.heap.size]? = some (.cells #[.string (mkB cn), .bool mt, .string (mkB tx), .int .i64 (pa : Int)] 51 (0, 0)) := by rw [← hW3]; exact heap_alloc_new _ _
    have hbW : Below wr.heap.size wr W3 := by rw [← hW3]; exact (Below.refl _ _).alloc (Nat.le_refl _) _
    have HB3 := Lib.hid (HW.out.trans (hbW.mono HW.out.size))
    go_upto_region 11 with fail
    obtain ⟨F, hF⟩ : ∃ F, wr.heap.size = F := ⟨_, rfl⟩
    simp only [hF] at hq3 ⊢
    clear hF hW3 hbW d0 d1 d2 d3
    obtain ⟨T, hT⟩ : ∃ T, mkB tx = T := ⟨_, rfl⟩
    have hTs : T.size = tx.length := by rw [← hT, mkB_size]
    have hTb : tx = sb T := by rw [← hT, show sb (mkB tx) = tx from sb_mk tx]
    have HPL2 := HPL.out
    rw [hT] at HPV hq3 ⊢
    rw [hTb] at HPL2 
    have HPX : Hid (∀ k : Nat, k < T.size → ∃ n : Nat, pa + k + ((sb T).take k).count 33 = n ∧ n < s.size ∧ placeV T pa k = (n : Int) ∧ s.data[n]? = T.data[k]?) := Lib.hid (by
      intro k hk
      obtain ⟨hl, e⟩ := HPL2 k (by rw [sb_len]; exact hk)
      refine ⟨_, rfl, hl, ?_, ?_⟩
      · unfold placeV; rw [clampN_in k T.size (by omega)]; omega
      · have h1 : s.data[pa + k + ((sb T).take k).count 33]? = some (s[pa + k + ((sb T).take k).count 33]'hl) := by rw [Array.getElem?_eq_getElem (by simpa using hl)]; rfl
        have h2 : T.data[k]? = some ((sb T)[k]'(by rw [sb_len]; exact hk)) := by rw [Array.getElem?_eq_getElem (by simpa using hk)]; rfl
        rw [h1, h2, e])
    have hT2 : T.size ≤ 5000 := by have := HCL.out.2; omega
    clear hT hTs hTb HPL2 HPL HCL
    go_wp2_with fail
    go_loopw [10] (fun v wi => ∃ k : Nat, k ≤ T.size ∧ k ≤ 200 ∧ v = .int .i64 (k : Int) ∧ Hid (Below W3.heap.size W3 wi)) (fun v _ => 200 - (intOf v).toNat)
    case atStart => exact ⟨0, Nat.zero_le _, by omega, rfl, Lib.hid (Below.refl _ _)⟩
    case round =>
      obtain ⟨k, hk1, hk2, rfl, HI⟩ := hrel
      have hq3i := (HI.out.block _ (lt_of_blk hq3)).trans hq3
      have f3 := cells4L hq3i
      have l3 := lt_of_blk hq3i
      have hbI := HB3.out.trans (HI.out.mono HB3.out.size)
      by_cases hkk : k < T.size ∧ k < 200
      case neg =>
        have hx := fun (x : Grow wr) => x.cell
        have hp0 := fun w' => HPV.out (-1) w' (by omega)
        rw [placeV_lo _ _ _ (by omega : (-1 : Int) < 0)] at hp0
        have g1 : ((pa : Int) != (pa : Int)) = false := by simp
        have HP3 := Lib.hid hbI
        clear hbI
        by_cases hk3 : k < T.size
        · have q1 : (k : Int) < (T.size : Int) := by omega
          have q2 : ¬ ((k : Int) < (200 : Int)) := by omega
          rcases lt_or_in_or_ge i0 T.size with h0 | h0 | h0
          · have hp1 := fun w' => HPV.out i0 w' HI0.out
            rw [placeV_lo _ _ _ h0] at hp1
            skip
            have hd' : ¬ ((T.size : Int) ≤ i0) := by omega
            go_upto_region 17 with fail
            refine wp_region_grow (by kernel_rfl) (by kernel_rfl) ?_
            repeat (go_big_quiet_step ((first
              | (go_at_call 16; with_reducible exact Grow.call _ (hp0 _))
              | (go_at_call 16; with_reducible exact Grow.call _ (hp1 _)))))
            refine wpQuiet_nil ?_
            intro _ hw'
            obtain ⟨x, rfl⟩ := hw'
            go_wp2_with fail
            go_roundw
            case rel => exact ⟨j + 1, by omega, rfl, Lib.hid (HP3.out.trans (x.below.mono HP3.out.size))⟩
            case measure => simp [intOf]; omega
          · have hd : ¬ (i0 < 0) := by omega
            have hd' : ¬ ((T.size : Int) ≤ i0) := by omega
            go_upto_region 17 with fail
            refine wp_region_grow (by kernel_rfl) (by kernel_rfl) ?_
            repeat (go_big_quiet_step ((first
              | (go_at_call 16; with_reducible exact Grow.call _ (hp0 _)))))
            refine wpQuiet_nil ?_
            intro _ hw'
            obtain ⟨x, rfl⟩ := hw'
            go_wp2_with fail
            go_roundw
            case rel => exact ⟨j + 1, by omega, rfl, Lib.hid (HP3.out.trans (x.below.mono HP3.out.size))⟩
            case measure => simp [intOf]; omega
          · have hp1 := fun w' => HPV.out i0 w' HI0.out
            have hp2 := fun w' => HPV.out (T.size : Int) w' (by omega)
            rw [placeV_hi _ _ _ h0] at hp1
            generalize placeV T pa T.size = V at hp1 hp2
            have g2 : (V != V) = false := by simp
            have hd : ¬ (i0 < 0) := by omega
            skip
            go_upto_region 17 with fail
            refine wp_region_grow (by kernel_rfl) (by kernel_rfl) ?_
            repeat (go_big_quiet_step ((first
              | (go_at_call 16; with_reducible exact Grow.call _ (hp0 _))
              | (go_at_call 16; with_reducible exact Grow.call _ (hp1 _))
              | (go_at_call 16; with_reducible exact Grow.call _ (hp2 _)))))
            refine wpQuiet_nil ?_
            intro _ hw'
            obtain ⟨x, rfl⟩ := hw'
            go_wp2_with fail
            go_roundw
            case rel => exact ⟨j + 1, by omega, rfl, Lib.hid (HP3.out.trans (x.below.mono HP3.out.size))⟩
            case measure => simp [intOf]; omega
        · have q1 : ¬ ((k : Int) < (T.size : Int)) := by omega
          rcases lt_or_in_or_ge i0 T.size with h0 | h0 | h0
          · have hp1 := fun w' => HPV.out i0 w' HI0.out
            rw [placeV_lo _ _ _ h0] at hp1
            skip
            have hd' : ¬ ((T.size : Int) ≤ i0) := by omega
            go_upto_region 17 with fail
            refine wp_region_grow (by kernel_rfl) (by kernel_rfl) ?_
            repeat (go_big_quiet_step ((first
              | (go_at_call 16; with_reducible exact Grow.call _ (hp0 _))
              | (go_at_call 16; with_reducible exact Grow.call _ (hp1 _)))))
            refine wpQuiet_nil ?_
            intro _ hw'
            obtain ⟨x, rfl⟩ := hw'
            go_wp2_with fail
            go_roundw
            case rel => exact ⟨j + 1, by omega, rfl, Lib.hid (HP3.out.trans (x.below.mono HP3.out.size))⟩
            case measure => simp [intOf]; omega
          · have hd : ¬ (i0 < 0) := by omega
            have hd' : ¬ ((T.size : Int) ≤ i0) := by omega
            go_upto_region 17 with fail
            refine wp_region_grow (by kernel_rfl) (by kernel_rfl) ?_
            repeat (go_big_quiet_step ((first
              | (go_at_call 16; with_reducible exact Grow.call _ (hp0 _)))))
            refine wpQuiet_nil ?_
            intro _ hw'
            obtain ⟨x, rfl⟩ := hw'
            go_wp2_with fail
            go_roundw
            case rel => exact ⟨j + 1, by omega, rfl, Lib.hid (HP3.out.trans (x.below.mono HP3.out.size))⟩
            case measure => simp [intOf]; omega
          · have hp1 := fun w' => HPV.out i0 w' HI0.out
            have hp2 := fun w' => HPV.out (T.size : Int) w' (by omega)
            rw [placeV_hi _ _ _ h0] at hp1
            generalize placeV T pa T.size = V at hp1 hp2
            have g2 : (V != V) = false := by simp
            have hd : ¬ (i0 < 0) := by omega
            skip
            go_upto_region 17 with fail
            refine wp_region_grow (by kernel_rfl) (by kernel_rfl) ?_
            repeat (go_big_quiet_step ((first
              | (go_at_call 16; with_reducible exact Grow.call _ (hp0 _))
              | (go_at_call 16; with_reducible exact Grow.call _ (hp1 _))
              | (go_at_call 16; with_reducible exact Grow.call _ (hp2 _)))))
            refine wpQuiet_nil ?_
            intro _ hw'
            obtain ⟨x, rfl⟩ := hw'
            go_wp2_with fail
            go_roundw
            case rel => exact ⟨j + 1, by omega, rfl, Lib.hid (HP3.out.trans (x.below.mono HP3.out.size))⟩
            case measure => simp [intOf]; omega
      obtain ⟨n, hn, hns, hpv, hdat⟩ := HPX.out k hkk.1
      have d1 : decide ((k : Int) < (T.size : Int)) = true := by rw [decide_eq_true_eq]; omega
      have d2 : decide ((k : Int) < (200 : Int)) = true := by rw [decide_eq_true_eq]; omega
      have d1' : (k : Int) < (T.size : Int) := by omega
      have d2' : (k : Int) < (200 : Int) := by omega
      have hc := HPV.out (k : Int) wr (by omega)
      rw [hpv] at hc
      go_wp2_with fail
      refine hc.mono ?_
      rintro e w4 ⟨rfl, hb4⟩
      have hq4 := (hb4.block _ (lt_of_blk hq3i)).trans hq3i
      have HI4 := Lib.hid (HI.out.trans (hb4.mono HI.out.size))
      clear f3 l3 hbI hq3i hc hb4
      have f3 := cells4L hq4
      have l3 := lt_of_blk hq4
      have e1 : ¬ ((n : Int) < 0) := by omega
      have e2 : ¬ ((s.size : Int) ≤ (n : Int)) := by omega
      have e1' : decide ((n : Int) < 0) = false := by rw [decide_eq_false_iff_not]; omega
      have e2' : decide ((s.size : Int) ≤ (n : Int)) = false := by rw [decide_eq_false_iff_not]; omega
      have e3 : ((n : Int) < (s.size : Int)) := by omega
      have hsk : s[n]'hns = T[k]'hkk.1 := by
        have h1 : s.data[n]? = some (s[n]'hns) := by rw [Array.getElem?_eq_getElem (by simpa using hns)]; rfl
        have h2 : T.data[k]? = some (T[k]'hkk.1) := by rw [Array.getElem?_eq_getElem (by simpa using hkk.1)]; rfl
        rw [h1, h2] at hdat
        exact Option.some.inj hdat
      have hdk : decide (s.size ≤ n) = false := by rw [decide_eq_false_iff_not]; omega
      clear hpv hn hdat
      go_upto_region 15 with fail
      go_quiet (fail)
      try simp only [hsk, hdk, bne_self_eq_false, Bool.or_false]
      go_wp2_with fail
      go_roundw
      case rel => exact ⟨k + 1, by omega, by omega, rfl, Lib.hid (_root_.Go.below_drewN HI4.out nq)⟩
      case measure => simp [intOf]; omega
end Go.Proofs.YtponopcnndkalaaGreatDoor.Fl
