/-
  The lexer: what stands between '.
-/
import Derived.Test.YtmdkneollidkfaaGreatDoorLxS
import Derived.Test.YtmdkneollidkfaaGreatDoorLxD
namespace Go.Proofs.YtmdkneollidkfaaGreatDoor.Fl
open Go.RowKit

theorem unq_skip (c : UInt8) (l : List UInt8) (h : ([39, 39] : List UInt8).isPrefixOf (c :: l) = false) : unq (c :: l) = c :: unq l := by
  cases l with
  | nil => rfl
  | cons d l =>
    rw [unq]
    split
    · next hc =>
      obtain ⟨rfl, rfl⟩ := hc
      simp [List.isPrefixOf] at h
    · rfl
theorem unq_index : ∀ l : List UInt8, (Lib.index l [39, 39] = -1 → unq l = l) ∧ (∀ i : Nat, Lib.index l [39, 39] = i → unq l = l.take i ++ 39 :: unq (l.drop (i + 2)))
  | [] => ⟨fun _ => rfl, fun i h => by simp [Lib.index] at h⟩
  | c :: l => by
    obtain ⟨h1, h2⟩ := unq_index l
    cases hp : ([39, 39] : List UInt8).isPrefixOf (c :: l)
    · rw [Lib.index, hp, unq_skip c l hp]
      rcases Lib.index_spec l [39, 39] with ⟨e, _⟩ | ⟨j, e, _⟩
      · rw [e]
        exact ⟨fun _ => by rw [h1 e], fun i h => by simp at h⟩
      · rw [e]
        have ej : ((j : Int) == -1) = false := by simp
        rw [ej]
        refine ⟨fun h => by simp at h; omega, fun i h => ?_⟩
        have hi : i = j + 1 := by simp at h; omega
        subst hi
        rw [h2 j e, List.take_succ_cons, show j + 1 + 2 = (j + 2) + 1 by omega, List.drop_succ_cons]
        rfl
    · rw [Lib.index, hp]
      refine ⟨fun h => by simp at h, fun i h => ?_⟩
      have hi : i = 0 := by simp at h; omega
      subst hi
      cases l with
      | nil => simp [List.isPrefixOf] at hp
      | cons d l =>
        simp [List.isPrefixOf] at hp
        obtain ⟨e1, e2⟩ := hp
        subst e1 e2
        rw [unq, if_pos ⟨rfl, rfl⟩]; rfl
theorem dbl_index : ∀ l : List UInt8, (Lib.index l [39] = -1 → dbl l = l) ∧ (∀ i : Nat, Lib.index l [39] = i → dbl l = l.take i ++ (39 :: 39 :: dbl (l.drop (i + 1))))
  | [] => ⟨fun _ => rfl, fun i h => by simp [Lib.index] at h⟩
  | c :: l => by
    obtain ⟨h1, h2⟩ := dbl_index l
    cases hp : ([39] : List UInt8).isPrefixOf (c :: l)
    · have hc : c ≠ 39 := fun e => by subst e; simp [List.isPrefixOf] at hp
      rw [Lib.index, hp, dbl, if_neg hc]
      rcases Lib.index_spec l [39] with ⟨e, _⟩ | ⟨j, e, _⟩
      · rw [e]
        exact ⟨fun _ => by rw [h1 e], fun i h => by simp at h⟩
      · rw [e]
        have ej : ((j : Int) == -1) = false := by simp
        rw [ej]
        refine ⟨fun h => by simp at h; omega, fun i h => ?_⟩
        have hi : i = j + 1 := by simp at h; omega
        subst hi
        rw [h2 j e, List.take_succ_cons, List.drop_succ_cons]
        rfl
    · rw [Lib.index, hp]
      refine ⟨fun h => by simp at h, fun i h => ?_⟩
      have hi : i = 0 := by simp at h; omega
      subst hi
      have hc : c = 39 := by simp [List.isPrefixOf] at hp; exact hp.symm
      subst hc
      rw [dbl, if_pos rfl]; rfl
theorem replace_unq : ∀ (n : Nat) (l : List UInt8), l.length ≤ n → Lib.replaceK [39, 39] [39] (Lib.count l [39, 39]) l = unq l
  | n, l, hn => by
    rcases Lib.index_spec l [39, 39] with ⟨e, _⟩ | ⟨i, e, _⟩
    · rw [Lib.count_miss e, (unq_index l).1 e]; rfl
    · have hr := Lib.index_room l [39, 39] (by rw [e]; omega)
      rw [e] at hr
      simp at hr
      rw [Lib.count_hit (by simp) e, Nat.add_comm, Lib.replaceK_hit _ _ _ l i e, (unq_index l).2 i e]
      show _ ++ Lib.replaceK _ _ (Lib.count (l.drop (i + 2)) _) (l.drop (i + 2)) = _
      cases n with
      | zero => omega
      | succ n => rw [replace_unq n (l.drop (i + 2)) (by rw [List.length_drop]; omega)]; simp
theorem replace_dbl : ∀ (n : Nat) (l : List UInt8), l.length ≤ n → Lib.replaceK [39] [39, 39] (Lib.count l [39]) l = dbl l
  | n, l, hn => by
    rcases Lib.index_spec l [39] with ⟨e, _⟩ | ⟨i, e, _⟩
    · rw [Lib.count_miss e, (dbl_index l).1 e]; rfl
    · have hr := Lib.index_room l [39] (by rw [e]; omega)
      rw [e] at hr
      simp at hr
      rw [Lib.count_hit (by simp) e, Nat.add_comm, Lib.replaceK_hit _ _ _ l i e, (dbl_index l).2 i e]
      show _ ++ Lib.replaceK _ _ (Lib.count (l.drop (i + 1)) _) (l.drop (i + 1)) = _
      cases n with
      | zero => omega
      | succ n => rw [replace_dbl n (l.drop (i + 1)) (by rw [List.length_drop]; omega)]; simp
/-- what the lexer reads of package variables -/
def MaxAt (w : World) : Prop := ∃ m, w.cell? ⟨0, 0, none⟩ = some (.int .i64 m)
theorem MaxAt.below {w w' : World} (h : MaxAt w) (hb : Below w.heap.size w w') : MaxAt w' := by
  obtain ⟨m, hm⟩ := h
  exact ⟨m, (hb.cell (p := ⟨0, 0, none⟩) (World.block_lt_of_cell? _ _ hm)).trans hm⟩
theorem unq_any (s : ByteArray) (w : World) (hs : s.size ≤ 16777216) (hm : MaxAt w) :
    Calls Tryz.prog 53 #[.string s, .string ⟨#[39, 39]⟩, .string ⟨#[39]⟩] w fun e w' => e = .returned (.string ⟨(unq (sb s)).toArray⟩) ∧ Below w.heap.size w w' := by
  obtain ⟨m, hm⟩ := hm
  have h := replaceAll_any s ⟨#[39, 39]⟩ ⟨#[39]⟩ m w hs hm (by decide) (by decide) (by decide) (by decide) (by decide) fun w' hm' => Tryz.strings_Count s ⟨#[39, 39]⟩ m w' (by omega) hm' (by decide)
  rw [show Lib.countB s ⟨#[39, 39]⟩ = Lib.count (sb s) [39, 39] from rfl, show sb ⟨#[39, 39]⟩ = [39, 39] from rfl, show sb ⟨#[39]⟩ = [39] from rfl, replace_unq _ _ (Nat.le_refl _)] at h
  exact h
theorem dbl_any (s : ByteArray) (w : World) (hs : s.size ≤ 16777216) (hm : MaxAt w) :
    Calls Tryz.prog 53 #[.string s, .string ⟨#[39]⟩, .string ⟨#[39, 39]⟩] w fun e w' => e = .returned (.string ⟨(dbl (sb s)).toArray⟩) ∧ Below w.heap.size w w' := by
  obtain ⟨m, hm⟩ := hm
  have h := replaceAll_any s ⟨#[39]⟩ ⟨#[39, 39]⟩ m w hs hm (by decide) (by decide) (by decide) (by decide) (by decide) fun w' hm' => by
    have := Tryz.strings_Count_one s 39 w'
    rw [show Lib.countByte s.data.toList 39 = Lib.countB s ⟨#[39]⟩ from (Lib.count_one 39 _).symm] at this
    exact this
  rw [show Lib.countB s ⟨#[39]⟩ = Lib.count (sb s) [39] from rfl, show sb ⟨#[39, 39]⟩ = [39, 39] from rfl, show sb ⟨#[39]⟩ = [39] from rfl, replace_dbl _ _ (Nat.le_refl _)] at h
  exact h
/-- the place behind the ' that ends a Text -/
def quoA (p : Nat) : List UInt8 → Option Nat
  | [] => none
  | [c] => if c = 39 then some (p + 1) else none
  | c :: d :: l => if c = 39 then (if d = 39 then quoA (p + 2) l else some (p + 1)) else quoA (p + 1) (d :: l)
theorem quoA_no {s : ByteArray} {q : Nat} (hq : q < s.size) (h : lookB s q ≠ 39) : quoA q ((sb s).drop q) = quoA (q + 1) ((sb s).drop (q + 1)) := by
  have hc : s[q] ≠ 39 := fun e => h (by unfold lookB; rw [dif_pos hq, e]; rfl)
  rw [drop_at hq]
  cases (sb s).drop (q + 1) with
  | nil =>
    show (if s[q] = 39 then some (q + 1) else none) = none
    rw [if_neg hc]
  | cons d l => rw [quoA, if_neg hc]
theorem quoA_end {s : ByteArray} {q : Nat} (h : lookB s q = 39) (h2 : lookB s (q + 1) ≠ 39) : quoA q ((sb s).drop q) = some (q + 1) := by
  obtain ⟨hq, e⟩ := lookB_pos h (by decide)
  have hc : s[q] = 39 := UInt8.toNat_inj.1 e
  rw [drop_at hq, hc]
  rcases Nat.lt_or_ge (q + 1) s.size with h3 | h3
  · have hd : s[q + 1] ≠ 39 := fun e => h2 (by unfold lookB; rw [dif_pos h3, e]; rfl)
    rw [drop_at h3, quoA, if_pos rfl, if_neg hd]
  · rw [List.drop_of_length_le (by rw [sb_len]; exact h3), quoA, if_pos rfl]
theorem quoA_two {s : ByteArray} {q : Nat} (h : lookB s q = 39) (h2 : lookB s (q + 1) = 39) : quoA q ((sb s).drop q) = quoA (q + 2) ((sb s).drop (q + 2)) := by
  obtain ⟨hq, e⟩ := lookB_pos h (by decide)
  obtain ⟨hq2, e2⟩ := lookB_pos h2 (by decide)
  have hc : s[q] = 39 := UInt8.toNat_inj.1 e
  have hd : s[q + 1] = 39 := UInt8.toNat_inj.1 e2
  rw [drop_at hq, drop_at hq2, hc, hd, quoA, if_pos rfl, if_pos rfl]
def QuoPost (R : Nat) (s : ByteArray) (f b : Nat) (r : Option Nat) (w : World) (e : Ending) (w' : World) : Prop := (r = none ∧ e = .panicked (faultC 4 b) ∧ Ov R w w') ∨ (∃ q t, r = some q ∧ f < q ∧ q ≤ s.size ∧ e = .returned (.string t) ∧ sb t = unq (midL s f (q - 1)) ∧ RdrAt w' R s q b ∧ Ov R w w')
set_option maxHeartbeats 2000000 in
theorem quoted_any (R : Nat) (s : ByteArray) (p b : Nat) (w : World) (h : RdrAt w R s p b) (hs : s.size ≤ 16777216) (hp : p < s.size) (hR0 : 0 < R) (hm : MaxAt w) :
    Calls Tryz.prog 179 #[.pointer (some ⟨R, 0, none⟩)] w (QuoPost R s (p + 1) b (quoA (p + 1) ((sb s).drop (p + 1))) w) := by
  obtain ⟨c0, c1, c2, cf⟩ := h.cells
  have hR := lt_of_blk h
  obtain ⟨f, hf⟩ : ∃ f, p + 1 = f := ⟨_, rfl⟩
  rw [hf]
  have hfi : (p : Int) + 1 = (f : Int) := by omega
  have hfs : f ≤ s.size := by omega
  obtain ⟨r, hr⟩ : ∃ r, quoA f ((sb s).drop f) = r := ⟨_, rfl⟩
  rw [hr]
  have HR := Lib.hid hr
  have H1 := Lib.hid (h.step f)
  have HO1 := Lib.hid (Ov.set (R := R) w 1 (.int .i64 (f : Int)))
  have HMx := Lib.hid (fun (w' : World) (ho : Ov R w w') => show MaxAt w' from by
    obtain ⟨m, hm⟩ := hm
    have hlt := World.block_lt_of_cell? _ _ hm
    exact ⟨m, (World.cell?_of_block (a := ⟨0, 0, none⟩) (ho.block 0 hlt (by omega))).trans hm⟩)
  clear h hr hm hf
  go_enter Tryz.func179, Tryz.ntmps179
  go_wp2_with fail
  clear hfi c0 c1 c2 cf
  generalize w.setCell ⟨R, 1, none⟩ (.int .i64 (f : Int)) = w1 at *
  go_loopw [] (fun wr => ∃ q, f ≤ q ∧ q ≤ s.size ∧ Hid (quoA q ((sb s).drop q) = r) ∧ Hid (RdrAt wr R s q b) ∧ Hid (Ov R w wr)) (fun wr => s.size - atOf R wr)
  case atStart => exact ⟨f, Nat.le_refl _, hfs, HR, H1, HO1⟩
  case round =>
    clear HR H1 HO1
    obtain ⟨q, hfq, hq, HE, HR, HO⟩ := hrel
    have HM := Lib.hid (show atOf R wr = q from HR.out.atOf)
    obtain ⟨c0, c1, c2, cf⟩ := HR.out.cells
    have hR1 := lt_of_blk HR.out
    by_cases hlt : q < s.size
    · go_upto_region 3 with fail
      go_cut [22] (fun v wx => v = .bool true ∧ Hid (Below wr.heap.size wr wx))
      case first =>
        go_quiet (fail)
        go_wp2_with fail
        all_goals go_meet
        all_goals first
          | exact ⟨rfl, Lib.hid (_root_.Go.below_drewN (Below.refl _ _) _)⟩
          | exact ⟨by simp, Lib.hid (_root_.Go.below_drewN (Below.refl _ _) _)⟩
      case rest =>
        obtain ⟨rfl, HB1⟩ := hcut
        have H1 := Lib.hid (HR.out.below HB1.out)
        have HO1 := Lib.hid (HO.out.trans (Ov.of_below HB1.out))
        have hl0 := lxLook_any R s q b 0 wc H1.out hs hq (by omega)
        rw [Nat.add_zero] at hl0
        clear c0 c1 c2 cf hR1 HB1 HR HO
        by_cases h39 : lookB s q = 39
        · rw [h39] at hl0
          have hE1 := fun h => HE.out.symm.trans (quoA_end h39 h)
          have hE2 := fun h => HE.out.symm.trans (quoA_two h39 h)
          go_wp2_with fail
          refine hl0.mono ?_
          rintro e w2 ⟨rfl, hb2⟩
          have H2 := Lib.hid (H1.out.below hb2)
          have HO2 := Lib.hid (HO1.out.trans (Ov.of_below hb2))
          clear hl0 hb2 H1 HO1
          obtain ⟨c0, c1, c2, cf⟩ := H2.out.cells
          have hR2 := lt_of_blk H2.out
          go_upto_region 7 with fail
          have H3 := Lib.hid (H2.out.step (q + 1))
          have HO3 := Lib.hid (HO2.out.trans (Ov.set w2 1 (.int .i64 ((q + 1 : Nat) : Int))))
          rw [show (q : Int) + 1 = ((q + 1 : Nat) : Int) by omega]
          generalize w2.setCell ⟨R, 1, none⟩ (.int .i64 ((q + 1 : Nat) : Int)) = w3 at *
          clear c0 c1 c2 cf hR2 H2 HO2
          have hl1 := lxLook_any R s (q + 1) b 0 w3 H3.out hs hlt (by omega)
          rw [Nat.add_zero] at hl1
          by_cases h39b : lookB s (q + 1) = 39
          · rw [h39b] at hl1
            have HE2 := Lib.hid (hE2 h39b)
            obtain ⟨hq2, _⟩ := lookB_pos h39b (by decide)
            clear hE1 hE2
            go_wp2_with fail
            refine hl1.mono ?_
            rintro e w4 ⟨rfl, hb4⟩
            have H4 := Lib.hid (H3.out.below hb4)
            have HO4 := Lib.hid (HO3.out.trans (Ov.of_below hb4))
            clear hl1 hb4 H3 HO3
            obtain ⟨c0, c1, c2, cf⟩ := H4.out.cells
            have hR4 := lt_of_blk H4.out
            have H5 := Lib.hid (H4.out.step (q + 2))
            have HO5 := Lib.hid (HO4.out.trans (Ov.set w4 1 (.int .i64 ((q + 2 : Nat) : Int))))
            go_wp2_with fail
            rw [show (q : Int) + 1 + 1 = ((q + 2 : Nat) : Int) by omega]
            refine ⟨⟨q + 2, by omega, hq2, Lib.hid HE2.out.symm, H5, HO5⟩, ?_⟩
            rw [H5.out.atOf, HM.out]; omega
          · have HE2 := Lib.hid (hE1 h39b)
            have hne : ((lookB s (q + 1) : Int) != 39) = true := by simp; omega
            clear hE1 hE2
            generalize lookB s (q + 1) = c' at *
            go_wp2_with fail
            refine hl1.mono ?_
            rintro e w4 ⟨rfl, hb4⟩
            have H4 := Lib.hid (H3.out.below hb4)
            have HO4 := Lib.hid (HO3.out.trans (Ov.of_below hb4))
            clear hl1 hb4 H3 HO3
            obtain ⟨c0, c1, c2, cf⟩ := H4.out.cells
            have hR4 := lt_of_blk H4.out
            have e2 : ((q + 1 : Nat) : Int) - 1 = (q : Int) := by omega
            have hua := fun (x : Grow w4) => unq_any (s.extract f q) x.w (by simp; omega) (HMx.out x.w (HO4.out.trans (Ov.of_below x.below)))
            rw [mid_eq] at hua
            have hx := fun (x : Grow w4) => x.cell
            go_upto_region 8 with fail
            refine wp_region_grow (by kernel_rfl) (by kernel_rfl) ?_
            repeat (go_big_quiet_step ((go_at_call 53; exact Grow.call _ (hua _))))
            refine wpQuiet_nil ?_
            intro _ hw'
            obtain ⟨x, rfl⟩ := hw'
            have hb := Lib.hid x.below
            clear hx hua e2 c0 c1 c2 cf hR4
            go_wp2_with fail
            go_ret
            exact .inr ⟨q + 1, _, HE2.out, by omega, hlt, rfl, rfl, H4.out.below hb.out, HO4.out.trans (Ov.of_below hb.out)⟩
        · have hne : ((lookB s q : Int) != 39) = true := by simp; omega
          have HE2 := Lib.hid (HE.out.symm.trans (quoA_no hlt h39))
          generalize lookB s q = c' at *
          go_wp2_with fail
          refine hl0.mono ?_
          rintro e w2 ⟨rfl, hb2⟩
          have H2 := Lib.hid (H1.out.below hb2)
          have HO2 := Lib.hid (HO1.out.trans (Ov.of_below hb2))
          clear hl0 hb2 H1 HO1
          obtain ⟨c0, c1, c2, cf⟩ := H2.out.cells
          have hR2 := lt_of_blk H2.out
          have H3 := Lib.hid (H2.out.step (q + 1))
          have HO3 := Lib.hid (HO2.out.trans (Ov.set w2 1 (.int .i64 ((q + 1 : Nat) : Int))))
          go_wp2_with fail
          rw [show (q : Int) + 1 = ((q + 1 : Nat) : Int) by omega]
          refine ⟨⟨q + 1, by omega, hlt, Lib.hid HE2.out.symm, H3, HO3⟩, ?_⟩
          rw [H3.out.atOf, HM.out]; omega
    · have hqe : q = s.size := by omega
      have HN := Lib.hid (show r = none by rw [← HE.out, List.drop_of_length_le (by rw [sb_len]; omega)]; rfl)
      go_upto_region 3 with fail
      go_cut [22] (fun v wx => v = .bool false ∧ Hid (Below wr.heap.size wr wx))
      case first =>
        go_quiet (fail)
        go_wp2_with fail
        all_goals go_meet
        all_goals first
          | exact ⟨rfl, Lib.hid (_root_.Go.below_drewN (Below.refl _ _) _)⟩
          | exact ⟨by simp; omega, Lib.hid (_root_.Go.below_drewN (Below.refl _ _) _)⟩
      case rest =>
        obtain ⟨rfl, HB1⟩ := hcut
        have hg := giveUp_any R s q b 4 wc (HR.out.below HB1.out)
        have HO1 := Lib.hid (HO.out.trans (Ov.of_below HB1.out))
        clear c0 c1 c2 cf hR1 HB1 HR HO
        go_wp2_with fail
        refine hg.mono ?_
        rintro e w2 ⟨rfl, rfl⟩
        go_wp2_with fail
        exact ⟨rfl, .inl ⟨HN.out, rfl, HO1.out⟩⟩
end Go.Proofs.YtmdkneollidkfaaGreatDoor.Fl
