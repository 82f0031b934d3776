/-
  The program's Write: the file.
-/
import Derived.Test.YtmdkneollidkfaaGreatDoorClH
import Derived.Test.YtmdkneollidkfaaGreatDoorCkY
import Derived.Deep.DeepCutAuto
namespace Go.Proofs.YtmdkneollidkfaaGreatDoor.Fl
open Go.RowKit Go.Shelf

def clsP (c : Cls) : List (List UInt8) := [superW c.2.1, subW, c.1, fdsW, fldW c.2.2.1, [39, 33, 10]]
def clssP (l : List Cls) : List (List UInt8) := l.flatMap clsP
theorem clssP_flat (l : List Cls) : (clssP l).flatten = clssW l := by
  induction l with
  | nil => rfl
  | cons c l ih =>
    show ((clsP c) ++ clssP l).flatten = clsW c ++ clssW l
    rw [List.flatten_append, ih]
    simp [clsP, clsW, clsT]
def keyS (x : Src) : List UInt8 × Bool := (x.1, x.2.1)
def srcP (m : Option (List UInt8 × Bool)) (x : Src) (next : Option (List UInt8 × Bool)) : List (List UInt8) :=
  (if m = some (keyS x) then [] else hdP x.1 x.2.1) ++ ([dblE x.2.2.1, [33, 10]] ++ (if next = some (keyS x) then [] else [[32, 33, 10]]))
def srcsP : Option (List UInt8 × Bool) → List Src → List (List UInt8)
  | _, [] => []
  | m, x :: l => srcP m x (l.head?.map keyS) ++ srcsP (some (keyS x)) l
def closeW (m : Option (List UInt8 × Bool)) (l : List Src) : List UInt8 := match m with
  | none => []
  | some h => if l.head?.map keyS = some h then [] else [32, 33, 10]
theorem srcsP_flat : ∀ (l : List Src) (m : Option (List UInt8 × Bool)), closeW m l ++ (srcsP m l).flatten = srcsW m l
  | [], none => rfl
  | [], some h => by simp [closeW, srcsP, srcsW]
  | x :: l, m => by
    have ih := srcsP_flat l (some (keyS x))
    have hc : (if l.head?.map keyS = some (keyS x) then [] else [[32, 33, 10]] : List (List UInt8)).flatten = closeW (some (keyS x)) l := by
      unfold closeW
      dsimp only
      split <;> rfl
    have e : (srcsP m (x :: l)).flatten = (if m = some (keyS x) then [] else hdW x.1 x.2.1) ++ (dblE x.2.2.1 ++ ([33, 10] ++ srcsW (some (keyS x)) l)) := by
      rw [srcsP, srcP, List.flatten_append, List.flatten_append, List.flatten_append, hc, ← ih]
      split
      · simp
      · rw [hdP_flat]; simp
    rw [e]
    cases m with
    | none => simp [closeW, srcsW, keyS]
    | some h =>
      by_cases he : h = keyS x
      · subst he; simp [closeW, srcsW, keyS]
      · have he2 : ¬ keyS x = h := fun e => he e.symm
        have he3 : ¬ h = (x.1, x.2.1) := he
        simp [closeW, srcsW, he, he2, he3]
        simp [keyS]
def prevS (ss : List Src) (j : Nat) : Option (List UInt8 × Bool) := if j = 0 then none else ss[j - 1]?.map keyS
theorem prevS_succ {ss : List Src} {j : Nat} (h : j < ss.length) : prevS ss (j + 1) = some (keyS ss[j]) := by
  unfold prevS
  rw [if_neg (by omega), Nat.add_sub_cancel, List.getElem?_eq_getElem h]; rfl
theorem srcsP_at {ss : List Src} {j : Nat} (h : j < ss.length) (m : Option (List UInt8 × Bool)) : srcsP m (ss.drop j) = srcP m ss[j] (ss[j + 1]?.map keyS) ++ srcsP (some (keyS ss[j])) (ss.drop (j + 1)) := by
  rw [List.drop_eq_getElem_cons h, srcsP, List.head?_drop]
theorem clssP_at {l : List Cls} {i : Nat} (h : i < l.length) : clssP (l.drop i) = clsP l[i] ++ clssP (l.drop (i + 1)) := by
  rw [List.drop_eq_getElem_cons h]; rfl
theorem clsP_le {nm sp : List UInt8} {fl : List (List UInt8)} {at_ : Int} (h1 : nm.length ≤ 16777216) (h2 : sp.length ≤ 16777216) (h3 : (fldW fl).length ≤ 16777216) : ∀ x ∈ clsP (nm, sp, fl, at_), x.length ≤ 16777216 := by
  intro x hx
  have hs : (superW sp).length ≤ 16777216 := by unfold superW; split; simp; exact h2
  simp only [clsP, List.mem_cons, List.not_mem_nil, or_false] at hx
  rcases hx with rfl | rfl | rfl | rfl | rfl | rfl
  · exact hs
  · simp
  · exact h1
  · simp
  · exact h3
  · simp
theorem like_dec (y0 y : Src) : decide (some (keyS y0) ≠ some (keyS y)) = !(y0.1 == y.1 && y0.2.1 == y.2.1) := by
  unfold keyS
  by_cases h1 : y0.1 = y.1 <;> by_cases h2 : y0.2.1 = y.2.1 <;> simp [h1, h2]
theorem dblE_le : ∀ u : List UInt8, (dblE u).length ≤ 2 * u.length
  | [] => Nat.le_refl _
  | c :: u => by
    have := dblE_le u
    rw [dblE]
    split <;> simp only [List.length_cons] <;> omega
set_option maxRecDepth 100000 in
set_option maxHeartbeats 8000000 in
theorem wfile_any (B b : Nat) (acc : List UInt8) (v0 v1 : Value) (fs : List (Cls × Value)) (ss : List Src) (w : World) (h : WrIs w B b acc) (hu : UnAt w B v0 v1 fs ss) (ha : acc.length ≤ 16842752) (hB : B ≤ w.heap.size) (hl : fs.length ≤ 100000000) (hl2 : ss.length ≤ 100000000) (hc : ∀ x ∈ fs, BdC x) (hs : ∀ x ∈ ss, BdS x) (hm : ∀ w', Below B w w' → MaxAt w') :
    Calls Tryz.prog 32 #[.pointer (some ⟨b, 0, none⟩), .agg #[v0, v1]] w fun e w' => e = .returned (.tuple #[]) ∧ WrIs w' B b (putP (putP acc (clssP (fs.map fun x => x.1))) (srcsP none ss)) ∧ Below B w w' := by
  obtain ⟨⟨Ac, cc, rfl, hcc, hrc⟩, ⟨As, cs, rfl, hcs, hrs⟩, hfi⟩ := hu
  have hp : Hid (∀ (acc : List UInt8) (ps : List (List UInt8)) (w : World), WrIs w B b acc → ps.length ≤ 1000 → acc.length ≤ 16842752 → (∀ x ∈ ps, x.length ≤ 16777216) → B ≤ w.heap.size → Calls Tryz.prog 49 #[.pointer (some ⟨b, 0, none⟩), .slice (some ⟨w.heap.size, 0, none⟩) ps.length ps.length] (w.alloc (.cells (cs_ ps).toArray 9)) fun e w' => e = .returned (.tuple #[]) ∧ WrIs w' B b (putP acc ps) ∧ (putP acc ps).length ≤ 16842752 ∧ Below B w w' ∧ KpW w w') := Lib.hid (fun acc ps w => put_row B b acc ps w)
  have hh : Hid (∀ (acc nm tx : List UInt8) (m : Bool) (at_ : Int) (w : World), WrIs w B b acc → acc.length ≤ 16842752 → nm.length ≤ 16777216 → B ≤ w.heap.size → Calls Tryz.prog 52 #[.pointer (some ⟨b, 0, none⟩), .agg #[.string (mkB nm), .bool m, .string (mkB tx), .int .i64 at_]] w fun e w' => e = .returned (.tuple #[]) ∧ WrIs w' B b (putP acc (hdP nm m)) ∧ (putP acc (hdP nm m)).length ≤ 16842752 ∧ Below B w w' ∧ KpW w w') := Lib.hid (fun acc nm tx m at_ w => header_any B b acc nm tx m at_ w)
  have hq1 := heap_alloc_new w (.cells #[.slice Ac fs.length cc, .slice As ss.length cs] 53)
  have hb1 : Below w.heap.size w (w.alloc (.cells #[.slice Ac fs.length cc, .slice As ss.length cs] 53)) := (Below.refl _ _).alloc (Nat.le_refl _) _
  obtain ⟨W, hW⟩ : ∃ W, w.alloc (.cells #[.slice Ac fs.length cc, .slice As ss.length cs] 53) = W := ⟨_, rfl⟩
  rw [hW] at hq1 hb1
  have HRC := Lib.hid hrc
  have HRS := Lib.hid hrs
  have HFI := Lib.hid hfi
  have HC := Lib.hid hc
  have HSS := Lib.hid hs
  have HM := Lib.hid (And.intro hm hB)
  obtain ⟨tot, htot⟩ : ∃ t, putP acc (clssP (fs.map fun x => x.1)) = t := ⟨_, rfl⟩
  have HTot := Lib.hid htot
  rw [htot]
  obtain ⟨T, hT⟩ : ∃ T, w.heap.size = T := ⟨_, rfl⟩
  rw [hT] at hq1
  have H0 := Lib.hid (show WrIs W B b acc ∧ acc.length ≤ 16842752 ∧ Below B w W from ⟨h.below hb1, ha, hb1.mono hB⟩)
  have HQ := Lib.hid hq1
  clear hrc hrs hfi hc hs hm h hq1 htot
  go_enter Tryz.func32, Tryz.ntmps32
  go_upto_region 1 with fail
  try simp only [hW, hT]
  have f1 := cells2V HQ.out
  have l1 := lt_of_blk HQ.out
  clear hW hT hb1
  go_wp2_with fail
  go_loopw [12] (fun v wr => ∃ (i : Nat) (cur : List UInt8), i ≤ fs.length ∧ v = .int .i64 (i : Int) ∧ Hid (WrIs wr B b cur ∧ cur.length ≤ 16842752 ∧ Below B w wr) ∧
    Hid (putP cur (clssP ((fs.map fun x => x.1).drop i)) = tot) ∧ Hid (wr.heap[T]? = some (.cells #[.slice Ac fs.length cc, .slice As ss.length cs] 53 (0, 0)))) (fun v _ => fs.length - (intOf v).toNat)
  case atStart => exact ⟨0, acc, Nat.zero_le _, rfl, H0, HTot, HQ⟩
  case round =>
    clear H0 HQ f1 l1 HTot
    obtain ⟨i, cur, hi, rfl, HW, HP, HQ⟩ := hrel
    by_cases hlt : i < fs.length
    case neg =>
      have hq : ¬ ((i : Int) < (fs.length : Int)) := by omega
      have HE := Lib.hid (show cur = tot by have := HP.out; rwa [List.drop_of_length_le (by rw [List.length_map]; omega)] at this)
      have f1 := cells2V HQ.out
      have l1 := lt_of_blk HQ.out
      go_wp2_with fail
      go_loopw [32] (fun v wr => ∃ (j : Nat) (c2 : List UInt8), j ≤ ss.length ∧ v = .int .i64 (j : Int) ∧ Hid (WrIs wr B b c2 ∧ c2.length ≤ 16842752 ∧ Below B w wr) ∧
        Hid (putP c2 (srcsP (prevS ss j) (ss.drop j)) = putP tot (srcsP none ss)) ∧ Hid (wr.heap[T]? = some (.cells #[.slice Ac fs.length cc, .slice As ss.length cs] 53 (0, 0)))) (fun v _ => ss.length - (intOf v).toNat)
      case atStart => exact ⟨0, cur, Nat.zero_le _, rfl, HW, Lib.hid (by rw [HE.out]; rfl), HQ⟩
      case round =>
        clear HW HP HQ f1 l1 HE
        obtain ⟨j, c2, hj, rfl, HW, HP, HQ⟩ := hrel
        by_cases hlt2 : j < ss.length
        case neg =>
          have hq2 : ¬ ((j : Int) < (ss.length : Int)) := by omega
          have HE := Lib.hid (show c2 = putP tot (srcsP none ss) by have := HP.out; rwa [List.drop_of_length_le (by omega)] at this)
          go_wp2_with fail
          go_end0
          exact ⟨rfl, by rw [← HE.out]; exact HW.out.1, HW.out.2.2⟩
        have hq2 : (j : Int) < (ss.length : Int) := by omega
        have hat := srcsP_at hlt2 (prevS ss j)
        have hprev := prevS_succ hlt2
        have hbd := HSS.out ss[j] (List.getElem_mem hlt2)
        have hB1 : B ≤ wr.heap.size := Nat.le_trans HM.out.2 HW.out.2.2.size
        have HRc := Lib.hid (fun (w' : World) (hb : Below B w w') (k : Nat) (hk : k < ss.length) => rdX_at (HRS.out.below hb (Nat.le_refl _)) hk)
        obtain ⟨b1, o, hAs, hbb, d0, d1, d2, d3⟩ := HRc.out wr HW.out.2.2 j hlt2
        subst hAs
        have HRd := Lib.hid (show ∀ (w' : World) (hb : Below B w w') (k : Nat) (hk : k < ss.length), w'.cell? ⟨b1, o + k * 4, none⟩ = some (.string (mkB ss[k].1)) ∧ w'.cell? ⟨b1, o + k * 4 + 1, none⟩ = some (.bool ss[k].2.1) ∧ w'.cell? ⟨b1, o + k * 4 + 2, none⟩ = some (.string (mkB ss[k].2.2.1)) ∧ w'.cell? ⟨b1, o + k * 4 + 3, none⟩ = some (.int .i64 ss[k].2.2.2) from fun w' hb k hk => by
          obtain ⟨b', o', e, _, h⟩ := HRc.out w' hb k hk
          injection e with e
          injection e with e1 e2 _
          subst e1 e2
          exact h)
        obtain ⟨y, hy⟩ : ∃ y, ss[j] = y := ⟨_, rfl⟩
        have HY := Lib.hid hy
        rw [hy] at d0 d1 d2 d3 hat hprev hbd
        obtain ⟨cn, mt, tx, at_⟩ := y
        dsimp only at d0 d1 d2 d3
        obtain ⟨s1, s2⟩ := hbd
        dsimp only at s1 s2
        have HP2 := Lib.hid (show putP (putP (putP c2 (if prevS ss j = some (keyS (cn, mt, tx, at_)) then [] else hdP cn mt)) ([dblE tx, [33, 10]] ++ (if ss[j + 1]?.map keyS = some (keyS (cn, mt, tx, at_)) then [] else [[32, 33, 10]]))) (srcsP (prevS ss (j + 1)) (ss.drop (j + 1))) = putP tot (srcsP none ss) by rw [← putP_app, ← putP_app, hprev, List.append_assoc]; have := HP.out; rw [hat, srcP, List.append_assoc] at this; exact this)
        have hbw : b1 < wr.heap.size := Nat.lt_of_lt_of_le hbb hB1
        clear hy hat hprev HRc HP
        go_upto_region 12 with fail
        obtain ⟨W1, hW1⟩ : ∃ W1, wr.alloc (.cells #[.string (mkB cn), .bool mt, .string (mkB tx), .int .i64 at_] 73) = W1 := ⟨_, rfl⟩
        obtain ⟨F, hF⟩ : ∃ F, wr.heap.size = F := ⟨_, rfl⟩
        have hs : W1.heap[F]? = some (.cells #[.string (mkB cn), .bool mt, .string (mkB tx), .int .i64 at_] 73 (0, 0)) := by rw [← hW1, ← hF]; exact heap_alloc_new wr _
        have hb1 : Below wr.heap.size wr W1 := by rw [← hW1]; exact (Below.refl _ _).alloc (Nat.le_refl _) _
        try rw [hW1]
        try simp only [hF]
        have HW1 := Lib.hid (show WrIs W1 B b c2 ∧ c2.length ≤ 16842752 ∧ Below B w W1 ∧ B ≤ W1.heap.size from ⟨HW.out.1.below hb1, HW.out.2.1, HW.out.2.2.trans (hb1.mono hB1), Nat.le_trans hB1 hb1.size⟩)
        have HX1 := Lib.hid (And.intro ((hb1.block _ (lt_of_blk HQ.out)).trans HQ.out) hs)
        have hbw1 : b1 < W1.heap.size := Nat.lt_of_lt_of_le hbw hb1.size
        clear hW1 hb1 d0 d1 d2 d3 HW HQ hF hB1 hbb hbw hs
        obtain ⟨t12, ht12⟩ : ∃ t, decide (prevS ss j ≠ some (keyS (cn, mt, tx, at_))) = t := ⟨_, rfl⟩
        have HT12 := Lib.hid ht12
        clear ht12
        go_cut [49] (fun v wx => v = .bool t12 ∧ Hid (Below W1.heap.size W1 wx))
        case first =>
          have fT := cells2V HX1.out.1
          have lT := lt_of_blk HX1.out.1
          have fF := cells4L HX1.out.2
          have lF := lt_of_blk HX1.out.2
          have hx := fun (x : Grow W1) => x.cell
          by_cases h0 : j = 0
          · have h1 : t12 = true := by rw [← HT12.out]; simp [prevS, h0]
            have h2 : ((j : Int) == 0) = true := by rw [h0]; rfl
            subst h1
            clear h0
            refine wp_region_grow (by kernel_rfl) (by kernel_rfl) ?_
            repeat (go_big_quiet_step (fail))
            refine wpQuiet_nil ?_
            rintro _ ⟨x, rfl⟩
            have hb := Lib.hid x.below
            clear hx
            go_wp2_with fail
            go_meet
            exact ⟨rfl, hb⟩
          · have h2 : ((j : Int) == 0) = false := beq_eq_false_iff_ne.2 (by omega)
            have hlt3 : j - 1 < ss.length := by omega
            obtain ⟨e0, e1, e2, e3⟩ := HRd.out W1 HW1.out.2.2.1 (j - 1) hlt3
            have hd : t12 = !(ss[j - 1].1 == cn && ss[j - 1].2.1 == mt) := by
              rw [← HT12.out, ← like_dec ss[j - 1] (cn, mt, tx, at_)]
              unfold prevS
              rw [if_neg h0, List.getElem?_eq_getElem hlt3]
              rfl
            have hw2 : IntKind.i64.wrap ((j : Int) - 1) = ((j - 1 : Nat) : Int) := by rw [IntKind.wrap_i64]; omega
            have hlj : ((j - 1 : Nat) : Int) < (ss.length : Int) := by omega
            generalize ss[j - 1] = y0 at *
            obtain ⟨cn0, mt0, tx0, at0⟩ := y0
            dsimp only at e0 e1 e2 e3 hd
            have hal := fun w' => isAlike_any cn0 tx0 cn tx mt0 mt at0 at_ w'
            obtain ⟨r, hr⟩ : ∃ r, (cn0 == cn && mt0 == mt) = r := ⟨_, rfl⟩
            rw [hr] at hal hd
            subst hd
            obtain ⟨jm, hjm⟩ : ∃ jm, j - 1 = jm := ⟨_, rfl⟩
            rw [hjm] at hw2 hlj e0 e1 e2 e3
            clear hr h0 hlt3 hjm
            refine wp_region_grow (by kernel_rfl) (by kernel_rfl) ?_
            repeat (go_big_quiet_step ((go_at_call 51; with_reducible exact Grow.call _ (hal _))))
            refine wpQuiet_nil ?_
            rintro _ ⟨x, rfl⟩
            have hb := Lib.hid x.below
            clear hx hal
            go_wp2_with fail
            go_meet
            exact ⟨rfl, hb⟩
        case rest =>
        obtain ⟨rfl, HBc⟩ := hcut
        have lb := HBc.out.size
        have HW2 := Lib.hid (show WrIs wc B b c2 ∧ c2.length ≤ 16842752 ∧ Below B w wc ∧ B ≤ wc.heap.size from ⟨HW1.out.1.below HBc.out, HW1.out.2.1, HW1.out.2.2.1.trans (HBc.out.mono HW1.out.2.2.2), Nat.le_trans HW1.out.2.2.2 lb⟩)
        have HX2 := Lib.hid (And.intro ((HBc.out.block _ (lt_of_blk HX1.out.1)).trans HX1.out.1) ((HBc.out.block _ (lt_of_blk HX1.out.2)).trans HX1.out.2))
        clear HW1 HX1 HBc lb hbw1
        go_upto_if 49 with fail
        go_cut [] (fun wx => ∃ c3, Hid (WrIs wx B b c3 ∧ c3.length ≤ 16842752 ∧ Below B w wx ∧ B ≤ wx.heap.size) ∧ Hid (putP (putP c3 ([dblE tx, [33, 10]] ++ (if ss[j + 1]?.map keyS = some (keyS (cn, mt, tx, at_)) then [] else [[32, 33, 10]]))) (srcsP (prevS ss (j + 1)) (ss.drop (j + 1))) = putP tot (srcsP none ss)) ∧ Hid (wx.heap[T]? = some (.cells #[.slice Ac fs.length cc, .slice (some ⟨b1, o, none⟩) ss.length cs] 53 (0, 0)) ∧ wx.heap[F]? = some (.cells #[.string (mkB cn), .bool mt, .string (mkB tx), .int .i64 at_] 73 (0, 0))))
        case first =>
          have fF := cells4L HX2.out.2
          have lF := lt_of_blk HX2.out.2
          cases t12
          · have hp1 : prevS ss j = some (keyS (cn, mt, tx, at_)) := by have := HT12.out; rw [decide_eq_false_iff_not] at this; exact Decidable.not_not.1 this
            have HP3 := HP2.out
            rw [if_pos hp1] at HP3
            have HP3 := Lib.hid HP3
            clear hp1
            go_wp2_with fail
            go_meet
            exact ⟨c2, HW2, HP3, HX2⟩
          · have hp1 : ¬ prevS ss j = some (keyS (cn, mt, tx, at_)) := by have := HT12.out; rw [decide_eq_true_eq] at this; exact this
            have HP3 := HP2.out
            rw [if_neg hp1] at HP3
            have HP3 := Lib.hid HP3
            have hq := hh.out c2 cn tx mt at_ wc HW2.out.1 HW2.out.2.1 s1 HW2.out.2.2.2
            clear hp1
            go_wp2_with (go_at_call 52; refine hq.mono ?_; rintro e w3 ⟨rfl, h3, hl3, hb3, hk3⟩; clear hq)
            go_meet
            exact ⟨_, Lib.hid ⟨h3, hl3, HW2.out.2.2.1.trans hb3, Nat.le_trans HW2.out.2.2.2 hb3.size⟩, HP3, Lib.hid ⟨hk3.2 _ _ _ _ HX2.out.1 (by decide) (by decide), hk3.2 _ _ _ _ HX2.out.2 (by decide) (by decide)⟩⟩
        case rest =>
        obtain ⟨c3, HW3, HP3, HX3⟩ := hcut
        clear HW2 HX2 HP2 HT12 t12
        have fF := cells4L HX3.out.2
        have lF := lt_of_blk HX3.out.2
        have hdb := dblE_any (mkB tx) wc (by rw [mkL_size]; omega) (HM.out.1 _ HW3.out.2.2.1)
        rw [show sb (mkB tx) = tx from sb_mk tx] at hdb
        have hle := dblE_le tx
        go_upto_region 15 with (first
          | (go_at_call 53; refine hdb.mono ?_; rintro e w4 ⟨rfl, hb4⟩; clear hdb
             have hq := hp.out c3 [dblE tx, [33, 10]] w4 (HW3.out.1.below hb4) (by simp) HW3.out.2.1 (by intro x hx; simp only [List.mem_cons, List.not_mem_nil, or_false] at hx; rcases hx with rfl | rfl; omega; simp) (Nat.le_trans HW3.out.2.2.2 hb4.size))
          | (go_at_call 49; refine hq.mono ?_; rintro e w5 ⟨rfl, h5, hl5, hb5, hk5⟩; clear hq))
        have HW5 := Lib.hid (show WrIs w5 B b (putP c3 [dblE tx, [33, 10]]) ∧ (putP c3 [dblE tx, [33, 10]]).length ≤ 16842752 ∧ Below B w w5 ∧ B ≤ w5.heap.size from ⟨h5, hl5, (HW3.out.2.2.1.trans (hb4.mono HW3.out.2.2.2)).trans hb5, Nat.le_trans (Nat.le_trans HW3.out.2.2.2 hb4.size) hb5.size⟩)
        have HX5 := Lib.hid (And.intro (hk5.2 _ _ _ _ ((hb4.block _ (lt_of_blk HX3.out.1)).trans HX3.out.1) (by decide) (by decide)) (hk5.2 _ _ _ _ ((hb4.block _ (lt_of_blk HX3.out.2)).trans HX3.out.2) (by decide) (by decide)))
        clear h5 hl5 hb5 hk5 hb4 fF lF hle HW3 HX3 s2
        obtain ⟨t15, ht15⟩ : ∃ t, decide (ss[j + 1]?.map keyS ≠ some (keyS (cn, mt, tx, at_))) = t := ⟨_, rfl⟩
        have HT15 := Lib.hid ht15
        have hbw5 : b1 < w5.heap.size := by
          obtain ⟨e0, _⟩ := HRd.out w5 HW5.out.2.2.1 j hlt2
          exact World.block_lt_of_cell? w5 _ e0
        clear ht15
        go_cut [75] (fun v wx => v = .bool t15 ∧ Hid (Below w5.heap.size w5 wx))
        case first =>
          have fT := cells2V HX5.out.1
          have lT := lt_of_blk HX5.out.1
          have fF := cells4L HX5.out.2
          have lF := lt_of_blk HX5.out.2
          have hx := fun (x : Grow w5) => x.cell
          by_cases h0 : j + 1 = ss.length
          · have h1 : t15 = true := by rw [← HT15.out, List.getElem?_eq_none (by omega)]; simp
            have hw2 : IntKind.i64.wrap ((ss.length : Int) - 1) = (j : Int) := by rw [IntKind.wrap_i64]; omega
            have h2 : ((j : Int) == (j : Int)) = true := by simp
            subst h1
            clear h0
            refine wp_region_grow (by kernel_rfl) (by kernel_rfl) ?_
            repeat (go_big_quiet_step (fail))
            refine wpQuiet_nil ?_
            rintro _ ⟨x, rfl⟩
            have hb := Lib.hid x.below
            clear hx
            go_wp2_with fail
            go_meet
            exact ⟨rfl, hb⟩
          · have hlt3 : j + 1 < ss.length := by omega
            have hw2 : IntKind.i64.wrap ((ss.length : Int) - 1) = ((ss.length - 1 : Nat) : Int) := by rw [IntKind.wrap_i64]; omega
            have h2 : ((j : Int) == ((ss.length - 1 : Nat) : Int)) = false := beq_eq_false_iff_ne.2 (by omega)
            obtain ⟨e0, e1, e2, e3⟩ := HRd.out w5 HW5.out.2.2.1 (j + 1) hlt3
            have hd : t15 = !(cn == ss[j + 1].1 && mt == ss[j + 1].2.1) := by
              rw [← HT15.out, ← like_dec (cn, mt, tx, at_) ss[j + 1], List.getElem?_eq_getElem hlt3]
              exact decide_eq_decide.2 ⟨fun h e => h e.symm, fun h e => h e.symm⟩
            have hw3 : IntKind.i64.wrap ((j : Int) + 1) = ((j + 1 : Nat) : Int) := by rw [IntKind.wrap_i64]; omega
            have hlj : ((j + 1 : Nat) : Int) < (ss.length : Int) := by omega
            generalize ss[j + 1] = y1 at *
            obtain ⟨cn0, mt0, tx0, at0⟩ := y1
            dsimp only at e0 e1 e2 e3 hd
            have hal := fun w' => isAlike_any cn tx cn0 tx0 mt mt0 at_ at0 w'
            obtain ⟨r, hr⟩ : ∃ r, (cn == cn0 && mt == mt0) = r := ⟨_, rfl⟩
            rw [hr] at hal hd
            subst hd
            obtain ⟨nm1, hnm⟩ : ∃ k, ss.length - 1 = k := ⟨_, rfl⟩
            rw [hnm] at hw2 h2
            clear hr h0 hnm
            refine wp_region_grow (by kernel_rfl) (by kernel_rfl) ?_
            repeat (go_big_quiet_step ((go_at_call 51; with_reducible exact Grow.call _ (hal _))))
            refine wpQuiet_nil ?_
            rintro _ ⟨x, rfl⟩
            have hb := Lib.hid x.below
            clear hx hal
            go_wp2_with fail
            go_meet
            exact ⟨rfl, hb⟩
        case rest =>
        obtain ⟨rfl, HBc⟩ := hcut
        have HW6 := Lib.hid (show WrIs wc B b (putP c3 [dblE tx, [33, 10]]) ∧ (putP c3 [dblE tx, [33, 10]]).length ≤ 16842752 ∧ Below B w wc ∧ B ≤ wc.heap.size from ⟨HW5.out.1.below HBc.out, HW5.out.2.1, HW5.out.2.2.1.trans (HBc.out.mono HW5.out.2.2.2), Nat.le_trans HW5.out.2.2.2 HBc.out.size⟩)
        have HX6 := Lib.hid ((HBc.out.block _ (lt_of_blk HX5.out.1)).trans HX5.out.1)
        clear HW5 HX5 HBc hbw5
        cases t15
        · have hp1 : ss[j + 1]?.map keyS = some (keyS (cn, mt, tx, at_)) := by have := HT15.out; rw [decide_eq_false_iff_not] at this; exact Decidable.not_not.1 this
          have HP4 := HP3.out
          rw [if_pos hp1, List.append_nil] at HP4
          have HP4 := Lib.hid HP4
          clear hp1 HT15 HP3
          go_wp2_with fail
          go_roundw
          case rel => exact ⟨j + 1, _, by omega, by simp, Lib.hid ⟨HW6.out.1, HW6.out.2.1, HW6.out.2.2.1⟩, HP4, HX6⟩
          case measure => simp [intOf]; omega
        · have hp1 : ¬ ss[j + 1]?.map keyS = some (keyS (cn, mt, tx, at_)) := by have := HT15.out; rw [decide_eq_true_eq] at this; exact this
          have HP4 := HP3.out
          rw [if_neg hp1, putP_app] at HP4
          have HP4 := Lib.hid HP4
          have hq := hp.out (putP c3 [dblE tx, [33, 10]]) [[32, 33, 10]] wc HW6.out.1 (by simp) HW6.out.2.1 (by simp) HW6.out.2.2.2
          clear hp1 HT15 HP3
          go_wp2_with (go_at_call 49; refine hq.mono ?_; rintro e w7 ⟨rfl, h7, hl7, hb7, hk7⟩; clear hq)
          have HW7 := Lib.hid (show WrIs w7 B b (putP (putP c3 [dblE tx, [33, 10]]) [[32, 33, 10]]) ∧ (putP (putP c3 [dblE tx, [33, 10]]) [[32, 33, 10]]).length ≤ 16842752 ∧ Below B w w7 from ⟨h7, hl7, HW6.out.2.2.1.trans hb7⟩)
          have HX7 := Lib.hid (hk7.2 _ _ _ _ HX6.out (by decide) (by decide))
          clear h7 hl7 hb7 hk7
          go_roundw
          case rel => exact ⟨j + 1, _, by omega, by simp, HW7, HP4, HX7⟩
          case measure => simp [intOf]; omega
    have hq : (i : Int) < (fs.length : Int) := by omega
    obtain ⟨b1, o, rfl, hbb, d0, d1, d2, d3⟩ := rdC_at (HRC.out.below HW.out.2.2 (Nat.le_refl _)) hlt
    obtain ⟨Af, cf, hvf, hfc, hAf, hrf⟩ := HFI.out fs[i] (List.getElem_mem hlt)
    obtain ⟨s1, s2, s3, s4, s5⟩ := HC.out fs[i] (List.getElem_mem hlt)
    have hat := clssP_at (l := fs.map fun x => x.1) (i := i) (by rw [List.length_map]; exact hlt)
    rw [List.getElem_map] at hat
    obtain ⟨⟨⟨nm, sp, fl, at_⟩, vf⟩, hy⟩ : ∃ y, fs[i] = y := ⟨_, rfl⟩
    rw [hy] at d0 d1 d2 d3 hvf hfc hAf hrf hat s1 s2 s3 s4 s5
    dsimp only at d0 d1 d2 d3 hvf hfc hAf hrf hat s1 s2 s3 s4 s5
    subst hvf
    have HP2 := Lib.hid (show putP (putP cur (clsP (nm, sp, fl, at_))) (clssP ((fs.map fun x => x.1).drop (i + 1))) = tot by rw [← putP_app, ← hat]; exact HP.out)
    have hBw : B ≤ wr.heap.size := Nat.le_trans HM.out.2 HW.out.2.2.size
    have hbw : b1 < wr.heap.size := Nat.lt_of_lt_of_le hbb hBw
    have hfo : Hid (∀ w', Below B w w' → Calls Tryz.prog 50 #[.agg #[.string (mkB nm), .string (mkB sp), .slice Af fl.length cf, .int .i64 at_]] w' fun e w'' => e = .returned (.string (mkB (fldW fl))) ∧ Below w'.heap.size w' w'') := Lib.hid (fun w' hb => fieldsOf_any nm sp fl at_ Af cf B w' (hrf.below hb (Nat.le_refl _)) (Nat.le_trans HM.out.2 hb.size) hfc s4 (by omega))
    have HPs := Lib.hid (clsP_le (at_ := at_) s1 s2 s5)
    clear hy hat hrf HP s1 s2 s3 s5 hAf
    go_upto_region 4 with fail
    obtain ⟨W1, hW1⟩ : ∃ W1, wr.alloc (.cells #[.string (mkB nm), .string (mkB sp), .slice Af fl.length cf, .int .i64 at_] 87) = W1 := ⟨_, rfl⟩
    obtain ⟨F, hF⟩ : ∃ F, wr.heap.size = F := ⟨_, rfl⟩
    have hs : W1.heap[F]? = some (.cells #[.string (mkB nm), .string (mkB sp), .slice Af fl.length cf, .int .i64 at_] 87 (0, 0)) := by rw [← hW1, ← hF]; exact heap_alloc_new wr _
    have hb1 : Below wr.heap.size wr W1 := by rw [← hW1]; exact (Below.refl _ _).alloc (Nat.le_refl _) _
    try rw [hW1]
    try simp only [hF]
    have HW1 := Lib.hid (show WrIs W1 B b cur ∧ cur.length ≤ 16842752 ∧ Below B w W1 ∧ B ≤ W1.heap.size from ⟨HW.out.1.below hb1, HW.out.2.1, HW.out.2.2.trans (hb1.mono hBw), Nat.le_trans hBw hb1.size⟩)
    have HQ1 := Lib.hid ((hb1.block _ (lt_of_blk HQ.out)).trans HQ.out)
    have hs1 := cells4L hs
    have lF := lt_of_blk hs
    clear hW1 hb1 d0 d1 d2 d3 HW HQ hF hBw hbb hbw
    by_cases he : sp = []
    case pos =>
      subst he
      have hq2 : (([] : List UInt8) == []) = true := rfl
      go_upto_region 7 with fail
      have hsup : superW [] = nilL := if_pos rfl
      rename_i KK hKK
      have HKK := Lib.hid hKK
      clear hKK hq2
      have hS : (fun w' : World => w'.cell? ⟨F, 0, none⟩ = some (.string (mkB nm)) ∧ w'.cell? ⟨F, 1, none⟩ = some (.string (mkB [])) ∧ w'.cell? ⟨F, 2, none⟩ = some (.slice Af fl.length cf) ∧ w'.cell? ⟨F, 3, none⟩ = some (.int .i64 at_)) W1.drew := ⟨hs1.1, hs1.2.1, hs1.2.2.1, hs1.2.2.2.1⟩
      refine wp_region_noPanic ?_
      refine wp_region_held_drew (S := (fun w' : World => w'.cell? ⟨F, 0, none⟩ = some (.string (mkB nm)) ∧ w'.cell? ⟨F, 1, none⟩ = some (.string (mkB [])) ∧ w'.cell? ⟨F, 2, none⟩ = some (.slice Af fl.length cf) ∧ w'.cell? ⟨F, 3, none⟩ = some (.int .i64 at_))) (by kernel_rfl) hS (fun hHeld => ?_)
      clear hS
      refine wpAnyH_take (i := 0) (v := ?_) (by first | (simp only [List.getElem?_toArray, List.getElem?_cons_succ, List.getElem?_cons_zero]; rfl) | rfl) (by kernel_rfl) (by kernel_rfl) (by kernel_rfl) (fun _ _ _ h => h) (Or.inl ⟨by rfl, ?_⟩) (by assumption) ?_
      rotate_left 1
      · (intro w' hSw; (try dsimp only at hSw); go_simp; (try with_reducible rfl))
      try simp only [Act.put, List.setIfInBounds_toArray, List.set_cons_zero, List.set_cons_succ]
      refine wpAnyH_take (i := 1) (v := ?_) (by first | (simp only [List.getElem?_toArray, List.getElem?_cons_succ, List.getElem?_cons_zero]; rfl) | rfl) (by kernel_rfl) (by kernel_rfl) (by kernel_rfl) (fun _ _ _ h => h) (Or.inl ⟨by rfl, ?_⟩) (by assumption) ?_
      rotate_left 1
      · (intro w' hSw; (try dsimp only at hSw); go_simp; (try with_reducible rfl))
      try simp only [Act.put, List.setIfInBounds_toArray, List.set_cons_zero, List.set_cons_succ]
      refine wpAnyH_take (i := 2) (v := ?_) (by first | (simp only [List.getElem?_toArray, List.getElem?_cons_succ, List.getElem?_cons_zero]; rfl) | rfl) (by kernel_rfl) (by kernel_rfl) (by kernel_rfl) (fun _ _ _ h => h) (Or.inl ⟨by rfl, ?_⟩) (by assumption) ?_
      rotate_left 1
      · (intro w' hSw; (try dsimp only at hSw); go_simp; (try with_reducible rfl))
      try simp only [Act.put, List.setIfInBounds_toArray, List.set_cons_zero, List.set_cons_succ]
      refine wpAnyH_take (i := 3) (v := ?_) (by first | (simp only [List.getElem?_toArray, List.getElem?_cons_succ, List.getElem?_cons_zero]; rfl) | rfl) (by kernel_rfl) (by kernel_rfl) (by kernel_rfl) (fun _ _ _ h => h) (Or.inl ⟨by rfl, ?_⟩) (by assumption) ?_
      rotate_left 1
      · (intro w' hSw; (try dsimp only at hSw); go_simp; (try with_reducible rfl))
      try simp only [Act.put, List.setIfInBounds_toArray, List.set_cons_zero, List.set_cons_succ]
      refine wpAnyH_take (i := 4) (v := ?_) (by first | (simp only [List.getElem?_toArray, List.getElem?_cons_succ, List.getElem?_cons_zero]; rfl) | rfl) (by kernel_rfl) (by kernel_rfl) (by kernel_rfl) (fun _ _ _ h => h) (Or.inl ⟨by rfl, ?_⟩) (by assumption) ?_
      rotate_left 1
      · (intro w' hSw; (try dsimp only at hSw); go_simp; (try with_reducible rfl))
      try simp only [Act.put, List.setIfInBounds_toArray, List.set_cons_zero, List.set_cons_succ]
      refine wpAnyH_ready (rs := [5]) (by kernel_rfl) (by simp) ?_
      refine AllReadyH.cons (by first | (simp only [List.getElem?_toArray, List.getElem?_cons_succ, List.getElem?_cons_zero]; rfl) | rfl) (fun K hK => ?_) AllReadyH.nil
      go_simp
      refine (hfo.out _ HW1.out.2.2.1.drew).mono ?_
      rintro e w5 ⟨rfl, hb5⟩
      dsimp only
      have hb5' : Below W1.heap.size W1 w5 := (Below.refl _ W1).drew.trans hb5
      have hs5 := (hb5'.block _ lF).trans hs
      have HW5 := Lib.hid (show WrIs w5 B b cur ∧ cur.length ≤ 16842752 ∧ Below B w w5 ∧ B ≤ w5.heap.size from ⟨HW1.out.1.below hb5', HW1.out.2.1, HW1.out.2.2.1.trans (hb5'.mono HW1.out.2.2.2), Nat.le_trans HW1.out.2.2.2 hb5'.size⟩)
      have HQ5 := Lib.hid ((hb5'.block _ (lt_of_blk HQ1.out)).trans HQ1.out)
      clear hb5 hb5'
      have hs5c := cells4L hs5
      refine hK.out _ _ ⟨hs5c.1, hs5c.2.1, hs5c.2.2.1, hs5c.2.2.2.1⟩ (fun hHeld => ?_)
      clear hK K
      try simp only [Act.put, List.setIfInBounds_toArray, List.set_cons_zero, List.set_cons_succ]
      refine wpAnyH_ready (rs := [6]) (by kernel_rfl) (by simp) ?_
      refine AllReadyH.cons (by first | (simp only [List.getElem?_toArray, List.getElem?_cons_succ, List.getElem?_cons_zero]; rfl) | rfl) (fun K hK => ?_) AllReadyH.nil
      go_simp
      show K _ (w5.alloc (.cells (cs_ [nilL, subW, nm, fdsW, fldW fl, [39, 33, 10]]).toArray 9))
      have hs6 := cells4L ((Below.heap_alloc w5 (.cells (cs_ [nilL, subW, nm, fdsW, fldW fl, [39, 33, 10]]).toArray 9) F (lt_of_blk hs5)).trans hs5)
      refine hK.out _ _ ⟨hs6.1, hs6.2.1, hs6.2.2.1, hs6.2.2.2.1⟩ (fun hHeld => ?_)
      clear hK K
      try simp only [Act.put, List.setIfInBounds_toArray, List.set_cons_zero, List.set_cons_succ]
      refine wpAnyH_ready (rs := [7]) (by kernel_rfl) (by simp) ?_
      refine AllReadyH.cons (by first | (simp only [List.getElem?_toArray, List.getElem?_cons_succ, List.getElem?_cons_zero]; rfl) | rfl) (fun K hK => ?_) AllReadyH.nil
      go_simp
      refine (hp.out cur [nilL, subW, nm, fdsW, fldW fl, [39, 33, 10]] w5 HW5.out.1 (by simp) HW5.out.2.1 (by rw [← hsup]; exact HPs.out) HW5.out.2.2.2).mono ?_
      rintro e w7 ⟨rfl, h7, h7l, h7b, h7k⟩
      dsimp only
      have hs7 := cells4L (h7k.2 _ _ _ _ hs5 (by decide) (by decide))
      have HW7 := Lib.hid (show WrIs w7 B b (putP cur (clsP (nm, [], fl, at_))) ∧ (putP cur (clsP (nm, [], fl, at_))).length ≤ 16842752 ∧ Below B w w7 from by rw [show clsP (nm, [], fl, at_) = [nilL, subW, nm, fdsW, fldW fl, [39, 33, 10]] by unfold clsP; rw [hsup]]; exact ⟨h7, h7l, HW5.out.2.2.1.trans h7b⟩)
      have HQ7 := Lib.hid (h7k.2 _ _ _ _ HQ5.out (by decide) (by decide))
      refine hK.out _ _ ⟨hs7.1, hs7.2.1, hs7.2.2.1, hs7.2.2.2.1⟩ (fun _ => ?_)
      refine wpAnyH_done (by kernel_rfl) ?_ _
      refine HKK.out _ _ ?_
      clear h7 h7l h7b h7k hs7 hs6 hs5 hs5c hK K
      go_wp2_with fail
      go_roundw
      case rel => exact ⟨i + 1, _, by omega, rfl, HW7, HP2, HQ7⟩
      case measure => simp [intOf]; omega
    case neg =>
      have hq2 : (sp == []) = false := beq_eq_false_iff_ne.2 he
      have HE := Lib.hid he
      clear he
      go_upto_region 7 with fail
      have hsup : superW sp = sp := if_neg HE.out
      rename_i KK hKK
      have HKK := Lib.hid hKK
      clear hKK hq2
      have hS : (fun w' : World => w'.cell? ⟨F, 0, none⟩ = some (.string (mkB nm)) ∧ w'.cell? ⟨F, 1, none⟩ = some (.string (mkB sp)) ∧ w'.cell? ⟨F, 2, none⟩ = some (.slice Af fl.length cf) ∧ w'.cell? ⟨F, 3, none⟩ = some (.int .i64 at_)) W1.drew := ⟨hs1.1, hs1.2.1, hs1.2.2.1, hs1.2.2.2.1⟩
      refine wp_region_noPanic ?_
      refine wp_region_held_drew (S := (fun w' : World => w'.cell? ⟨F, 0, none⟩ = some (.string (mkB nm)) ∧ w'.cell? ⟨F, 1, none⟩ = some (.string (mkB sp)) ∧ w'.cell? ⟨F, 2, none⟩ = some (.slice Af fl.length cf) ∧ w'.cell? ⟨F, 3, none⟩ = some (.int .i64 at_))) (by kernel_rfl) hS (fun hHeld => ?_)
      clear hS
      refine wpAnyH_take (i := 0) (v := ?_) (by first | (simp only [List.getElem?_toArray, List.getElem?_cons_succ, List.getElem?_cons_zero]; rfl) | rfl) (by kernel_rfl) (by kernel_rfl) (by kernel_rfl) (fun _ _ _ h => h) (Or.inl ⟨by rfl, ?_⟩) (by assumption) ?_
      rotate_left 1
      · (intro w' hSw; (try dsimp only at hSw); go_simp; (try with_reducible rfl))
      try simp only [Act.put, List.setIfInBounds_toArray, List.set_cons_zero, List.set_cons_succ]
      refine wpAnyH_take (i := 1) (v := ?_) (by first | (simp only [List.getElem?_toArray, List.getElem?_cons_succ, List.getElem?_cons_zero]; rfl) | rfl) (by kernel_rfl) (by kernel_rfl) (by kernel_rfl) (fun _ _ _ h => h) (Or.inl ⟨by rfl, ?_⟩) (by assumption) ?_
      rotate_left 1
      · (intro w' hSw; (try dsimp only at hSw); go_simp; (try with_reducible rfl))
      try simp only [Act.put, List.setIfInBounds_toArray, List.set_cons_zero, List.set_cons_succ]
      refine wpAnyH_take (i := 2) (v := ?_) (by first | (simp only [List.getElem?_toArray, List.getElem?_cons_succ, List.getElem?_cons_zero]; rfl) | rfl) (by kernel_rfl) (by kernel_rfl) (by kernel_rfl) (fun _ _ _ h => h) (Or.inl ⟨by rfl, ?_⟩) (by assumption) ?_
      rotate_left 1
      · (intro w' hSw; (try dsimp only at hSw); go_simp; (try with_reducible rfl))
      try simp only [Act.put, List.setIfInBounds_toArray, List.set_cons_zero, List.set_cons_succ]
      refine wpAnyH_take (i := 3) (v := ?_) (by first | (simp only [List.getElem?_toArray, List.getElem?_cons_succ, List.getElem?_cons_zero]; rfl) | rfl) (by kernel_rfl) (by kernel_rfl) (by kernel_rfl) (fun _ _ _ h => h) (Or.inl ⟨by rfl, ?_⟩) (by assumption) ?_
      rotate_left 1
      · (intro w' hSw; (try dsimp only at hSw); go_simp; (try with_reducible rfl))
      try simp only [Act.put, List.setIfInBounds_toArray, List.set_cons_zero, List.set_cons_succ]
      refine wpAnyH_take (i := 4) (v := ?_) (by first | (simp only [List.getElem?_toArray, List.getElem?_cons_succ, List.getElem?_cons_zero]; rfl) | rfl) (by kernel_rfl) (by kernel_rfl) (by kernel_rfl) (fun _ _ _ h => h) (Or.inl ⟨by rfl, ?_⟩) (by assumption) ?_
      rotate_left 1
      · (intro w' hSw; (try dsimp only at hSw); go_simp; (try with_reducible rfl))
      try simp only [Act.put, List.setIfInBounds_toArray, List.set_cons_zero, List.set_cons_succ]
      refine wpAnyH_ready (rs := [5]) (by kernel_rfl) (by simp) ?_
      refine AllReadyH.cons (by first | (simp only [List.getElem?_toArray, List.getElem?_cons_succ, List.getElem?_cons_zero]; rfl) | rfl) (fun K hK => ?_) AllReadyH.nil
      go_simp
      refine (hfo.out _ HW1.out.2.2.1.drew).mono ?_
      rintro e w5 ⟨rfl, hb5⟩
      dsimp only
      have hb5' : Below W1.heap.size W1 w5 := (Below.refl _ W1).drew.trans hb5
      have hs5 := (hb5'.block _ lF).trans hs
      have HW5 := Lib.hid (show WrIs w5 B b cur ∧ cur.length ≤ 16842752 ∧ Below B w w5 ∧ B ≤ w5.heap.size from ⟨HW1.out.1.below hb5', HW1.out.2.1, HW1.out.2.2.1.trans (hb5'.mono HW1.out.2.2.2), Nat.le_trans HW1.out.2.2.2 hb5'.size⟩)
      have HQ5 := Lib.hid ((hb5'.block _ (lt_of_blk HQ1.out)).trans HQ1.out)
      clear hb5 hb5'
      have hs5c := cells4L hs5
      refine hK.out _ _ ⟨hs5c.1, hs5c.2.1, hs5c.2.2.1, hs5c.2.2.2.1⟩ (fun hHeld => ?_)
      clear hK K
      try simp only [Act.put, List.setIfInBounds_toArray, List.set_cons_zero, List.set_cons_succ]
      refine wpAnyH_ready (rs := [6]) (by kernel_rfl) (by simp) ?_
      refine AllReadyH.cons (by first | (simp only [List.getElem?_toArray, List.getElem?_cons_succ, List.getElem?_cons_zero]; rfl) | rfl) (fun K hK => ?_) AllReadyH.nil
      go_simp
      show K _ (w5.alloc (.cells (cs_ [sp, subW, nm, fdsW, fldW fl, [39, 33, 10]]).toArray 9))
      have hs6 := cells4L ((Below.heap_alloc w5 (.cells (cs_ [sp, subW, nm, fdsW, fldW fl, [39, 33, 10]]).toArray 9) F (lt_of_blk hs5)).trans hs5)
      refine hK.out _ _ ⟨hs6.1, hs6.2.1, hs6.2.2.1, hs6.2.2.2.1⟩ (fun hHeld => ?_)
      clear hK K
      try simp only [Act.put, List.setIfInBounds_toArray, List.set_cons_zero, List.set_cons_succ]
      refine wpAnyH_ready (rs := [7]) (by kernel_rfl) (by simp) ?_
      refine AllReadyH.cons (by first | (simp only [List.getElem?_toArray, List.getElem?_cons_succ, List.getElem?_cons_zero]; rfl) | rfl) (fun K hK => ?_) AllReadyH.nil
      go_simp
      refine (hp.out cur [sp, subW, nm, fdsW, fldW fl, [39, 33, 10]] w5 HW5.out.1 (by simp) HW5.out.2.1 (by rw [← hsup]; exact HPs.out) HW5.out.2.2.2).mono ?_
      rintro e w7 ⟨rfl, h7, h7l, h7b, h7k⟩
      dsimp only
      have hs7 := cells4L (h7k.2 _ _ _ _ hs5 (by decide) (by decide))
      have HW7 := Lib.hid (show WrIs w7 B b (putP cur (clsP (nm, sp, fl, at_))) ∧ (putP cur (clsP (nm, sp, fl, at_))).length ≤ 16842752 ∧ Below B w w7 from by rw [show clsP (nm, sp, fl, at_) = [sp, subW, nm, fdsW, fldW fl, [39, 33, 10]] by unfold clsP; rw [hsup]]; exact ⟨h7, h7l, HW5.out.2.2.1.trans h7b⟩)
      have HQ7 := Lib.hid (h7k.2 _ _ _ _ HQ5.out (by decide) (by decide))
      refine hK.out _ _ ⟨hs7.1, hs7.2.1, hs7.2.2.1, hs7.2.2.2.1⟩ (fun _ => ?_)
      refine wpAnyH_done (by kernel_rfl) ?_ _
      refine HKK.out _ _ ?_
      clear h7 h7l h7b h7k hs7 hs6 hs5 hs5c hK K
      go_wp2_with fail
      go_roundw
      case rel => exact ⟨i + 1, _, by omega, rfl, HW7, HP2, HQ7⟩
      case measure => simp [intOf]; omega
end Go.Proofs.YtmdkneollidkfaaGreatDoor.Fl

/-
  The program's Write of any unit.
-/
namespace Go.Proofs.YtmdkneollidkfaaGreatDoor.Fl
open Go.RowKit Go.Shelf

set_option maxRecDepth 100000 in
set_option maxHeartbeats 2000000 in
theorem stringW_any (B b : Nat) (l : List UInt8) (w : World) (h : WrIs w B b l) (h0 : l ≠ []) :
    Calls Tryz.prog 39 #[.pointer (some ⟨b, 0, none⟩)] w fun e w' => e = .returned (.string (mkB l)) ∧ Below B w w' := by
  obtain ⟨p, hB, v, hbk, hown, hne⟩ := h.at_
  have hl0 : l.length ≠ 0 := by simpa using h0
  rw [Lib.byteCells_length] at hown
  obtain ⟨g, cap, cur, rfl, hbg, hg, hnc, hcm, hcs, htake⟩ : ∃ g cap cur, v = .slice (some ⟨g, 0, none⟩) l.length cap ∧ B ≤ g ∧ w.heap[g]? = some (.cells cur 5 (0, 0)) ∧ l.length ≤ cap ∧ cap ≤ maxLen ∧ cur.size = cap * 1 ∧ cur.toList.take (l.length * 1) = Lib.byteCells l := by
    rcases hown.2 with ⟨_, hz⟩ | ⟨g, cap, cur, hv, r⟩
    · exact absurd hz hl0
    · exact ⟨g, cap, cur, hv, r⟩
  have c1 : w.drew.cell? ⟨b, 1, none⟩ = some (.slice (some ⟨g, 0, none⟩) l.length cap) := by
    have : w.drew.heap[b]? = some (.cells #[p, .slice (some ⟨g, 0, none⟩) l.length cap] 83 (0, 0)) := hbk
    rw [Lib.cell_of_heap this]; rfl
  have hSD : (Builtin.unsafeSliceData_ #[79] 112 #[.slice (some ⟨g, 0, none⟩) l.length cap]).run Tryz.prog w.drew = .ok (.pointer (some ⟨g, 0, none⟩)) w.drew :=
    Lib.run_unsafeSliceData_row _ _ _ _ _ _ (by omega)
  have hUS : (Builtin.unsafeString_ #[112, 3] 9 #[.pointer (some ⟨g, 0, none⟩), .int .i64 l.length]).run Tryz.prog w.drew = .ok (.string ⟨l.toArray⟩) (w.drew.freeze ⟨g, 0, none⟩ l.length) := by
    refine Lib.run_unsafeString_row w.drew _ _ _ 5 Tryz.underlying112 (by kernel_rfl) g cur.size (by have hg' : w.drew.heap[g]? = some (.cells cur 5 (0, 0)) := hg; simp [World.shape?, hg']) l h0 (by omega) (by unfold maxLen at hcm; omega) ?_
    intro j x hx
    exact hown.cells (g := g) rfl j (.int .u8 x.toNat) (by simp [Lib.byteCells, hx])
  have mixed : Tryz.prog.follows .mixedOrders = true := by kernel_rfl
  clear hown hne hbk
  go_enter Tryz.func39, Tryz.ntmps39
  go_wp2_with fail
  go_region_o
  all_goals (go_wp2_with fail; go_ret; exact ⟨rfl, Lib.below_freeze (Below.drew (Below.refl B w)) (p := ⟨g, 0, none⟩) hbg _⟩)
set_option maxRecDepth 100000 in
set_option maxHeartbeats 2000000 in
theorem stringW_none (b : Nat) (p : Value) (w : World) (hbk : w.heap[b]? = some (.cells #[p, .slice none 0 0] 83 (0, 0))) :
    Calls Tryz.prog 39 #[.pointer (some ⟨b, 0, none⟩)] w fun e w' => e = .returned (.string ⟨#[]⟩) ∧ Below w.heap.size w w' := by
  have c1 : w.drew.cell? ⟨b, 1, none⟩ = some (.slice none 0 0) := by
    have : w.drew.heap[b]? = some (.cells #[p, .slice none 0 0] 83 (0, 0)) := hbk
    rw [Lib.cell_of_heap this]; rfl
  have hSD : (Builtin.unsafeSliceData_ #[79] 112 #[.slice none 0 0]).run Tryz.prog w.drew = .ok (.pointer none) w.drew := rfl
  have hUS : ∀ q W, (Builtin.unsafeString_ #[112, 3] 9 #[.pointer q, .int .i64 0]).run Tryz.prog W = .ok (.string .empty) W := fun q W => Lib.run_unsafeString_none W _ _ _ q
  have mixed : Tryz.prog.follows .mixedOrders = true := by kernel_rfl
  clear hbk
  go_enter Tryz.func39, Tryz.ntmps39
  go_wp2_with fail
  go_region_o
  all_goals (go_wp2_with fail; go_ret; exact ⟨rfl, Below.drew (Below.refl _ w)⟩)
set_option maxRecDepth 100000 in
theorem wfile_none (b : Nat) (A A' : Option Addr) (c c' : Nat) (w : World) :
    Calls Tryz.prog 32 #[.pointer (some ⟨b, 0, none⟩), .agg #[.slice A 0 c, .slice A' 0 c']] w fun e w' => e = .returned (.tuple #[]) ∧ Below w.heap.size w w' := by
  have hq1 := heap_alloc_new w (.cells #[.slice A 0 c, .slice A' 0 c'] 53)
  have hb1 : Below w.heap.size w (w.alloc (.cells #[.slice A 0 c, .slice A' 0 c'] 53)) := (Below.refl _ _).alloc (Nat.le_refl _) _
  have HB := Lib.hid hb1
  go_enter Tryz.func32, Tryz.ntmps32
  go_upto_region 1 with fail
  generalize w.alloc (.cells #[.slice A 0 c, .slice A' 0 c'] 53) = w1 at *
  obtain ⟨T, hT⟩ : ∃ T, w.heap.size = T := ⟨_, rfl⟩
  rw [hT] at hq1
  try simp only [hT]
  have f1 := cells2V hq1
  have l1 := lt_of_blk hq1
  clear hq1 hb1 hT
  go_wp2_with fail
  go_loopw [12] (fun v wr => v = .int .i64 0 ∧ w1 = wr) (fun v _ => 0)
  case atStart => exact ⟨rfl, rfl⟩
  case round =>
    obtain ⟨rfl, rfl⟩ := hrel
    go_wp2_with fail
    go_loopw [32] (fun v wr => v = .int .i64 0 ∧ w1 = wr) (fun v _ => 0)
    case atStart => exact ⟨rfl, rfl⟩
    case round =>
      obtain ⟨rfl, rfl⟩ := hrel
      go_wp2_with fail
      go_end0
      exact ⟨rfl, HB.out⟩
def okC (c : Cls) : Bool := isClassR c.1 c.2.1 c.2.2.1
def rdC (c : Cls) : Bool := decide ((fldW c.2.2.1).length ≤ 4096)
/-- what Write answers: a text, or why there is none -/
def writeR (cs : List Cls) (ss : List Src) : List UInt8 × Int :=
  if 65536 < (unitW cs ss).length then ([], 2) else if (cs.all okC && ss.all srcOk) = false then ([], 3) else if cs.all rdC = false then ([], 2) else (unitW cs ss, 0)
theorem srcsP_none (ss : List Src) : (srcsP none ss).flatten = srcsW none ss := srcsP_flat ss none
theorem unitW_nil {cs : List Cls} {ss : List Src} (h : unitW cs ss = []) : cs = [] ∧ ss = [] := by
  unfold unitW at h
  obtain ⟨h1, h2⟩ := List.append_eq_nil_iff.1 h
  constructor
  · cases cs with
    | nil => rfl
    | cons c cs => simp [clssW, clsW] at h1
  · cases ss with
    | nil => rfl
    | cons x ss => simp [srcsW, hdW] at h2
theorem put_unit (cs : List Cls) (ss : List Src) : (65536 < (unitW cs ss).length ∧ 65536 < (putP (putP [] (clssP cs)) (srcsP none ss)).length) ∨ (¬ 65536 < (unitW cs ss).length ∧ putP (putP [] (clssP cs)) (srcsP none ss) = unitW cs ss) := by
  have e : ([] ++ (clssP cs ++ srcsP none ss).flatten : List UInt8) = unitW cs ss := by
    rw [List.nil_append, List.flatten_append, clssP_flat, srcsP_none]; rfl
  rw [← putP_app]
  by_cases h : 65536 < (unitW cs ss).length
  · exact .inl ⟨h, putP_great _ _ (by rw [e]; exact h)⟩
  · exact .inr ⟨h, by rw [putP_small _ _ (by rw [e]; omega), e]⟩
theorem UnAt.more {w : World} {B B' : Nat} {v0 v1 : Value} {fs : List (Cls × Value)} {ss : List Src} (h : UnAt w B v0 v1 fs ss) (hB : B ≤ B') : UnAt w B' v0 v1 fs ss := by
  obtain ⟨⟨A, c, e1, e2, e3⟩, ⟨A', c', g1, g2, g3⟩, hf⟩ := h
  exact ⟨⟨A, c, e1, e2, e3.more hB⟩, ⟨A', c', g1, g2, g3.more hB⟩, fun x hx => (hf x hx).imp fun A ⟨c, h1, h2, h3, h4⟩ => ⟨c, h1, h2, h3, h4.more hB⟩⟩
set_option maxRecDepth 100000 in
set_option maxHeartbeats 8000000 in
theorem write_any (w : World) (v0 v1 : Value) (fs : List (Cls × Value)) (ss : List Src) (hu : UnAt w w.heap.size v0 v1 fs ss) (hl : fs.length ≤ 100000000) (hl2 : ss.length ≤ 100000000) (hc : ∀ x ∈ fs, BdC x) (hs : ∀ x ∈ ss, BdS x) (hm : ∀ w', Below w.heap.size w w' → MaxAt w') :
    Calls Tryz.prog 15 #[.agg #[v0, v1]] w fun e w' => e = .returned (.tuple #[.string (mkB (writeR (fs.map fun x => x.1) ss).1), .int .i64 (writeR (fs.map fun x => x.1) ss).2]) ∧ Below w.heap.size w w' := by
  obtain ⟨cs, hcs⟩ : ∃ cs, fs.map (fun x => x.1) = cs := ⟨_, rfl⟩
  obtain ⟨L, hL⟩ : ∃ L, putP (putP [] (clssP cs)) (srcsP none ss) = L := ⟨_, rfl⟩
  have hput := put_unit cs ss
  rw [hL] at hput
  have hfile : ∀ (b : Nat) (w' : World), Below w.heap.size w w' → w'.heap[b]? = some (.cells #[.pointer none, .slice none 0 0] 83 (0, 0)) → w.heap.size + 1 ≤ b → w.heap.size + 1 ≤ w'.heap.size →
      Calls Tryz.prog 32 #[.pointer (some ⟨b, 0, none⟩), .agg #[v0, v1]] w' fun e w'' => e = .returned (.tuple #[]) ∧ WrIs w'' (w.heap.size + 1) b L ∧ (L = [] → ∃ p, w''.heap[b]? = some (.cells #[p, .slice none 0 0] 83 (0, 0))) ∧ Below (w.heap.size + 1) w' w'' := by
    intro b w' hb hbk hB hsz
    have hW0 : WrIs w' (w.heap.size + 1) b [] := .inl ⟨hB, .slice none 0 0, hbk, World.ownsRow_nil _ _ _ _, fun h => by cases h⟩
    by_cases hn : L = []
    · have h0 : unitW cs ss = [] := by
        rcases hput with ⟨_, h⟩ | ⟨_, h⟩
        · rw [hn] at h; simp at h
        · rw [← h]; exact hn
      obtain ⟨h1, h2⟩ := unitW_nil h0
      have h3 : fs = [] := by rw [← hcs] at h1; simpa using h1
      subst h3 h2
      obtain ⟨⟨Ac, cc, rfl, _, _⟩, ⟨As, cs', rfl, _, _⟩, _⟩ := hu
      refine (wfile_none b Ac As cc cs' w').mono ?_
      rintro e w'' ⟨rfl, hb2⟩
      rw [hn]
      exact ⟨rfl, hW0.below hb2, fun _ => ⟨_, (hb2.block b (lt_of_blk hbk)).trans hbk⟩, hb2.mono hsz⟩
    · refine (wfile_any (w.heap.size + 1) b [] v0 v1 fs ss w' hW0 ((hu.below hb).more (Nat.le_succ _)) (by simp) hsz hl hl2 hc hs (fun w2 h2 => hm w2 (hb.trans (h2.mono (Nat.le_succ _))))).mono ?_
      rintro e w'' ⟨rfl, h1, h2⟩
      rw [hcs, hL] at h1
      exact ⟨rfl, h1, fun h => absurd h hn, h2⟩
  have hFI : ∀ x ∈ fs, BdC x ∧ FdAt w w.heap.size x := fun x hx => ⟨hc x hx, hu.fi x hx⟩
  have hu2 := hu
  obtain ⟨⟨Ac, cc, rfl, hcc, hrc⟩, ⟨As, cs', rfl, hcs', hrs⟩, -⟩ := hu2
  have hFB : ∀ w', Below w.heap.size w w' → ∀ x ∈ fs, BdC x ∧ FdAt w' w.heap.size x := fun w' hb x hx => ⟨(hFI x hx).1, by
    obtain ⟨A, c, e1, e2, e3, e4⟩ := (hFI x hx).2
    exact ⟨A, c, e1, e2, e3, e4.below hb (Nat.le_refl _)⟩⟩
  have HAC := Lib.hid (fun w' (hb : Below w.heap.size w w') => allC_any fs Ac cc w.heap.size w' (hrc.below hb (Nat.le_refl _)) hb.size hcc hl (hFB w' hb))
  have HAD := Lib.hid (fun w' (hb : Below w.heap.size w w') => allD_any fs Ac cc w.heap.size w' (hrc.below hb (Nat.le_refl _)) hb.size hcc hl (hFB w' hb))
  have HAS := Lib.hid (fun w' (hb : Below w.heap.size w w') => allS_any ss As cs' w.heap.size w' (hrs.below hb (Nat.le_refl _)) hb.size hcs' hl2 hs)
  have HFile := Lib.hid hfile
  have HL := Lib.hid hput
  have hm1 : cs.all okC = fs.all (fun x => isClassR x.1.1 x.1.2.1 x.1.2.2.1) := by rw [← hcs, List.all_map]; rfl
  have hm3 : cs.all rdC = fs.all (fun x => decide ((fldW x.1.2.2.1).length ≤ 4096)) := by rw [← hcs, List.all_map]; rfl
  obtain ⟨R, hR⟩ : ∃ R, writeR cs ss = R := ⟨_, rfl⟩
  rw [hcs, hR]
  unfold writeR at hR
  rw [hm1, hm3] at hR
  have HR := Lib.hid hR
  clear hm1 hm3 hR hput hfile hFI hu hrc hrs hFB hc hs hm hcs hL
  obtain ⟨W, hW⟩ : ∃ W, (w.alloc (.cells #[.slice Ac fs.length cc, .slice As ss.length cs'] 53)).alloc (.cells #[.pointer none, .slice none 0 0] 83) = W := ⟨_, rfl⟩
  obtain ⟨q1, q2, hb⟩ := boxes2U w _ _ W hW
  obtain ⟨T, hT⟩ : ∃ T, w.heap.size = T := ⟨_, rfl⟩
  have HQ1 := Lib.hid q1
  have hfl := HFile.out (w.heap.size + 1) W hb q2 (by omega) (by have := lt_of_blk q1; omega)
  have HB := Lib.hid hb
  rw [hT] at HQ1 hfl
  clear q1 q2 hb HFile
  go_enter Tryz.func15, Tryz.ntmps15
  go_upto_region 2 with fail
  try simp only [hW, hT]
  clear hW
  have f1 := cells2V HQ1.out
  have l1 := lt_of_blk HQ1.out
  go_upto_region 3 with (go_at_call 32; refine hfl.mono ?_; rintro e w3 ⟨rfl, h3, h3e, hb3⟩; clear hfl)
  have HB3 := Lib.hid (HB.out.trans (hb3.mono (show w.heap.size ≤ T + 1 by omega)))
  have HQ3 := Lib.hid ((hb3.block T (Nat.lt_succ_self T)).trans HQ1.out)
  have HE3 := Lib.hid h3e
  have HW3 := Lib.hid h3
  clear f1 l1 h3 h3e hb3 HQ1 HB
  have f1 := cells2V HQ3.out
  have l1 := lt_of_blk HQ3.out
  have hln := lenW_any (T + 1) (T + 1) L w3 HW3.out
  by_cases hz : 65536 < (unitW cs ss).length
  · have hz2 : (65536 : Int) < (L.length : Int) := by
      rcases HL.out with ⟨_, h⟩ | ⟨h, _⟩
      · omega
      · exact absurd hz h
    have HE := Lib.hid (show R = ([], 2) by rw [← HR.out, if_pos hz])
    clear hz
    go_wp2_with (go_at_call 33; refine hln.mono ?_; rintro e w4 ⟨rfl, rfl⟩; clear hln)
    go_ret2
    rw [HE.out]
    exact ⟨rfl, HB3.out⟩
  have hLe : L = unitW cs ss := by
    rcases HL.out with ⟨h, _⟩ | ⟨_, h⟩
    · exact absurd h hz
    · exact h
  have hz2 : ¬ (65536 : Int) < (L.length : Int) := by rw [hLe]; omega
  have HLe := Lib.hid hLe
  have HR2 := HR.out
  rw [if_neg hz] at HR2
  clear hLe hz HL HR
  have hac := HAC.out w3 HB3.out
  obtain ⟨t1, ht1⟩ : ∃ t, fs.all (fun x => isClassR x.1.1 x.1.2.1 x.1.2.2.1) = t := ⟨_, rfl⟩
  rw [ht1] at hac HR2
  have HR2 := Lib.hid HR2
  clear ht1
  go_upto_region 5 with (go_at_call 33; refine hln.mono ?_; rintro e w4 ⟨rfl, rfl⟩; clear hln)
  cases t1
  · have HE := Lib.hid (show R = ([], 3) by rw [← HR2.out]; rfl)
    clear HR2
    go_wp2_with (go_at_call 34; refine hac.mono ?_; rintro e w5 ⟨rfl, hb5⟩; clear hac)
    go_ret2
    rw [HE.out]
    exact ⟨rfl, HB3.out.trans (hb5.mono HB3.out.size)⟩
  obtain ⟨t2, ht2⟩ : ∃ t, ss.all srcOk = t := ⟨_, rfl⟩
  have HT2 := Lib.hid ht2
  have HR3 := HR2.out
  rw [ht2] at HR3
  have HR3 := Lib.hid HR3
  clear ht2 HR2
  cases t2
  · have HE := Lib.hid (show R = ([], 3) by rw [← HR3.out]; rfl)
    clear HR3
    go_wp2_with (first
      | (go_at_call 34; refine hac.mono ?_; rintro e w5 ⟨rfl, hb5⟩; clear hac
         have HB5 := Lib.hid (HB3.out.trans (hb5.mono HB3.out.size))
         have HQ5 := Lib.hid ((hb5.block _ (lt_of_blk HQ3.out)).trans HQ3.out)
         have HW5 := Lib.hid (HW3.out.below hb5)
         have HE5 := Lib.hid (show L = [] → ∃ p, w5.heap[T + 1]? = some (.cells #[p, .slice none 0 0] 83 (0, 0)) from fun h => by obtain ⟨p, hp⟩ := HE3.out h; exact ⟨p, (hb5.block _ (lt_of_blk hp)).trans hp⟩)
         have f5 := cells2V HQ5.out
         have l5 := lt_of_blk HQ5.out
         have has := HAS.out w5 HB5.out
         rw [HT2.out] at has)
      | (go_at_call 36; refine has.mono ?_; rintro e w6 ⟨rfl, hb6⟩; clear has))
    go_ret2
    rw [HE.out]
    exact ⟨rfl, HB5.out.trans (hb6.mono HB5.out.size)⟩
  go_upto_region 7 with (first
    | (go_at_call 34; refine hac.mono ?_; rintro e w5 ⟨rfl, hb5⟩; clear hac
       have HB5 := Lib.hid (HB3.out.trans (hb5.mono HB3.out.size))
       have HQ5 := Lib.hid ((hb5.block _ (lt_of_blk HQ3.out)).trans HQ3.out)
       have HW5 := Lib.hid (HW3.out.below hb5)
       have HE5 := Lib.hid (show L = [] → ∃ p, w5.heap[T + 1]? = some (.cells #[p, .slice none 0 0] 83 (0, 0)) from fun h => by obtain ⟨p, hp⟩ := HE3.out h; exact ⟨p, (hb5.block _ (lt_of_blk hp)).trans hp⟩)
       have f5 := cells2V HQ5.out
       have l5 := lt_of_blk HQ5.out
       have has := HAS.out w5 HB5.out
       rw [HT2.out] at has)
    | (go_at_call 36; refine has.mono ?_; rintro e w6 ⟨rfl, hb6⟩; clear has))
  have HB6 := Lib.hid (HB5.out.trans (hb6.mono HB5.out.size))
  have HQ6 := Lib.hid ((hb6.block _ (lt_of_blk HQ5.out)).trans HQ5.out)
  have HW6 := Lib.hid (HW5.out.below hb6)
  have HE6 := Lib.hid (show L = [] → ∃ p, w6.heap[T + 1]? = some (.cells #[p, .slice none 0 0] 83 (0, 0)) from fun h => by obtain ⟨p, hp⟩ := HE5.out h; exact ⟨p, (hb6.block _ (lt_of_blk hp)).trans hp⟩)
  clear hb5 hb6 f5 l5 f1 l1 HB5 HQ5 HW5 HE5 HB3 HQ3 HW3 HE3 HT2
  have f6 := cells2V HQ6.out
  have l6 := lt_of_blk HQ6.out
  have had := HAD.out w6 HB6.out
  obtain ⟨t3, ht3⟩ : ∃ t, fs.all (fun x => decide ((fldW x.1.2.2.1).length ≤ 4096)) = t := ⟨_, rfl⟩
  have HR4 := HR3.out
  rw [ht3] at had HR4
  have HR4 := Lib.hid HR4
  clear ht3 HR3
  cases t3
  · have HE := Lib.hid (show R = ([], 2) by rw [← HR4.out]; rfl)
    clear HR4
    go_wp2_with (go_at_call 34; refine had.mono ?_; rintro e w7 ⟨rfl, hb7⟩; clear had)
    go_ret2
    rw [HE.out]
    exact ⟨rfl, HB6.out.trans (hb7.mono HB6.out.size)⟩
  have HE := Lib.hid (show R = (L, 0) by rw [← HR4.out, HLe.out]; rfl)
  clear HR4 HLe
  have hst : ∀ w', Below w6.heap.size w6 w' → Calls Tryz.prog 39 #[.pointer (some ⟨T + 1, 0, none⟩)] w' fun e w'' => e = .returned (.string (mkB L)) ∧ Below w.heap.size w' w'' := by
    intro w' hb
    by_cases hn : L = []
    · obtain ⟨p, hp⟩ := HE6.out hn
      refine (stringW_none (T + 1) p w' ((hb.block _ (lt_of_blk hp)).trans hp)).mono ?_
      rintro e w'' ⟨rfl, hb2⟩
      rw [hn]
      exact ⟨rfl, hb2.mono (Nat.le_trans HB6.out.size hb.size)⟩
    · refine (stringW_any (T + 1) (T + 1) L w' (HW6.out.below hb) hn).mono ?_
      rintro e w'' ⟨rfl, hb2⟩
      exact ⟨rfl, hb2.mono (show w.heap.size ≤ T + 1 by omega)⟩
  have HST := Lib.hid hst
  clear hst
  go_wp2_with (first
    | (go_at_call 34; refine had.mono ?_; rintro e w7 ⟨rfl, hb7⟩; clear had
       have hst := HST.out w7 hb7)
    | (go_at_call 39; refine hst.mono ?_; rintro e w8 ⟨rfl, hb8⟩; clear hst))
  go_ret2
  rw [HE.out]
  exact ⟨rfl, (HB6.out.trans (hb7.mono HB6.out.size)).trans hb8⟩
end Go.Proofs.YtmdkneollidkfaaGreatDoor.Fl

/-
  The document's Write: its parts.
-/
namespace Go.Proofs.YtmdkneollidkfaaGreatDoor.Fl
open Go.RowKit Go.Shelf

theorem fldW_snoc : ∀ (l : List (List UInt8)) (x : List UInt8), fldW (l ++ [x]) = if l = [] then x else fldW l ++ 32 :: x
  | [], x => rfl
  | [y], x => by simp [fldW]
  | y :: z :: l, x => by
    have h := fldW_snoc (z :: l) x
    rw [if_neg (by simp)] at h
    rw [if_neg (by simp)]
    show y ++ 32 :: fldW (z :: l ++ [x]) = (y ++ 32 :: fldW (z :: l)) ++ 32 :: x
    rw [h]; simp
theorem mk_app (a b : List UInt8) : mkB a ++ mkB b = mkB (a ++ b) := by
  apply ByteArray.ext
  simp
theorem fldW_take_le (l : List (List UInt8)) (i : Nat) : (fldW (l.take i)).length ≤ (fldW l).length := by
  induction l generalizing i with
  | nil => simp [fldW]
  | cons x l ih =>
    cases i with
    | zero => simp [fldW]
    | succ i =>
      cases l with
      | nil => simp [fldW]
      | cons y l =>
        cases i with
        | zero => simp [fldW]
        | succ i =>
          have := ih (i + 1)
          rw [List.take_succ_cons] at this ⊢
          rw [List.take_succ_cons, fldW, fldW, List.length_append, List.length_append, List.length_cons, List.length_cons]
          omega
set_option maxRecDepth 100000 in
set_option maxHeartbeats 1000000 in
theorem rjoin_any (ts : List (List UInt8)) (A : Option Addr) (c B : Nat) (w : World) (hr : Rd w B A (cs_ ts)) (hB : B ≤ w.heap.size) (hc : ts.length ≤ c) (hl : ts.length ≤ 100000000) (hf : (fldW ts).length ≤ 33554432) (hs : ∀ x ∈ ts, x.length ≤ 16777216) :
    Calls Tryz.prog 41 #[.slice A ts.length c] w fun e w' => e = .returned (.string (mkB (fldW ts))) ∧ w = w' := by
  have HRd := Lib.hid hr
  have HS := Lib.hid hs
  clear hr hs
  go_enter Tryz.func41, Tryz.ntmps41
  go_wp2_with fail
  go_loopw [3, 4] (fun u v wr => ∃ i : Nat, i ≤ ts.length ∧ u = .string (mkB (fldW (ts.take i))) ∧ v = .int .i64 (i : Int) ∧ w = wr) (fun _ v _ => ts.length - (intOf v).toNat)
  case atStart => exact ⟨0, Nat.zero_le _, rfl, rfl, rfl⟩
  case round =>
    obtain ⟨i, hi, rfl, rfl, rfl⟩ := hrel
    have hle := fldW_take_le ts i
    by_cases hlt : i < ts.length
    case neg =>
      have hq : ¬ ((i : Int) < (ts.length : Int)) := by omega
      have HE := Lib.hid (show fldW (ts.take i) = fldW ts by rw [List.take_of_length_le (by omega)])
      go_wp2_with fail
      go_ret
      exact ⟨by rw [← HE.out]; rfl, rfl⟩
    have hq : (i : Int) < (ts.length : Int) := by omega
    obtain ⟨b, o, rfl, hb, hcell⟩ := rdS_at HRd.out hlt
    have hbw : b < w.heap.size := Nat.lt_of_lt_of_le hb hB
    have hx := HS.out ts[i] (List.getElem_mem hlt)
    have HT := Lib.hid (show fldW (ts.take (i + 1)) = if i = 0 then ts[i] else fldW (ts.take i) ++ 32 :: ts[i] by
      rw [List.take_succ_eq_append_getElem hlt, fldW_snoc]
      cases i with
      | zero => rfl
      | succ i => rw [if_neg (by intro h; have := congrArg List.length h; rw [List.length_take, List.length_nil] at this; omega), if_neg (Nat.succ_ne_zero i)])
    generalize ts[i] = x at *
    generalize hs0 : fldW (ts.take i) = s0 at *
    by_cases h0 : i = 0
    · have h0i : ¬ (0 : Int) < (i : Int) := by omega
      have hs1 : s0 = [] := by rw [← hs0, h0]; rfl
      subst hs1
      have HT2 := Lib.hid (show fldW (ts.take (i + 1)) = x by rw [HT.out, if_pos h0])
      clear h0 HT
      go_wp2_with fail
      go_roundw
      case rel =>
        refine ⟨i + 1, by omega, ?_, by simp, by trivial⟩
        rw [HT2.out]
        apply congrArg Value.string
        apply ByteArray.ext
        simp
      case measure => simp [intOf]; omega
    · have h0i : (0 : Int) < (i : Int) := by omega
      have HT2 := Lib.hid (show fldW (ts.take (i + 1)) = s0 ++ 32 :: x by rw [HT.out, if_neg h0])
      clear h0 HT
      go_wp2_with fail
      go_roundw
      case rel =>
        refine ⟨i + 1, by omega, ?_, by simp, by trivial⟩
        rw [HT2.out]
        apply congrArg Value.string
        apply ByteArray.ext
        simp
      case measure => simp [intOf]; omega
/-! ### the document's Write -/
theorem clssW_take {cs : List Cls} {i : Nat} (h : i < cs.length) : clssW (cs.take (i + 1)) = clssW (cs.take i) ++ clsW cs[i] := by
  rw [List.take_succ_eq_append_getElem h]
  unfold clssW
  rw [List.flatMap_append]
  simp
theorem clsW_le {nm sp : List UInt8} {fl : List (List UInt8)} {at_ : Int} (h1 : nm.length ≤ 16777216) (h2 : sp.length ≤ 16777216) (h3 : (fldW fl).length ≤ 16777216) : (clsW (nm, sp, fl, at_)).length ≤ 67108864 := by
  have hs : (superW sp).length ≤ 16777216 := by unfold superW; split; simp; exact h2
  unfold clsW clsT
  simp only [List.length_append, List.length_cons, List.length_nil]
  omega
theorem clssW_le {cs : List Cls} (h : ∀ c ∈ cs, (clsW c).length ≤ 67108864) : (clssW cs).length ≤ cs.length * 67108864 := by
  induction cs with
  | nil => simp [clssW]
  | cons c cs ih =>
    have h1 := h c (by simp)
    have h2 := ih (fun d hd => h d (by simp [hd]))
    show (clsW c ++ clssW cs).length ≤ _
    rw [List.length_append, List.length_cons]
    omega
end Go.Proofs.YtmdkneollidkfaaGreatDoor.Fl
