/-
  The document's Write of any unit.
-/
import Derived.Test.YtmdkneollidkfaaGreatDoorClL
namespace Go.Proofs.YtmdkneollidkfaaGreatDoor.Fl
open Go.RowKit Go.Shelf

/-- what the document's Write answers -/
def docR (cs : List Cls) (ss : List Src) : List UInt8 × Int :=
  if 65536 < (unitW cs ss).length then ([], 2) else if (cs.all okC && ss.all srcOk) = false then ([], 3) else (unitW cs ss, 0)
def closeD (m : Option (List UInt8 × Bool)) : List UInt8 := if m = none then [] else [32, 33, 10]
theorem srcsW_cons (m : Option (List UInt8 × Bool)) (y : Src) (l : List Src) : srcsW m (y :: l) = (if m = some (keyS y) then [] else closeD m ++ hdW y.1 y.2.1) ++ (dblE y.2.2.1 ++ (33 :: 10 :: srcsW (some (keyS y)) l)) := by
  cases m with
  | none => simp [srcsW, closeD, keyS]
  | some h =>
    by_cases he : h = keyS y
    · subst he; simp [srcsW, keyS]
    · have he2 : ¬ h = (y.1, y.2.1) := he
      have he3 : ¬ some h = some (keyS y) := fun e => he (Option.some.inj e)
      simp [srcsW, closeD, he2, he3]
      simp [keyS]
theorem dblE_snoc (l : List UInt8) (c : UInt8) : dblE (l ++ [c]) = dblE l ++ (if c = 33 then [33, 33] else [c]) := by
  induction l with
  | nil => by_cases h : c = 33 <;> simp [dblE, h]
  | cons d l ih =>
    rw [List.cons_append, dblE, dblE, ih]
    split <;> simp
set_option maxRecDepth 100000 in
set_option maxHeartbeats 16000000 in
theorem rwrite_any (w : World) (v0 v1 : Value) (fs : List (Cls × Value)) (ss : List Src) (hu : UnAt w w.heap.size v0 v1 fs ss) (hl : fs.length ≤ 1000) (hl2 : ss.length ≤ 1000) (hc : ∀ x ∈ fs, BdC x) (hs : ∀ x ∈ ss, BdS x) :
    Calls Tryz.prog 17 #[.agg #[v0, v1]] w fun e w' => e = .returned (.tuple #[.string (mkB (docR (fs.map fun x => x.1) ss).1), .int .i64 (docR (fs.map fun x => x.1) ss).2]) ∧ Below w.heap.size w w' := by
  obtain ⟨⟨Ac, cc, rfl, hcc, hrc⟩, ⟨As, cs', rfl, hcs', hrs⟩, hfi⟩ := hu
  obtain ⟨cs, hcs⟩ : ∃ cs, fs.map (fun x => x.1) = cs := ⟨_, rfl⟩
  rw [hcs]
  have hcl : cs.length = fs.length := by rw [← hcs, List.length_map]
  have hq1 := heap_alloc_new w (.cells #[.slice Ac fs.length cc, .slice As ss.length cs'] 45)
  have hb1 : Below w.heap.size w (w.alloc (.cells #[.slice Ac fs.length cc, .slice As ss.length cs'] 45)) := (Below.refl _ _).alloc (Nat.le_refl _) _
  have HRC := Lib.hid hrc
  have HRS := Lib.hid hrs
  have HFI := Lib.hid hfi
  have HC := Lib.hid hc
  have HSS := Lib.hid hs
  have HCS := Lib.hid hcs
  have HBC := Lib.hid (show ∀ c ∈ cs, (clsW c).length ≤ 67108864 from fun c hcm => by
    rw [← hcs] at hcm
    obtain ⟨x, hx, rfl⟩ := List.mem_map.1 hcm
    obtain ⟨s1, s2, _, _, s5⟩ := hc x hx
    exact clsW_le s1 s2 s5)
  clear hrc hrs hfi hc hs hcs
  go_enter Tryz.func17, Tryz.ntmps17
  go_upto_region 1 with fail
  obtain ⟨W, hW⟩ : ∃ W, w.alloc (.cells #[.slice Ac fs.length cc, .slice As ss.length cs'] 45) = W := ⟨_, rfl⟩
  obtain ⟨T, hT⟩ : ∃ T, w.heap.size = T := ⟨_, rfl⟩
  rw [hW] at hq1 hb1
  rw [hT] at hq1
  try rw [hW]
  try simp only [hT]
  have HB := Lib.hid hb1
  have HQ := Lib.hid hq1
  have HTT := Lib.hid hT
  clear hq1 hb1 hW hT
  go_wp2_with fail
  go_loopw [4, 5, 6] (fun vs vo vi wr => ∃ i : Nat, i ≤ fs.length ∧ vs = .string (mkB (clssW (cs.take i))) ∧ vo = .bool ((cs.take i).all okC) ∧ vi = .int .i64 (i : Int) ∧ Hid (Below w.heap.size w wr ∧ wr.heap[T]? = some (.cells #[.slice Ac fs.length cc, .slice As ss.length cs'] 45 (0, 0)))) (fun _ _ vi _ => fs.length - (intOf vi).toNat)
  case atStart => exact ⟨0, Nat.zero_le _, rfl, rfl, rfl, Lib.hid ⟨HB.out, HQ.out⟩⟩
  case round =>
    clear HB HQ
    obtain ⟨i, hi, rfl, rfl, rfl, HB⟩ := hrel
    have hsl : (clssW (cs.take i)).length ≤ 67108864000 := by
      have := clssW_le (cs := cs.take i) (fun c hc => HBC.out c (List.mem_of_mem_take hc))
      rw [List.length_take] at this
      have h2 : min i cs.length ≤ 1000 := by omega
      calc _ ≤ _ := this
        _ ≤ 1000 * 67108864 := Nat.mul_le_mul_right _ h2
        _ = _ := rfl
    have f1 := cells2V HB.out.2
    have l1 := lt_of_blk HB.out.2
    by_cases hlt : i < fs.length
    case neg =>
      have hq : ¬ ((i : Int) < (fs.length : Int)) := by omega
      rw [List.take_of_length_le (show cs.length ≤ i by omega)] at hsl ⊢
      obtain ⟨tc, htc⟩ : ∃ t, cs.all okC = t := ⟨_, rfl⟩
      rw [htc]
      have HTC := Lib.hid htc
      clear htc
      go_wp2_with fail
      go_loopw [4, 5, 10] (fun vs vo vj wr => ∃ (j : Nat) (s : List UInt8), j ≤ ss.length ∧ vs = .string (mkB s) ∧ vo = .bool (tc && (ss.take j).all srcOk) ∧ vj = .int .i64 (j : Int) ∧ s.length ≤ 67108864000 + j * 67108864 ∧ Hid (s ++ srcsW (prevS ss j) (ss.drop j) = unitW cs ss) ∧ Hid (Below w.heap.size w wr ∧ wr.heap[T]? = some (.cells #[.slice Ac fs.length cc, .slice As ss.length cs'] 45 (0, 0)))) (fun _ _ vj _ => ss.length - (intOf vj).toNat)
      case atStart => exact ⟨0, clssW cs, Nat.zero_le _, rfl, by simp, rfl, by omega, Lib.hid rfl, HB⟩
      case round =>
        clear HB f1 l1 hsl
        obtain ⟨j, s, hj, rfl, rfl, rfl, hsl, HP, HB⟩ := hrel
        have f1 := cells2V HB.out.2
        have l1 := lt_of_blk HB.out.2
        by_cases hlt2 : j < ss.length
        case neg =>
          have hq2 : ¬ ((j : Int) < (ss.length : Int)) := by omega
          have hsl2 : s.length ≤ 134217728000 := by omega
          rw [List.take_of_length_le (show ss.length ≤ j by omega)]
          have hP := HP.out
          rw [List.drop_of_length_le (show ss.length ≤ j by omega)] at hP
          have hR : docR cs ss = if 65536 < (unitW cs ss).length then ([], 2) else if (tc && ss.all srcOk) = false then ([], 3) else (unitW cs ss, 0) := by unfold docR; rw [HTC.out]
          have HR := Lib.hid hR
          clear hR
          by_cases h0 : ss.length = 0
          · have hs0 : s = unitW cs ss := by
              rw [← hP]
              have : prevS ss j = none := by unfold prevS; rw [if_pos (by omega)]
              rw [this]
              exact (List.append_nil s).symm
            have HS0 := Lib.hid hs0
            have h0i : ¬ (0 : Int) < (ss.length : Int) := by omega
            clear hs0 hP h0
            by_cases hz : 65536 < (s).length
            · have hzi : (65536 : Int) < (s.length : Int) := by have := hz; (try simp at this); omega
              have HE := Lib.hid (show docR cs ss = ([], 2) by rw [HR.out, ← HS0.out, if_pos hz])
              clear hz
              go_wp2_with fail
              go_ret2
              exact ⟨by rw [HE.out]; rfl, HB.out.1⟩
            have hzi : ¬ (65536 : Int) < (s.length : Int) := by have := hz; (try simp at this); omega
            have hR2 := HR.out
            rw [← HS0.out, if_neg hz] at hR2
            obtain ⟨tk, htk⟩ : ∃ t, (tc && ss.all srcOk) = t := ⟨_, rfl⟩
            rw [htk] at hR2 ⊢
            have HR2 := Lib.hid hR2
            clear htk hR2 hz
            cases tk
            · have HE := Lib.hid (show docR cs ss = ([], 3) by rw [HR2.out]; rfl)
              go_wp2_with fail
              go_ret2
              exact ⟨by rw [HE.out]; rfl, HB.out.1⟩
            · have HE := Lib.hid (show docR cs ss = (s, 0) by rw [HR2.out]; rfl)
              go_wp2_with fail
              go_ret2
              refine ⟨?_, HB.out.1⟩
              rw [HE.out]
              rfl
          · have hs0 : s ++ [32, 33, 10] = unitW cs ss := by
              rw [← hP]
              have : prevS ss j = some (keyS (ss[j - 1]'(by omega))) := by unfold prevS; rw [if_neg (by omega), List.getElem?_eq_getElem (show j - 1 < ss.length by omega)]; rfl
              rw [this]
              rfl
            have HS0 := Lib.hid hs0
            have h0i : (0 : Int) < (ss.length : Int) := by omega
            clear hs0 hP h0
            by_cases hz : 65536 < (s ++ [32, 33, 10]).length
            · have hzi : (65536 : Int) < (s.length : Int) + 3 := by have := hz; (try simp at this); omega
              have HE := Lib.hid (show docR cs ss = ([], 2) by rw [HR.out, ← HS0.out, if_pos hz])
              clear hz
              go_wp2_with fail
              go_ret2
              exact ⟨by rw [HE.out]; rfl, HB.out.1⟩
            have hzi : ¬ (65536 : Int) < (s.length : Int) + 3 := by have := hz; (try simp at this); omega
            have hR2 := HR.out
            rw [← HS0.out, if_neg hz] at hR2
            obtain ⟨tk, htk⟩ : ∃ t, (tc && ss.all srcOk) = t := ⟨_, rfl⟩
            rw [htk] at hR2 ⊢
            have HR2 := Lib.hid hR2
            clear htk hR2 hz
            cases tk
            · have HE := Lib.hid (show docR cs ss = ([], 3) by rw [HR2.out]; rfl)
              go_wp2_with fail
              go_ret2
              exact ⟨by rw [HE.out]; rfl, HB.out.1⟩
            · have HE := Lib.hid (show docR cs ss = (s ++ [32, 33, 10], 0) by rw [HR2.out]; rfl)
              go_wp2_with fail
              go_ret2
              refine ⟨?_, HB.out.1⟩
              rw [HE.out]
              exact congrArg (fun x => Ending.returned (Value.tuple #[.string x, .int .i64 0])) (mk_app s [32, 33, 10])
        have hq2 : (j : Int) < (ss.length : Int) := by omega
        have hsl2 : s.length ≤ 134217728000 := by omega
        have hbd := HSS.out ss[j] (List.getElem_mem hlt2)
        have hcons := srcsW_cons (prevS ss j) ss[j] (ss.drop (j + 1))
        rw [← List.drop_eq_getElem_cons hlt2, ← prevS_succ hlt2] at hcons
        have hP := HP.out
        rw [hcons] at hP
        have hall : (ss.take (j + 1)).all srcOk = ((ss.take j).all srcOk && srcOk ss[j]) := by rw [List.take_succ_eq_append_getElem hlt2, List.all_append]; simp
        have HRc := Lib.hid (fun (w' : World) (hb : Below w.heap.size w w') (k : Nat) (hk : k < ss.length) => rdX_at (HRS.out.below hb (Nat.le_refl _)) hk)
        obtain ⟨b1, o, hAs, hbb, d0, d1, d2, d3⟩ := HRc.out wr HB.out.1 j hlt2
        subst hAs
        have HRd := Lib.hid (show ∀ (w' : World) (hb : Below w.heap.size w w') (k : Nat) (hk : k < ss.length), w'.cell? ⟨b1, o + k * 4, none⟩ = some (.string (mkB ss[k].1)) ∧ w'.cell? ⟨b1, o + k * 4 + 1, none⟩ = some (.bool ss[k].2.1) ∧ w'.cell? ⟨b1, o + k * 4 + 2, none⟩ = some (.string (mkB ss[k].2.2.1)) ∧ w'.cell? ⟨b1, o + k * 4 + 3, none⟩ = some (.int .i64 ss[k].2.2.2) from fun w' hb k hk => by
          obtain ⟨b', o', e, _, h⟩ := HRc.out w' hb k hk
          injection e with e
          injection e with e1 e2 _
          subst e1 e2
          exact h)
        obtain ⟨y, hy⟩ : ∃ y, ss[j] = y := ⟨_, rfl⟩
        rw [hy] at d0 d1 d2 d3 hP hall hbd
        obtain ⟨cn, mt, tx, at_⟩ := y
        dsimp only at d0 d1 d2 d3 hP
        obtain ⟨s1, s2⟩ := hbd
        dsimp only at s1 s2
        have HP2 := Lib.hid hP
        have HALL := Lib.hid hall
        have hbw : b1 < wr.heap.size := Nat.lt_of_lt_of_le hbb HB.out.1.size
        obtain ⟨t0, ht0⟩ : ∃ t, (tc && (ss.take j).all srcOk) = t := ⟨_, rfl⟩
        have HT0 := Lib.hid ht0
        rw [ht0]
        have HY := Lib.hid hy
        clear hy hcons hP hall HRc HP ht0
        go_upto_region 20 with fail
        obtain ⟨W1, hW1⟩ : ∃ W1, wr.alloc (.cells #[.string (mkB cn), .bool mt, .string (mkB tx), .int .i64 at_] 76) = W1 := ⟨_, rfl⟩
        obtain ⟨F, hF⟩ : ∃ F, wr.heap.size = F := ⟨_, rfl⟩
        have hs : W1.heap[F]? = some (.cells #[.string (mkB cn), .bool mt, .string (mkB tx), .int .i64 at_] 76 (0, 0)) := by rw [← hW1, ← hF]; exact heap_alloc_new wr _
        have hb1 : Below wr.heap.size wr W1 := by rw [← hW1]; exact (Below.refl _ _).alloc (Nat.le_refl _) _
        try rw [hW1]
        try simp only [hF]
        have HB1 := Lib.hid (show Below w.heap.size w W1 ∧ W1.heap[T]? = some (.cells #[.slice Ac fs.length cc, .slice (some ⟨b1, o, none⟩) ss.length cs'] 45 (0, 0)) ∧ W1.heap[F]? = some (.cells #[.string (mkB cn), .bool mt, .string (mkB tx), .int .i64 at_] 76 (0, 0)) from ⟨HB.out.1.trans (hb1.mono HB.out.1.size), (hb1.block _ (lt_of_blk HB.out.2)).trans HB.out.2, hs⟩)
        clear hW1 hb1 hs hF d0 d1 d2 d3 HB f1 l1 hbb hbw
        have fF := cells4L HB1.out.2.2
        have lF := lt_of_blk HB1.out.2.2
        have hn1 := rnamed_any (mkB cn) W1 (by rw [mkL_size]; exact s1)
        obtain ⟨r, hr⟩ : ∃ r, (t0 && srcOk (cn, mt, tx, at_)) = r := ⟨_, rfl⟩
        have HR := Lib.hid hr
        clear hr
        go_cut [5] (fun v wx => v = .bool r ∧ W1 = wx)
        case first =>
          obtain ⟨t1, ht1⟩ : ∃ t, (arityL (mkB cn) == 0) = t := ⟨_, rfl⟩
          have HR2 := HR.out
          unfold srcOk txtOk at HR2
          dsimp only at HR2
          rw [ht1] at HR2 hn1
          have HR3 := Lib.hid HR2
          clear HR HR2 ht1
          cases t0
          · have h1 : r = false := by rw [← HR3.out]; rfl
            subst h1
            go_wp2_with fail
            go_meet
            exact ⟨rfl, rfl⟩
          cases t1
          · have h1 : r = false := by rw [← HR3.out]; rfl
            subst h1
            go_wp2_with (go_at_call 40; refine hn1.mono ?_; rintro e w2 ⟨rfl, rfl⟩; clear hn1)
            go_meet
            exact ⟨rfl, rfl⟩
          by_cases he : tx = []
          · have h1 : r = false := by rw [← HR3.out, he]; rfl
            subst h1 he
            go_wp2_with (go_at_call 40; refine hn1.mono ?_; rintro e w2 ⟨rfl, rfl⟩; clear hn1)
            go_meet
            exact ⟨rfl, rfl⟩
          have hne : (tx == []) = false := beq_eq_false_iff_ne.2 he
          have hpos : 0 < tx.length := List.length_pos_iff.2 he
          clear he
          obtain ⟨m, hm⟩ : ∃ m, tx.length - 1 = m := ⟨_, rfl⟩
          have hmlt : m < tx.length := by omega
          have hp0 : 0 < (mkB tx).size := by rw [mkL_size]; exact hpos
          have hpm : m < (mkB tx).size := by rw [mkL_size]; exact hmlt
          have hg0 : (mkB tx)[0]'hp0 = tx.headD 0 := by
            cases tx with
            | nil => simp at hpos
            | cons c l => rfl
          have hgm : (mkB tx)[m]'hpm = tx.getLastD 0 := by
            have h1 : tx.getLastD 0 = tx[m]'hmlt := by
              rw [List.getLastD_eq_getLast?, List.getLast?_eq_getElem?, hm, List.getElem?_eq_getElem hmlt]; rfl
            rw [h1]; rfl
          have hA : Calls Tryz.prog 42 #[.int .u8 (((mkB tx)[0]'hp0).toNat : Int)] W1 fun e w' => e = .returned (.bool (blankN (tx.headD 0).toNat)) ∧ W1 = w' := by
            rw [← hg0]; exact rblank_any _ W1 (UInt8.toNat_lt _)
          have hL : Calls Tryz.prog 42 #[.int .u8 (((mkB tx)[m]'hpm).toNat : Int)] W1 fun e w' => e = .returned (.bool (blankN (tx.getLastD 0).toNat)) ∧ W1 = w' := by
            rw [← hgm]; exact rblank_any _ W1 (UInt8.toNat_lt _)
          have hem : tx.isEmpty = false := by cases tx; simp at hpos; rfl
          have hw2 : IntKind.i64.wrap ((tx.length : Int) - 1) = (m : Int) := by rw [IntKind.wrap_i64]; omega
          have hr4 := HR3.out
          rw [hem] at hr4
          generalize blankN (tx.headD 0).toNat = c0 at *
          generalize blankN (tx.getLastD 0).toNat = c1 at *
          have HR4 := Lib.hid hr4
          clear hr4 HR3 hem hg0 hgm hm
          cases c0
          · have h1 : r = !c1 := by rw [← HR4.out]; cases c1 <;> rfl
            subst h1
            go_wp2_with (first | (go_at_call 40; refine hn1.mono ?_; rintro e w2 ⟨rfl, rfl⟩; clear hn1) | (go_at_call 42; first | (refine hA.mono ?_; rintro e w3 ⟨rfl, rfl⟩; clear hA) | (refine hL.mono ?_; rintro e w3 ⟨rfl, rfl⟩; clear hL)))
            go_meet
            exact ⟨rfl, rfl⟩
          · have h1 : r = false := by rw [← HR4.out]; rfl
            subst h1
            go_wp2_with (first | (go_at_call 40; refine hn1.mono ?_; rintro e w2 ⟨rfl, rfl⟩; clear hn1) | (go_at_call 42; refine hA.mono ?_; rintro e w3 ⟨rfl, rfl⟩; clear hA))
            go_meet
            exact ⟨rfl, rfl⟩
        case rest =>
        obtain ⟨rfl, rfl⟩ := hcut
        clear hn1 fF lF
        have HOK := Lib.hid (show (tc && (ss.take (j + 1)).all srcOk) = r by rw [HALL.out, ← Bool.and_assoc, HT0.out, HR.out])
        clear HALL HT0 HR
        have fT := cells2V HB1.out.2.1
        have lT := lt_of_blk HB1.out.2.1
        have fF := cells4L HB1.out.2.2
        have lF := lt_of_blk HB1.out.2.2
        have hbw1 : b1 < W1.heap.size := by
          obtain ⟨e0, _⟩ := HRd.out W1 HB1.out.1 j hlt2
          exact World.block_lt_of_cell? W1 _ e0
        obtain ⟨t21, ht21⟩ : ∃ t, decide (prevS ss j ≠ prevS ss (j + 1)) = t := ⟨_, rfl⟩
        have HT21 := Lib.hid ht21
        clear ht21
        go_upto_region 21 with fail
        go_cut [145] (fun v wx => v = .bool t21 ∧ Hid (Below W1.heap.size W1 wx))
        case first =>
          have hx := fun (x : Grow W1) => x.cell
          by_cases h0 : j = 0
          · have h1 : t21 = true := by rw [← HT21.out, prevS_succ hlt2]; simp [prevS, h0]
            have h2 : ((j : Int) == 0) = true := by rw [h0]; rfl
            subst h1
            clear h0
            refine wp_region_grow (by kernel_rfl) (by kernel_rfl) ?_
            repeat (go_big_quiet_step (fail))
            refine wpQuiet_nil ?_
            rintro _ ⟨x, rfl⟩
            have hb := Lib.hid x.below
            clear hx
            go_wp2_with fail
            go_meet
            exact ⟨rfl, hb⟩
          · have h2 : ((j : Int) == 0) = false := beq_eq_false_iff_ne.2 (by omega)
            have hlt3 : j - 1 < ss.length := by omega
            obtain ⟨e0, e1, e2, e3⟩ := HRd.out W1 HB1.out.1 (j - 1) hlt3
            have hyj : ss[j] = (cn, mt, tx, at_) := HY.out
            have hd : t21 = (ss[j - 1].1 != cn || ss[j - 1].2.1 != mt) := by
              rw [← HT21.out, prevS_succ hlt2, hyj]
              have : prevS ss j = some (keyS ss[j - 1]) := by unfold prevS; rw [if_neg h0, List.getElem?_eq_getElem hlt3]; rfl
              rw [this, like_dec, Bool.not_and]
              rfl
            have hw2 : IntKind.i64.wrap ((j : Int) - 1) = ((j - 1 : Nat) : Int) := by rw [IntKind.wrap_i64]; omega
            have hlj : ((j - 1 : Nat) : Int) < (ss.length : Int) := by omega
            generalize ss[j - 1] = y0 at *
            obtain ⟨cn0, mt0, tx0, at0⟩ := y0
            dsimp only at e0 e1 e2 e3 hd
            obtain ⟨ra, hra⟩ : ∃ r, (cn0 != cn) = r := ⟨_, rfl⟩
            have hra2 : (cn0 == cn) = !ra := by rw [← hra]; simp [bne]
            rw [hra] at hd
            obtain ⟨jm, hjm⟩ : ∃ jm, j - 1 = jm := ⟨_, rfl⟩
            rw [hjm] at hw2 hlj e0 e1 e2 e3
            clear h0 hlt3 hjm hyj
            cases ra
            · have h1 : t21 = (mt0 != mt) := by rw [hd]; rfl
              subst h1
              clear hd
              refine wp_region_grow (by kernel_rfl) (by kernel_rfl) ?_
              repeat (go_big_quiet_step (fail))
              refine wpQuiet_nil ?_
              rintro _ ⟨x, rfl⟩
              have hb := Lib.hid x.below
              clear hx
              go_wp2_with fail
              go_meet
              exact ⟨rfl, hb⟩
            · have h1 : t21 = true := by rw [hd]; rfl
              subst h1
              clear hd
              refine wp_region_grow (by kernel_rfl) (by kernel_rfl) ?_
              repeat (go_big_quiet_step (fail))
              refine wpQuiet_nil ?_
              rintro _ ⟨x, rfl⟩
              have hb := Lib.hid x.below
              clear hx
              go_wp2_with fail
              go_meet
              exact ⟨rfl, hb⟩
        case rest =>
        obtain ⟨rfl, HBc⟩ := hcut
        have HB2 := Lib.hid (show Below w.heap.size w wc ∧ wc.heap[T]? = some (.cells #[.slice Ac fs.length cc, .slice (some ⟨b1, o, none⟩) ss.length cs'] 45 (0, 0)) ∧ wc.heap[F]? = some (.cells #[.string (mkB cn), .bool mt, .string (mkB tx), .int .i64 at_] 76 (0, 0)) from ⟨HB1.out.1.trans (HBc.out.mono HB1.out.1.size), (HBc.out.block _ (lt_of_blk HB1.out.2.1)).trans HB1.out.2.1, (HBc.out.block _ (lt_of_blk HB1.out.2.2)).trans HB1.out.2.2⟩)
        clear fT lT fF lF HB1 HBc hbw1
        have fF := cells4L HB2.out.2.2
        have lF := lt_of_blk HB2.out.2.2
        go_upto_if 145 with fail
        go_cut [4] (fun v wx => ∃ s2 : List UInt8, v = .string (mkB s2) ∧ wc = wx ∧ s2.length ≤ s.length + 33554432 ∧ Hid (s2 ++ (dblE tx ++ 33 :: 10 :: srcsW (prevS ss (j + 1)) (ss.drop (j + 1))) = unitW cs ss))
        case first =>
          cases t21
          · have hp1 : prevS ss j = prevS ss (j + 1) := by have := HT21.out; rw [decide_eq_false_iff_not] at this; exact Decidable.not_not.1 this
            have HP3 := HP2.out
            rw [if_pos hp1, List.nil_append] at HP3
            have HP3 := Lib.hid HP3
            clear hp1
            go_wp2_with fail
            go_meet
            exact ⟨s, rfl, rfl, by omega, HP3⟩
          · have hp1 : ¬ prevS ss j = prevS ss (j + 1) := by have := HT21.out; rw [decide_eq_true_eq] at this; exact this
            have HP3 := HP2.out
            rw [if_neg hp1, ← List.append_assoc] at HP3
            have HP3 := Lib.hid HP3
            clear hp1
            by_cases h0 : j = 0
            · have hcd : closeD (prevS ss j) = [] := by simp [closeD, prevS, h0]
              have h0i : ¬ (0 : Int) < (j : Int) := by omega
              have HCD := Lib.hid hcd
              clear h0 hcd
              cases mt
              · go_wp2_with fail
                go_meet
                refine ⟨_, ?_, rfl, ?_, HP3⟩
                · rw [HCD.out]
                  apply congrArg Value.string
                  apply ByteArray.ext
                  simp [hdW, hdT]
                · rw [HCD.out]
                  simp [hdW, hdT]
                  omega
              · go_wp2_with fail
                go_meet
                refine ⟨_, ?_, rfl, ?_, HP3⟩
                · rw [HCD.out]
                  apply congrArg Value.string
                  apply ByteArray.ext
                  simp [hdW, hdT]
                · rw [HCD.out]
                  simp [hdW, hdT]
                  omega
            · have hcd : closeD (prevS ss j) = [32, 33, 10] := by
                unfold closeD prevS
                rw [if_neg h0, List.getElem?_eq_getElem (show j - 1 < ss.length by omega)]
                rfl
              have h0i : (0 : Int) < (j : Int) := by omega
              have HCD := Lib.hid hcd
              clear h0 hcd
              cases mt
              · go_wp2_with fail
                go_meet
                refine ⟨_, ?_, rfl, ?_, HP3⟩
                · rw [HCD.out]
                  apply congrArg Value.string
                  apply ByteArray.ext
                  simp [hdW, hdT]
                · rw [HCD.out]
                  simp [hdW, hdT]
                  omega
              · go_wp2_with fail
                go_meet
                refine ⟨_, ?_, rfl, ?_, HP3⟩
                · rw [HCD.out]
                  apply congrArg Value.string
                  apply ByteArray.ext
                  simp [hdW, hdT]
                · rw [HCD.out]
                  simp [hdW, hdT]
                  omega
        case rest =>
        obtain ⟨s2', rfl, rfl, hs2l, HP3⟩ := hcut
        clear fF lF
        go_wp2_with fail
        go_loopw [4, 12] (fun vs vk wr => ∃ k : Nat, k ≤ tx.length ∧ vs = .string (mkB (s2' ++ dblE (tx.take k))) ∧ vk = .int .i64 (k : Int) ∧ wc = wr) (fun _ vk _ => tx.length - (intOf vk).toNat)
        case atStart => exact ⟨0, Nat.zero_le _, by simp [dblE], rfl, rfl⟩
        case round =>
          obtain ⟨k, hk, rfl, rfl, rfl⟩ := hrel
          have fF := cells4L HB2.out.2.2
          have lF := lt_of_blk HB2.out.2.2
          have hdl : (dblE (tx.take k)).length ≤ 16777216 := by
            have := dblE_le (tx.take k)
            rw [List.length_take] at this
            omega
          by_cases hlk : k < tx.length
          case pos =>
            have hqk : (k : Int) < (tx.length : Int) := by omega
            have hkb : k < (mkB tx).size := by rw [mkL_size]; exact hlk
            have hck : (mkB tx)[k]'hkb = tx[k] := rfl
            have hex : (mkB tx).extract k (k + 1) = mkB [tx[k]] := by
              apply ByteArray.ext
              apply Array.ext'
              simp
              rw [List.drop_eq_getElem_cons hlk]; rfl
            have hdt : dblE (tx.take (k + 1)) = dblE (tx.take k) ++ (if tx[k] = 33 then [33, 33] else [tx[k]]) := by
              rw [List.take_succ_eq_append_getElem hlk, dblE_snoc]
            have HDT := Lib.hid hdt
            have HEX := Lib.hid hex
            clear hdt hex
            generalize dblE (tx.take k) = dk at *
            by_cases h33 : tx[k] = 33
            · have hb33 : ((((mkB tx)[k]'hkb).toNat : Int) == 33) = true := by rw [hck, h33]; rfl
              have HD2 := Lib.hid (show dblE (tx.take (k + 1)) = dk ++ [33, 33] by rw [HDT.out, if_pos h33])
              have HE2 := Lib.hid (show (mkB tx).extract k (k + 1) = mkB [33] by rw [HEX.out, h33])
              clear hck h33 HDT HEX
              go_wp2_with fail
              go_roundw
              case rel =>
                refine ⟨k + 1, by omega, ?_, by simp, by trivial⟩
                rw [HD2.out]
                apply congrArg Value.string
                try rw [HE2.out]
                apply ByteArray.ext
                simp
              case measure => simp [intOf]; omega
            · have hb33 : ((((mkB tx)[k]'hkb).toNat : Int) == 33) = false := by
                rw [hck, beq_eq_false_iff_ne]
                intro e
                exact h33 (UInt8.toNat_inj.1 (by have : tx[k].toNat = 33 := by omega
                                                 rw [this]; rfl))
              have HD2 := Lib.hid (show dblE (tx.take (k + 1)) = dk ++ [tx[k]] by rw [HDT.out, if_neg h33])
              clear hck h33 HDT
              go_wp2_with fail
              go_roundw
              case rel =>
                refine ⟨k + 1, by omega, ?_, by simp, by trivial⟩
                rw [HD2.out]
                apply congrArg Value.string
                try rw [HEX.out]
                apply ByteArray.ext
                simp
              case measure => simp [intOf]; omega
          have hqk : ¬ (k : Int) < (tx.length : Int) := by omega
          have HD3 := Lib.hid (show dblE (tx.take k) = dblE tx by rw [List.take_of_length_le (by omega)])
          have hdl2 : (dblE tx).length ≤ 16777216 := by have := dblE_le tx; omega
          generalize dblE (tx.take k) = dk at *
          go_wp2_with fail
          go_roundw
          case rel =>
            refine ⟨j + 1, (s2' ++ dblE tx) ++ [33, 10], by omega, ?_, by rw [← HOK.out], by simp, ?_, Lib.hid ?_, Lib.hid ⟨HB2.out.1, HB2.out.2.1⟩⟩
            · rw [HD3.out]
              apply congrArg Value.string
              apply ByteArray.ext
              simp
            · simp only [List.length_append, List.length_cons, List.length_nil]
              omega
            · rw [← HP3.out]; simp
          case measure => simp [intOf]; omega
    have hq : (i : Int) < (fs.length : Int) := by omega
    have hcw := clssW_take (cs := cs) (i := i) (by omega)
    have hca : (cs.take (i + 1)).all okC = ((cs.take i).all okC && okC (cs[i]'(by omega))) := by rw [List.take_succ_eq_append_getElem (by omega), List.all_append]; simp
    obtain ⟨b1, o, rfl, hbb, d0, d1, d2, d3⟩ := rdC_at (HRC.out.below HB.out.1 (Nat.le_refl _)) hlt
    obtain ⟨Af, cf, hvf, hfc, hAf, hrf⟩ := HFI.out fs[i] (List.getElem_mem hlt)
    obtain ⟨s1, s2, s3, s4, s5⟩ := HC.out fs[i] (List.getElem_mem hlt)
    have hci : cs[i]'(by omega) = fs[i].1 := by
      have h1 : cs[i]? = (fs.map fun x => x.1)[i]? := by rw [HCS.out]
      rw [List.getElem?_map, List.getElem?_eq_getElem hlt, List.getElem?_eq_getElem (by omega)] at h1
      exact Option.some.inj h1
    rw [hci] at hcw hca
    obtain ⟨⟨⟨nm, sp, fl, at_⟩, vf⟩, hy⟩ : ∃ y, fs[i] = y := ⟨_, rfl⟩
    rw [hy] at d0 d1 d2 d3 hvf hfc hAf hrf hcw hca s1 s2 s3 s4 s5
    dsimp only at d0 d1 d2 d3 hvf hfc hAf hrf hcw hca s1 s2 s3 s4 s5
    subst hvf
    have hbw : b1 < wr.heap.size := Nat.lt_of_lt_of_le hbb HB.out.1.size
    have HCW := Lib.hid hcw
    have HCA := Lib.hid hca
    have HRF := Lib.hid hrf
    have H3 := Lib.hid s3
    generalize clssW (cs.take i) = s at *
    generalize (cs.take i).all okC = t0 at *
    clear hy hcw hca hrf s3 hAf hci
    go_upto_region 7 with fail
    obtain ⟨W1, hW1⟩ : ∃ W1, wr.alloc (.cells #[.string (mkB nm), .string (mkB sp), .slice Af fl.length cf, .int .i64 at_] 75) = W1 := ⟨_, rfl⟩
    obtain ⟨F, hF⟩ : ∃ F, wr.heap.size = F := ⟨_, rfl⟩
    have hs : W1.heap[F]? = some (.cells #[.string (mkB nm), .string (mkB sp), .slice Af fl.length cf, .int .i64 at_] 75 (0, 0)) := by rw [← hW1, ← hF]; exact heap_alloc_new wr _
    have hb1 : Below wr.heap.size wr W1 := by rw [← hW1]; exact (Below.refl _ _).alloc (Nat.le_refl _) _
    try rw [hW1]
    try simp only [hF]
    have HB1 := Lib.hid (show Below w.heap.size w W1 ∧ W1.heap[T]? = some (.cells #[.slice (some ⟨b1, o, none⟩) fs.length cc, .slice As ss.length cs'] 45 (0, 0)) ∧ W1.heap[F]? = some (.cells #[.string (mkB nm), .string (mkB sp), .slice Af fl.length cf, .int .i64 at_] 75 (0, 0)) from ⟨HB.out.1.trans (hb1.mono HB.out.1.size), (hb1.block _ (lt_of_blk HB.out.2)).trans HB.out.2, hs⟩)
    clear hW1 hb1 hs hF d0 d1 d2 d3 HB f1 l1 hbb hbw
    have fF := cells4L HB1.out.2.2
    have lF := lt_of_blk HB1.out.2.2
    have hn1 := rnamed_any (mkB nm) W1 (by rw [mkL_size]; exact s1)
    have hn2 := rnamed_any (mkB sp) W1 (by rw [mkL_size]; exact s2)
    obtain ⟨r, hr⟩ : ∃ r, (t0 && (arityL (mkB nm) == 0 && (sp == [] || (arityL (mkB sp) == 0 && sp != nilL)))) = r := ⟨_, rfl⟩
    have HR := Lib.hid hr
    clear hr
    go_cut [5] (fun v wx => v = .bool r ∧ W1 = wx)
    case first =>
      obtain ⟨t1, ht1⟩ : ∃ t, (arityL (mkB nm) == 0) = t := ⟨_, rfl⟩
      obtain ⟨t2, ht2⟩ : ∃ t, (sp == []) = t := ⟨_, rfl⟩
      obtain ⟨t3, ht3⟩ : ∃ t, (arityL (mkB sp) == 0) = t := ⟨_, rfl⟩
      obtain ⟨t4, ht4⟩ : ∃ t, (sp == [110, 105, 108]) = t := ⟨_, rfl⟩
      have ht4' : (sp != nilL) = !t4 := by rw [← ht4]; rfl
      have HR2 := HR.out
      rw [ht1, ht2, ht3, ht4'] at HR2
      rw [ht1] at hn1
      rw [ht3] at hn2
      have h42 : t4 = true → t2 = false := fun h => by rw [h, beq_iff_eq] at ht4; rw [← ht2, ht4]; rfl
      have HR3 := Lib.hid (And.intro HR2 h42)
      clear HR HR2 ht1 ht3 ht4' h42
      cases t0
      · have h1 : r = false := by rw [← HR3.out.1]; rfl
        subst h1
        go_wp2_with fail
        go_meet
        exact ⟨rfl, rfl⟩
      cases t1
      · have h1 : r = false := by rw [← HR3.out.1]; rfl
        subst h1
        go_wp2_with (go_at_call 40; refine hn1.mono ?_; rintro e w2 ⟨rfl, rfl⟩; clear hn1)
        go_meet
        exact ⟨rfl, rfl⟩
      cases t4
      · cases t2
        · have h1 : r = t3 := by rw [← HR3.out.1]; cases t3 <;> rfl
          subst h1
          go_wp2_with (first | (go_at_call 40; refine hn1.mono ?_; rintro e w2 ⟨rfl, rfl⟩; clear hn1) | (go_at_call 40; refine hn2.mono ?_; rintro e w2 ⟨rfl, rfl⟩; clear hn2))
          go_meet
          exact ⟨rfl, rfl⟩
        · have h1 : r = true := by rw [← HR3.out.1]; rfl
          subst h1
          go_wp2_with (go_at_call 40; refine hn1.mono ?_; rintro e w2 ⟨rfl, rfl⟩; clear hn1)
          go_meet
          exact ⟨rfl, rfl⟩
      · have h2 := HR3.out.2 rfl
        subst h2
        have h1 : r = false := by rw [← HR3.out.1]; cases t3 <;> rfl
        subst h1
        go_wp2_with (go_at_call 40; refine hn1.mono ?_; rintro e w2 ⟨rfl, rfl⟩; clear hn1)
        go_meet
        exact ⟨rfl, rfl⟩
    case rest =>
    obtain ⟨rfl, rfl⟩ := hcut
    clear hn1 hn2 fF lF
    have HOK := Lib.hid (show (cs.take (i + 1)).all okC = (r && namesOk fl) by
      rw [HCA.out, ← HR.out]
      unfold okC isClassR
      simp only [Bool.and_assoc])
    clear HCA HR
    obtain ⟨Af2, hAf2⟩ : ∃ A, A = Af := ⟨_, rfl⟩
    rw [← hAf2] at HB1 HRF
    have HAf := Lib.hid hAf2
    go_wp2_with fail
    try rw [← hAf2]
    clear hAf2
    go_loopw [5, 8] (fun vo vk wr => ∃ k : Nat, k ≤ fl.length ∧ vo = .bool (r && namesOk (fl.take k)) ∧ vk = .int .i64 (k : Int) ∧ W1 = wr) (fun _ vk _ => fl.length - (intOf vk).toNat)
    case atStart => exact ⟨0, Nat.zero_le _, by simp [namesOk], rfl, rfl⟩
    case round =>
      obtain ⟨k, hk, rfl, rfl, rfl⟩ := hrel
      have fF := cells4L HB1.out.2.2
      have lF := lt_of_blk HB1.out.2.2
      by_cases hlk : k < fl.length
      case pos =>
        have hqk : (k : Int) < (fl.length : Int) := by omega
        obtain ⟨b2, o2, hA2, hb2, hcell⟩ := rdS_at (HRF.out.below HB1.out.1 (Nat.le_refl _)) hlk
        have hbw2 : b2 < W1.heap.size := Nat.lt_of_lt_of_le hb2 HB1.out.1.size
        have hxk := H3.out fl[k] (List.getElem_mem hlk)
        have hnk := rnamed_any (mkB fl[k]) W1 (by rw [mkL_size]; exact hxk)
        have hmo := namesOk_more fl hlk
        obtain ⟨t, ht⟩ : ∃ t, (arityL (mkB fl[k]) == 0) = t := ⟨_, rfl⟩
        rw [ht] at hnk hmo
        have HMO := Lib.hid hmo
        obtain ⟨u, hu⟩ : ∃ u, (r && namesOk (fl.take k)) = u := ⟨_, rfl⟩
        have HU := Lib.hid hu
        rw [hA2] at fF
        rw [hu]
        clear hmo hu ht
        cases u
        · go_wp2_with fail
          go_roundw
          case rel => exact ⟨k + 1, by omega, by rw [HMO.out, ← Bool.and_assoc, HU.out]; rfl, by simp, by trivial⟩
          case measure => simp [intOf]; omega
        · go_wp2_with (go_at_call 40; refine hnk.mono ?_; rintro e w2 ⟨rfl, rfl⟩; clear hnk)
          go_roundw
          case rel => exact ⟨k + 1, by omega, by rw [HMO.out, ← Bool.and_assoc, HU.out]; rfl, by simp, by trivial⟩
          case measure => simp [intOf]; omega
      have hqk : ¬ (k : Int) < (fl.length : Int) := by omega
      rw [List.take_of_length_le (show fl.length ≤ k by omega)]
      by_cases he : sp = []
      case pos =>
        subst he
        have hq2 : (([] : List UInt8) == []) = true := rfl
        go_upto_region 15 with fail
        have hj := fun (x : Grow W1) => Calls.mono (rjoin_any fl Af2 cf w.heap.size x.w (HRF.out.below (HB1.out.1.trans (x.below.mono HB1.out.1.size)) (Nat.le_refl _)) (Nat.le_trans HB1.out.1.size x.below.size) hfc s4 (by omega) H3.out) (R' := fun e w' => e = .returned (.string (mkB (fldW fl))) ∧ Below x.w.heap.size x.w w') (by rintro e w' ⟨rfl, rfl⟩; exact ⟨rfl, Below.refl _ _⟩)
        have hx := fun (x : Grow W1) => x.cell
        refine wp_region_grow (by kernel_rfl) (by kernel_rfl) ?_
        repeat (go_big_quiet_step ((go_at_call 41; exact Grow.call _ (hj _))))
        refine wpQuiet_nil ?_
        rintro _ ⟨x, rfl⟩
        have hb := Lib.hid x.below
        have HB2 := Lib.hid (show Below w.heap.size w x.w ∧ x.w.heap[T]? = some (.cells #[.slice (some ⟨b1, o, none⟩) fs.length cc, .slice As ss.length cs'] 45 (0, 0)) from ⟨HB1.out.1.trans (hb.out.mono HB1.out.1.size), (hb.out.block _ (lt_of_blk HB1.out.2.1)).trans HB1.out.2.1⟩)
        clear hx hj
        go_wp2_with fail
        go_roundw
        case rel =>
          refine ⟨i + 1, by omega, ?_, ?_, by simp, HB2⟩
          · rw [HCW.out]
            apply congrArg Value.string
            apply ByteArray.ext
            simp [clsW, clsT, superW]
          · rw [HOK.out]
        case measure => simp [intOf]; omega
      case neg =>
        have hq2 : (sp == []) = false := beq_eq_false_iff_ne.2 he
        have hsup : superW sp = sp := if_neg he
        have HSUP := Lib.hid hsup
        clear he hsup
        go_upto_region 15 with fail
        have hsup := HSUP.out
        have hj := fun (x : Grow W1) => Calls.mono (rjoin_any fl Af2 cf w.heap.size x.w (HRF.out.below (HB1.out.1.trans (x.below.mono HB1.out.1.size)) (Nat.le_refl _)) (Nat.le_trans HB1.out.1.size x.below.size) hfc s4 (by omega) H3.out) (R' := fun e w' => e = .returned (.string (mkB (fldW fl))) ∧ Below x.w.heap.size x.w w') (by rintro e w' ⟨rfl, rfl⟩; exact ⟨rfl, Below.refl _ _⟩)
        have hx := fun (x : Grow W1) => x.cell
        refine wp_region_grow (by kernel_rfl) (by kernel_rfl) ?_
        repeat (go_big_quiet_step ((go_at_call 41; exact Grow.call _ (hj _))))
        refine wpQuiet_nil ?_
        rintro _ ⟨x, rfl⟩
        have hb := Lib.hid x.below
        have HB2 := Lib.hid (show Below w.heap.size w x.w ∧ x.w.heap[T]? = some (.cells #[.slice (some ⟨b1, o, none⟩) fs.length cc, .slice As ss.length cs'] 45 (0, 0)) from ⟨HB1.out.1.trans (hb.out.mono HB1.out.1.size), (hb.out.block _ (lt_of_blk HB1.out.2.1)).trans HB1.out.2.1⟩)
        clear hx hj
        go_wp2_with fail
        go_roundw
        case rel =>
          refine ⟨i + 1, by omega, ?_, ?_, by simp, HB2⟩
          · rw [HCW.out]
            apply congrArg Value.string
            apply ByteArray.ext
            simp [clsW, clsT, hsup]
          · rw [HOK.out]
        case measure => simp [intOf]; omega
end Go.Proofs.YtmdkneollidkfaaGreatDoor.Fl
