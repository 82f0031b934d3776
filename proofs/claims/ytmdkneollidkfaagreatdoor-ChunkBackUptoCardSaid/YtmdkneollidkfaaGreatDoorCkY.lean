/-
  The document's Same, of units that are the same.
-/
import Derived.Test.YtmdkneollidkfaaGreatDoorCkW
import Derived.Test.YtmdkneollidkfaaGreatDoorLxF
namespace Go.Proofs.YtmdkneollidkfaaGreatDoor.Fl
open Go.RowKit Go.Shelf

def nA (x : Cls × Value) : List UInt8 × List UInt8 × List (List UInt8) := (x.1.1, x.1.2.1, x.1.2.2.1)
def nS (x : Src) : List UInt8 × Bool × List UInt8 := (x.1, x.2.1, x.2.2.1)
theorem rdS_len {w : World} {B : Nat} {A : Option Addr} {xs : List (List UInt8)} (h : Rd w B A (cs_ xs)) {k : Nat} (hk : k < xs.length) : ∃ b off, A = some ⟨b, off, none⟩ ∧ b < B ∧ w.cell? ⟨b, off + k, none⟩ = some (.string (mkB xs[k])) := rdS_at h hk
set_option maxRecDepth 100000 in
set_option maxHeartbeats 8000000 in
theorem same_true (w : World) (v0 v1 u0 u1 : Value) (fs fs' : List (Cls × Value)) (ss ss' : List Src) (h : UnAt w w.heap.size v0 v1 fs ss) (h' : UnAt w w.heap.size u0 u1 fs' ss') (hc : fs.map nA = fs'.map nA) (hx : ss.map nS = ss'.map nS) (hl : fs.length + ss.length ≤ 16777216) (hf : ∀ x ∈ fs, x.1.2.2.1.length ≤ 16777216) :
    Calls Tryz.prog 19 #[.agg #[v0, v1], .agg #[u0, u1]] w fun e w' => e = .returned (.bool true) ∧ Below w.heap.size w w' := by
  obtain ⟨⟨A, c, rfl, hcc, hrc⟩, ⟨As, cs, rfl, hcs, hrs⟩, hfi⟩ := h
  obtain ⟨⟨A', c', rfl, hcc', hrc'⟩, ⟨As', cs', rfl, hcs', hrs'⟩, hfi'⟩ := h'
  have hn : fs'.length = fs.length := by have := congrArg List.length hc; simpa using this.symm
  have hn2 : ss'.length = ss.length := by have := congrArg List.length hx; simpa using this.symm
  obtain ⟨W, hW⟩ : ∃ W, (w.alloc (.cells #[.slice A fs.length c, .slice As ss.length cs] 45)).alloc (.cells #[.slice A' fs'.length c', .slice As' ss'.length cs'] 45) = W := ⟨_, rfl⟩
  have q2 : W.heap[w.heap.size + 1]? = some (.cells #[.slice A' fs'.length c', .slice As' ss'.length cs'] 45 (0, 0)) := by
    rw [← hW, ← World.size_alloc w (.cells #[.slice A fs.length c, .slice As ss.length cs] 45)]; exact heap_alloc_new _ _
  have q1 : W.heap[w.heap.size]? = some (.cells #[.slice A fs.length c, .slice As ss.length cs] 45 (0, 0)) := by
    rw [← hW]; exact (Below.heap_alloc _ _ _ (by rw [World.size_alloc]; omega)).trans (heap_alloc_new w _)
  have hb : Below w.heap.size w W := by rw [← hW]; exact ((Below.refl _ w).alloc (Nat.le_refl _) _).alloc (by rw [World.size_alloc]; omega) _
  rw [hn, hn2] at q2
  have f1 := cells2V q1
  have f2 := cells2V q2
  have hlb : ((fs.length : Int) != (fs.length : Int)) = false := by simp
  have hlb2 : ((ss.length : Int) != (ss.length : Int)) = false := by simp
  have HRC := Lib.hid (hrc.below hb (Nat.le_refl _))
  have HRC' := Lib.hid (hrc'.below hb (Nat.le_refl _))
  have HRS := Lib.hid (hrs.below hb (Nat.le_refl _))
  have HRS' := Lib.hid (hrs'.below hb (Nat.le_refl _))
  have HFI := Lib.hid (And.intro hfi hfi')
  have HFL := Lib.hid hf
  have HB := Lib.hid hb
  have HC := Lib.hid (And.intro hc hx)
  have HN := Lib.hid (And.intro hn hn2)
  rw [hn, hn2] at hW
  rw [hn, hn2]
  have hsz := hb.size
  clear hrc hrc' hrs hrs' hfi hfi' hf hc hx hn hn2 hb
  go_enter Tryz.func19, Tryz.ntmps19
  go_wp2_with fail
  clear hW
  obtain ⟨T, hT⟩ : ∃ T, w.heap.size = T := ⟨_, rfl⟩
  simp only [hT] at f1 f2 ⊢
  have HQ := Lib.hid (And.intro q1 q2)
  clear q1 q2
  have l1 := lt_of_blk HQ.out.1
  have l2 := lt_of_blk HQ.out.2
  rw [hT] at HQ
  have HTT := Lib.hid hT
  clear f1 f2 hT
  have lT1 := lt_of_blk HQ.out.1
  have lT2 := lt_of_blk HQ.out.2
  clear l1 l2
  go_loopw [5] (fun v wr => ∃ i : Nat, i ≤ fs.length ∧ v = .int .i64 (i : Int) ∧ Hid (Below W.heap.size W wr)) (fun v _ => fs.length - (intOf v).toNat)
  case atStart => exact ⟨0, Nat.zero_le _, rfl, Lib.hid (Below.refl _ _)⟩
  case round =>
    obtain ⟨i, hi, rfl, HW⟩ := hrel
    have hq1 := (HW.out.block T lT1).trans HQ.out.1
    have hq2 := (HW.out.block (T + 1) lT2).trans HQ.out.2
    have f1 := cells2V hq1
    have f2 := cells2V hq2
    have l1 := lt_of_blk hq1
    have l2 := lt_of_blk hq2
    by_cases hlt : i < fs.length
    case neg =>
      have hq : ¬ ((i : Int) < (fs.length : Int)) := by omega
      go_wp2_with fail
      go_loopw [9] (fun v wr => ∃ j : Nat, j ≤ ss.length ∧ v = .int .i64 (j : Int) ∧ Hid (Below W.heap.size W wr)) (fun v _ => ss.length - (intOf v).toNat)
      case atStart => exact ⟨0, Nat.zero_le _, rfl, HW⟩
      case round =>
        clear HW hq1 hq2 f1 f2 l1 l2
        obtain ⟨j, hj, rfl, HW⟩ := hrel
        have hq1 := (HW.out.block T lT1).trans HQ.out.1
        have hq2 := (HW.out.block (T + 1) lT2).trans HQ.out.2
        have f1 := cells2V hq1
        have f2 := cells2V hq2
        have l1 := lt_of_blk hq1
        have l2 := lt_of_blk hq2
        by_cases hlt2 : j < ss.length
        case neg =>
          have hqj : ¬ ((j : Int) < (ss.length : Int)) := by omega
          go_wp2_with fail
          go_ret
          exact ⟨rfl, HB.out.trans (HW.out.mono HB.out.size)⟩
        have hqj : (j : Int) < (ss.length : Int) := by omega
        have hlt3 : j < ss'.length := by have := HN.out.2; omega
        have hbw0 : w.heap.size ≤ W.heap.size := HB.out.size
        have hBw : Below w.heap.size W wr := HW.out.mono hbw0
        obtain ⟨b, o, rfl, hbb, d0, d1, d2, _⟩ := rdX_at (HRS.out.below hBw (Nat.le_refl _)) hlt2
        obtain ⟨b', o', rfl, hbb', e0, e1, e2, _⟩ := rdX_at (HRS'.out.below hBw (Nat.le_refl _)) hlt3
        have hxy : nS ss[j] = nS ss'[j] := by
          have h1 := congrArg (fun l => l[j]?) HC.out.2
          simp only [List.getElem?_map, List.getElem?_eq_getElem hlt2, List.getElem?_eq_getElem hlt3, Option.map_some] at h1
          exact Option.some.inj h1
        unfold nS at hxy
        injection hxy with hx1 hx2
        injection hx2 with hx2 hx3
        rw [← hx1] at e0
        rw [← hx2] at e1
        rw [← hx3] at e2
        generalize ss[j].1 = cn at *
        generalize ss[j].2.1 = mt at *
        generalize ss[j].2.2.1 = tx at *
        have g1 : (cn != cn) = false := by simp
        have g2 : (mt != mt) = false := by simp
        have g3 : (tx != tx) = false := by simp
        have hbw : b < wr.heap.size := by have := HW.out.size; omega
        have hbw' : b' < wr.heap.size := by have := HW.out.size; omega
        have HBn : ∀ n, Hid (Below W.heap.size W (wr.drewN n)) := fun n => Lib.hid (_root_.Go.below_drewN HW.out n)
        clear hx1 hx2 hx3 hBw hbw0 hbb hbb'
        go_upto_region 18 with fail
        go_quiet (fail)
        go_wp2_with fail
        go_roundw
        case rel => exact ⟨j + 1, by omega, rfl, HBn _⟩
        case measure => simp [intOf]; omega
    have hq : (i : Int) < (fs.length : Int) := by omega
    have hlt3 : i < fs'.length := by have := HN.out.1; omega
    have hBw : Below w.heap.size W wr := HW.out.mono HB.out.size
    obtain ⟨b, o, rfl, hbb, d0, d1, d2, d3⟩ := rdC_at (HRC.out.below hBw (Nat.le_refl _)) hlt
    obtain ⟨b', o', rfl, hbb', e0, e1, e2, e3⟩ := rdC_at (HRC'.out.below hBw (Nat.le_refl _)) hlt3
    obtain ⟨Af, cf, hvf, hfc, _, hrf⟩ := HFI.out.1 fs[i] (List.getElem_mem hlt)
    obtain ⟨Af', cf', hvf', hfc', _, hrf'⟩ := HFI.out.2 fs'[i] (List.getElem_mem hlt3)
    have hfl := HFL.out fs[i] (List.getElem_mem hlt)
    have hxy : nA fs[i] = nA fs'[i] := by
      have h1 := congrArg (fun l => l[i]?) HC.out.1
      simp only [List.getElem?_map, List.getElem?_eq_getElem hlt, List.getElem?_eq_getElem hlt3, Option.map_some] at h1
      exact Option.some.inj h1
    unfold nA at hxy
    injection hxy with hx1 hx2
    injection hx2 with hx2 hx3
    rw [← hx1] at e0
    rw [← hx2] at e1
    rw [← hx3] at hvf' hrf' hfc'
    rw [hvf] at d2
    rw [hvf'] at e2
    generalize fs[i].1.1 = nm at *
    generalize fs[i].1.2.1 = sp at *
    generalize fs[i].1.2.2.1 = fl at *
    generalize fs[i].1.2.2.2 = a1 at *
    generalize fs'[i].1.2.2.2 = a2 at *
    have hbw : b < wr.heap.size := by have := HW.out.size; have := HB.out.size; omega
    have hbw' : b' < wr.heap.size := by have := HW.out.size; have := HB.out.size; omega
    have HRF := Lib.hid (And.intro hrf hrf')
    clear hx1 hx2 hx3 hbb hbb' hvf hvf' hrf hrf' hBw
    obtain ⟨W2, hW2⟩ : ∃ W2, (wr.alloc (.cells #[.string (mkB nm), .string (mkB sp), .slice Af fl.length cf, .int .i64 a1] 75)).alloc (.cells #[.string (mkB nm), .string (mkB sp), .slice Af' fl.length cf', .int .i64 a2] 75) = W2 := ⟨_, rfl⟩
    have k2 : W2.heap[wr.heap.size + 1]? = some (.cells #[.string (mkB nm), .string (mkB sp), .slice Af' fl.length cf', .int .i64 a2] 75 (0, 0)) := by
      rw [← hW2, ← World.size_alloc wr (.cells #[.string (mkB nm), .string (mkB sp), .slice Af fl.length cf, .int .i64 a1] 75)]; exact heap_alloc_new _ _
    have k1 : W2.heap[wr.heap.size]? = some (.cells #[.string (mkB nm), .string (mkB sp), .slice Af fl.length cf, .int .i64 a1] 75 (0, 0)) := by
      rw [← hW2]; exact (Below.heap_alloc _ _ _ (by rw [World.size_alloc]; omega)).trans (heap_alloc_new wr _)
    have hb2 : Below wr.heap.size wr W2 := by rw [← hW2]; exact ((Below.refl _ wr).alloc (Nat.le_refl _) _).alloc (by rw [World.size_alloc]; omega) _
    have g1 : (nm != nm) = false := by simp
    have g2 : (sp != sp) = false := by simp
    have g3 : ((fl.length : Int) != (fl.length : Int)) = false := by simp
    go_upto_region 8 with fail
    clear hW2
    have HW2 := Lib.hid (HW.out.trans (hb2.mono HW.out.size))
    have HK := Lib.hid (And.intro k1 k2)
    have hsz2 := hb2.size
    obtain ⟨F, hF⟩ : ∃ F, wr.heap.size = F := ⟨_, rfl⟩
    simp only [hF] at HK ⊢
    clear k1 k2 hF hb2 hq1 hq2 f1 f2 l1 l2 d0 d1 d2 d3 e0 e1 e2 e3
    have f1 := cells4L HK.out.1
    have f2 := cells4L HK.out.2
    have l1 := lt_of_blk HK.out.1
    have l2 := lt_of_blk HK.out.2
    go_wp2_with fail
    go_loopw [8] (fun v wx => ∃ k : Nat, k ≤ fl.length ∧ v = .int .i64 (k : Int) ∧ Hid (Below W2.heap.size W2 wx)) (fun v _ => fl.length - (intOf v).toNat)
    case atStart => exact ⟨0, Nat.zero_le _, rfl, Lib.hid (Below.refl _ _)⟩
    case round =>
      clear f1 f2
      obtain ⟨k, hk, rfl, HX⟩ := hrel
      have hq1 := (HX.out.block F l1).trans HK.out.1
      have hq2 := (HX.out.block (F + 1) l2).trans HK.out.2
      have f1 := cells4L hq1
      have f2 := cells4L hq2
      have m1 := lt_of_blk hq1
      have m2 := lt_of_blk hq2
      by_cases hlk : k < fl.length
      case neg =>
        have hqk : ¬ ((k : Int) < (fl.length : Int)) := by omega
        have HE := Lib.hid (HW2.out.trans (HX.out.mono HW2.out.size))
        go_wp2_with fail
        go_roundw
        case rel => exact ⟨i + 1, by omega, rfl, HE⟩
        case measure => simp [intOf]; omega
      have hqk : (k : Int) < (fl.length : Int) := by omega
      have hBw : Below w.heap.size W wr := (HW2.out.trans (HX.out.mono HW2.out.size)).mono HB.out.size
      obtain ⟨g, p, rfl, hgg, d0⟩ := rdS_len ((HRF.out.1.below HB.out (Nat.le_refl _)).below hBw (Nat.le_refl _)) hlk
      obtain ⟨g', p', rfl, hgg', e0⟩ := rdS_len ((HRF.out.2.below HB.out (Nat.le_refl _)).below hBw (Nat.le_refl _)) hlk
      have hgw : g < wr.heap.size := by have := hBw.size; have := HB.out.size; omega
      have hgw' : g' < wr.heap.size := by have := hBw.size; have := HB.out.size; omega
      generalize fl[k] = sx at *
      have g4 : (sx != sx) = false := by simp
      have HBn : ∀ n, Hid (Below W2.heap.size W2 (wr.drewN n)) := fun n => Lib.hid (_root_.Go.below_drewN HX.out n)
      clear hgg hgg' hBw
      go_upto_region 13 with fail
      go_quiet (fail)
      go_wp2_with fail
      go_roundw
      case rel => exact ⟨k + 1, by omega, rfl, HBn _⟩
      case measure => simp [intOf]; omega
end Go.Proofs.YtmdkneollidkfaaGreatDoor.Fl

/-
  The laws' fixed fact: a class and a text.
-/
namespace Go.Proofs.YtmdkneollidkfaaGreatDoor.Fl
open Go.RowKit Go.Shelf

abbrev fixK : ByteArray := ⟨#[110, 105, 108, 32, 115, 117, 98, 99, 108, 97, 115, 115, 58, 32, 35, 79, 98, 106, 101, 99, 116, 32, 102, 105, 101, 108, 100, 115, 58, 32, 39, 39, 33, 32, 79, 98, 106, 101, 99, 116, 32, 109, 101, 116, 104, 111, 100, 115, 33, 32, 120, 32, 94, 49, 33, 32, 33]⟩
abbrev t1K : List UInt8 := [110, 105, 108, 32, 115, 117, 98, 99, 108, 97, 115, 115, 58, 32, 35, 79, 98, 106, 101, 99, 116, 32, 102, 105, 101, 108, 100, 115, 58, 32, 39, 39]
abbrev t2K : List UInt8 := [79, 98, 106, 101, 99, 116, 32, 109, 101, 116, 104, 111, 100, 115]
abbrev objL : List UInt8 := [79, 98, 106, 101, 99, 116]
theorem ch1K : chunkR fixK 0 = (t1K, 0, 33, true) := by decide +kernel
theorem ch2K : chunkR fixK 33 = (t2K, 34, 49, true) := by decide +kernel
theorem ch3K : chunkR fixK 49 = ([120, 32, 94, 49], 50, 55, true) := by decide +kernel
theorem ch4K : chunkR fixK 55 = ([], 56, 57, true) := by decide +kernel
theorem ch5K : chunkR fixK 57 = ([], 57, 58, false) := by decide +kernel
abbrev l1K : List Tok := [(1, [110, 105, 108], 0, 0), (2, subL, 0, 4), (5, objL, 0, 14), (2, fldL, 0, 22), (4, [], 0, 30), (0, [], 0, 32)]
abbrev l2K : List Tok := [(1, objL, 0, 0), (1, methL, 0, 7), (0, [], 0, 14)]
theorem al1K : allW (mkB t1K) 0 = .inl l1K :=
  allW_cons (by decide +kernel) (show tokR (mkB t1K) 0 = .inl (1, [110, 105, 108], 0, 0, 3) by decide +kernel) (by decide) (allW_cons (by decide +kernel) (show tokR (mkB t1K) 3 = .inl (2, subL, 0, 4, 13) by decide +kernel) (by decide)
    (allW_cons (by decide +kernel) (show tokR (mkB t1K) 13 = .inl (5, objL, 0, 14, 21) by decide +kernel) (by decide) (allW_cons (by decide +kernel) (show tokR (mkB t1K) 21 = .inl (2, fldL, 0, 22, 29) by decide +kernel) (by decide)
      (allW_cons (by decide +kernel) (show tokR (mkB t1K) 29 = .inl (4, [], 0, 30, 32) by decide +kernel) (by decide) (allW_end (show tokR (mkB t1K) 32 = .inl (0, [], 0, 32, 32) by decide +kernel))))))
theorem al2K : allW (mkB t2K) 0 = .inl l2K :=
  allW_cons (by decide +kernel) (show tokR (mkB t2K) 0 = .inl (1, objL, 0, 0, 6) by decide +kernel) (by decide) (allW_cons (by decide +kernel) (show tokR (mkB t2K) 6 = .inl (1, methL, 0, 7, 14) by decide +kernel) (by decide)
    (allW_end (show tokR (mkB t2K) 14 = .inl (0, [], 0, 14, 14) by decide +kernel)))
theorem cl1K : clsR l1K (0 : Nat) = some (objL, [], [], 0) := by
  unfold clsR
  rw [show classL l1K = some (objL, nilL, []) from by decide +kernel]
  dsimp only
  rw [if_pos (by decide +kernel)]
  decide +kernel
theorem fix_read : readT fixK = .inl ([(objL, [], [], 0)], [(objL, false, [120, 32, 94, 49], 50)]) := by
  unfold readT
  rw [if_neg (by decide), readU_in (Nat.zero_le _) ch1K, if_neg (by decide), if_neg (by decide)]
  dsimp only
  rw [al1K]
  dsimp only
  rw [cl1K]
  dsimp only
  rw [readU_in (by decide) ch2K, if_neg (by decide), if_neg (by decide)]
  dsimp only
  rw [al2K]
  dsimp only
  rw [show clsR l2K ((34 : Nat) : Int) = none from rfl]
  dsimp only
  rw [show headL l2K = some (objL, false) from by decide +kernel]
  dsimp only
  rw [readU_in (by decide) ch3K, if_neg (by decide), if_neg (by decide)]
  dsimp only
  rw [readU_in (by decide) ch4K, if_neg (by decide), if_pos rfl, readU_in (by decide) ch5K, if_pos rfl, if_pos rfl]
  rfl
set_option maxRecDepth 100000 in
set_option maxHeartbeats 4000000 in
theorem awakeK_any (w : World) (hm : MaxAt w) (hE : ∀ w', Below w.heap.size w w' → EnvL w') : Calls Tryz.prog 13 #[] w fun e w' => e = .returned (.bool true) ∧ Below w.heap.size w w' := by
  have h := readK_any fixK w (by decide) hm hE
  go_enter Tryz.func13, Tryz.ntmps13
  go_wp2_with fail
  refine h.mono ?_
  rintro e w1 ⟨hb, (⟨at_, n, hr, rfl⟩ | ⟨fs, ss, A1, c1, A2, c2, hr, rfl, hC, hF, hX⟩)⟩
  · rw [fix_read] at hr; cases hr
  rw [fix_read] at hr
  injection hr with hr
  injection hr with hr1 hr2
  have hl1 : fs.length = 1 := by have := congrArg List.length hr1; simpa using this.symm
  subst hr2
  obtain ⟨b, o, rfl, hbb, d0, d1, d2, d3⟩ := rdX_at (own_rdZ hX).1 (k := 0) (by decide)
  rw [Nat.zero_mul, Nat.add_zero] at d0 d1 d2 d3
  have HB := Lib.hid hb
  rw [hl1]
  simp only [List.length_cons, List.length_nil]
  clear hl1 hr1 h hb hC hF hX d0 d1
  have hb1 : Below w1.heap.size w1 (w1.alloc (.cells #[.slice A1 1 c1, .slice (some ⟨b, o, none⟩) 1 c2] 53)) := (Below.refl _ _).alloc (Nat.le_refl _) _
  have HBn := Lib.hid (HB.out.trans (hb1.mono HB.out.size))
  clear hb1
  go_wp2_with fail
  go_ret
  exact ⟨rfl, HBn.out⟩
end Go.Proofs.YtmdkneollidkfaaGreatDoor.Fl

/-
  What Read answers, either way; how much a file has.
-/
namespace Go.Proofs.YtmdkneollidkfaaGreatDoor.Fl
open Go.RowKit Go.Shelf

def unitC : UnitR → List Cls
  | .inl (c, _) => c
  | .inr _ => []
def unitS : UnitR → List Src
  | .inl (_, s) => s
  | .inr _ => []
def unitP : UnitR → Int
  | .inl _ => 0
  | .inr (a, _) => a
def unitE : UnitR → Int
  | .inl _ => 0
  | .inr (_, n) => n
theorem UnAt.nil (w : World) (B : Nat) : UnAt w B (.slice none 0 0) (.slice none 0 0) [] [] :=
  ⟨⟨none, 0, rfl, Nat.le_refl _, .inl rfl⟩, ⟨none, 0, rfl, Nat.le_refl _, .inl rfl⟩, fun x hx => by cases hx⟩
theorem UnAt.prog {w : World} {base : Nat} {A1 A2 : Option Addr} {c1 c2 : Nat} {fs : List (Cls × Value)} {ss : List Src} (hC : OwnYk w base (.slice A1 fs.length c1) fs) (hF : ∀ x ∈ fs, ∃ A c, x.2 = .slice A x.1.2.2.1.length c ∧ OwnS w base x.2 x.1.2.2.1) (hX : OwnXk w base (.slice A2 ss.length c2) ss) :
    UnAt w w.heap.size (.slice A1 fs.length c1) (.slice A2 ss.length c2) fs ss := by
  obtain ⟨h1, h2, _⟩ := own_rdZ hC
  obtain ⟨h3, h4, _⟩ := own_rdZ hX
  refine ⟨⟨A1, c1, rfl, h2, h1⟩, ⟨A2, c2, rfl, h4, h3⟩, fun x hx => ?_⟩
  obtain ⟨A, c, e, ho⟩ := hF x hx
  rw [e] at ho
  obtain ⟨h5, h6, h7⟩ := own_rdZ ho
  exact ⟨A, c, e, h6, h7, h5⟩
theorem UnAt.doc {w : World} {base : Nat} {A1 A2 : Option Addr} {c1 c2 : Nat} {fs : List (Cls × Value)} {ss : List Src} (hC : OwnY w base (.slice A1 fs.length c1) fs) (hF : ∀ x ∈ fs, ∃ A c, x.2 = .slice A x.1.2.2.1.length c ∧ OwnS w base x.2 x.1.2.2.1) (hX : OwnX w base (.slice A2 ss.length c2) ss) :
    UnAt w w.heap.size (.slice A1 fs.length c1) (.slice A2 ss.length c2) fs ss := by
  obtain ⟨h1, h2, _⟩ := own_rdZ hC
  obtain ⟨h3, h4, _⟩ := own_rdZ hX
  refine ⟨⟨A1, c1, rfl, h2, h1⟩, ⟨A2, c2, rfl, h4, h3⟩, fun x hx => ?_⟩
  obtain ⟨A, c, e, ho⟩ := hF x hx
  rw [e] at ho
  obtain ⟨h5, h6, h7⟩ := own_rdZ ho
  exact ⟨A, c, e, h6, h7, h5⟩
/-- what Read answers, the program's and the document's -/
def AnsPost (r : UnitR) (w : World) (e : Ending) (w' : World) : Prop :=
  Below w.heap.size w w' ∧ ∃ fs v0 v1, fs.map (fun x => x.1) = unitC r ∧ UnAt w' w'.heap.size v0 v1 fs (unitS r) ∧ e = .returned (.tuple #[.agg #[v0, v1], .int .i64 (unitP r), .int .i64 (unitE r)])
theorem readK_ans (s : ByteArray) (w : World) (hs : s.size ≤ 16777216) (hm : MaxAt w) (hE : ∀ w', Below w.heap.size w w' → EnvL w') : Calls Tryz.prog 18 #[.string s] w (AnsPost (readT s) w) := by
  refine (readK_any s w hs hm hE).mono ?_
  rintro e w' ⟨hb, (⟨at_, n, hr, rfl⟩ | ⟨fs, ss, A1, c1, A2, c2, hr, rfl, hC, hF, hX⟩)⟩
  · rw [hr]; exact ⟨hb, [], _, _, rfl, UnAt.nil _ _, rfl⟩
  · rw [hr]; exact ⟨hb, fs, _, _, rfl, UnAt.prog hC hF hX, rfl⟩
theorem preU_inl {cs : List Cls} {ss : List Src} {r : UnitR} {x : List Cls × List Src} (h : preU cs ss r = .inl x) : ∃ a b, r = .inl (a, b) ∧ x = (cs ++ a, ss ++ b) := by
  cases r with
  | inl y => obtain ⟨a, b⟩ := y; injection h with h; exact ⟨a, b, rfl, h.symm⟩
  | inr y => cases h
theorem clsR_some {l : List Tok} {a : Int} {c : Cls} (h : clsR l a = some c) : ∃ nm sp ft, classL l = some (nm, sp, ft) ∧ clsOk nm ft = true ∧ c = (nm, supN sp, wordsA [] ft, a) := by
  unfold clsR at h
  split at h
  · next nm sp ft he =>
    split at h
    · next hk => injection h with h; exact ⟨nm, sp, ft, he, hk, h.symm⟩
    · cases h
  · cases h
theorem readU_len (s : ByteArray) (n : Nat) : ∀ (p : Nat) (m : Option (List UInt8 × Bool)) (cs : List Cls) (ss : List Src), s.size + 1 - p ≤ n → readU s m p = .inl (cs, ss) →
    cs.length + ss.length ≤ s.size + 1 - p ∧ ∀ c ∈ cs, c.2.2.1.length ≤ 4097 := by
  induction n with
  | zero =>
    intro p m cs ss hn h
    rw [readU_out (by omega)] at h
    unfold endU at h
    split at h
    · cases h
    · injection h with h; injection h with h1 h2; subst h1 h2; exact ⟨Nat.zero_le _, fun c hc => by cases hc⟩
  | succ n ih =>
    intro p m cs ss hn h
    have hend : ∀ {m : Option (List UInt8 × Bool)}, endU s m = .inl (cs, ss) → cs.length + ss.length ≤ s.size + 1 - p ∧ ∀ c ∈ cs, c.2.2.1.length ≤ 4097 := by
      intro m h
      unfold endU at h
      split at h
      · cases h
      · injection h with h; injection h with h1 h2; subst h1 h2; exact ⟨Nat.zero_le _, fun c hc => by cases hc⟩
    by_cases hp : p ≤ s.size
    case neg => rw [readU_out hp] at h; exact hend h
    obtain ⟨⟨t, a, b, e⟩, hc⟩ : ∃ x, chunkR s p = x := ⟨_, rfl⟩
    have hle := chunk_le hp
    rw [hc] at hle
    dsimp only at hle
    rw [readU_in hp hc] at h
    split at h
    · split at h
      · exact hend h
      · cases h
    · split at h
      · have := ih b none cs ss (by omega) h
        exact ⟨by omega, this.2⟩
      · split at h
        · obtain ⟨x, y, hr, hxy⟩ := preU_inl h
          injection hxy with h1 h2
          have := ih b _ x y (by omega) hr
          rw [h1, h2]
          exact ⟨by simp; omega, by simpa using this.2⟩
        · split at h
          · cases h
          · next l hl =>
            split at h
            · next c hcl =>
              obtain ⟨x, y, hr, hxy⟩ := preU_inl h
              injection hxy with h1 h2
              have := ih b _ x y (by omega) hr
              rw [h1, h2]
              refine ⟨by simp; omega, fun d hd => ?_⟩
              rw [List.mem_append, List.mem_singleton] at hd
              rcases hd with rfl | hd
              · obtain ⟨nm, sp, ft, he, _, rfl⟩ := clsR_some hcl
                obtain ⟨k0, n0, q0, k1, w1, n1, q1, k2, n2, q2, k3, w3, n3, q3, k4, n4, q4, z, rfl, _⟩ := classL_some he
                have hw := allW_wd (Nat.zero_le _) hl (k4, ft, n4, q4) (by simp)
                have hcnt := wordsA_cnt ft []
                dsimp only at hw ⊢
                omega
              · exact this.2 d hd
            · split at h
              · next hh _ =>
                have := ih b _ cs ss (by omega) h
                exact ⟨by omega, this.2⟩
              · cases h
theorem readT_len (s : ByteArray) : (unitC (readT s)).length + (unitS (readT s)).length ≤ 65537 ∧ ∀ c ∈ unitC (readT s), c.2.2.1.length ≤ 4097 := by
  unfold readT
  split
  · exact ⟨by simp [unitC, unitS], fun c hc => by cases hc⟩
  · next hs =>
    cases h : readU s none 0 with
    | inl x => obtain ⟨cs, ss⟩ := x; have := readU_len s _ 0 none cs ss (Nat.le_refl _) h; exact ⟨by show cs.length + ss.length ≤ _; omega, this.2⟩
    | inr x => exact ⟨by simp [unitC, unitS], fun c hc => by cases hc⟩
end Go.Proofs.YtmdkneollidkfaaGreatDoor.Fl
