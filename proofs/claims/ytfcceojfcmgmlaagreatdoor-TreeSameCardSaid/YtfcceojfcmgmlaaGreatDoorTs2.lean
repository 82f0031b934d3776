/-
  The lexer: a text parted at each colon; the statement that ranges over strings.SplitSeq(s, ":").
-/
import Derived.Test.YtfcceojfcmgmlaaGreatDoorTs1
import Derived.Lib.AppendIntMem
import Derived.Test.YtfcceojfcmgmlaaGreatDoorRows
import Derived.ChangeArms
import Derived.OpenShut
import Derived.Lib.LaidTab
import Derived.MakeChecks
import Derived.Lib.LaidU8
import Derived.Laws.IdiomStrings
import Derived.Sort.QuietTacIn
import Derived.OwnWalkIn
import Derived.RangeFuncNested
import Derived.Deep.RegionHeld3
import Derived.Deep.DeepCutAuto
namespace Go.Proofs.YtfcceojfcmgmlaaGreatDoor.Fl
open Go.RowKit Go.Shelf
attribute [local go_sem] Oper.semAt_some
def spl : List UInt8 → List (List UInt8)
  | [] => [[]]
  | c :: l => if c = 58 then [] :: spl l else match spl l with
    | [] => [[c]]
    | p :: ps => (c :: p) :: ps
theorem spl_index : ∀ l : List UInt8, spl l = if Lib.indexByte l 58 < 0 then [l] else l.take (Lib.indexByte l 58).toNat :: spl (l.drop ((Lib.indexByte l 58).toNat + 1))
  | [] => rfl
  | c :: l => by
    have ih := spl_index l
    have hg := indexByte_ge 58 l
    rw [spl]
    by_cases hc : c = 58
    · rw [if_pos hc]
      subst hc
      rw [show Lib.indexByte ((58 : UInt8) :: l) 58 = 0 from by simp [Lib.indexByte]]
      simp
    · rw [if_neg hc, ih]
      have hb : (c == 58) = false := by simpa using hc
      by_cases hn : Lib.indexByte l 58 < 0
      · have h1 : Lib.indexByte l 58 = -1 := by omega
        rw [if_pos hn, show Lib.indexByte (c :: l) 58 = -1 from by simp [Lib.indexByte, hb, h1]]
        rfl
      · have h1 : (Lib.indexByte l 58 == -1) = false := by simp; omega
        have h2 : Lib.indexByte (c :: l) 58 = Lib.indexByte l 58 + 1 := by simp [Lib.indexByte, hb, h1]
        rw [if_neg hn, h2, if_neg (by omega), show (Lib.indexByte l 58 + 1).toNat = (Lib.indexByte l 58).toNat + 1 by omega]
        rfl
theorem mk_sb (t : ByteArray) : (⟨(sb t).toArray⟩ : ByteArray) = t := by cases t; simp [sb]
set_option maxRecDepth 100000 in
set_option maxHeartbeats 4000000 in
theorem split_any (n : Nat) (hn : 1 ≤ n) (l : Nat) (J Jx : List (List UInt8) → World → Prop) (b1 b2 b3 : Nat) (X : Nat → Prop) (hX : ¬ X b1 ∧ ¬ X b2 ∧ ¬ X b3) (hb : b1 ≠ b2 ∧ b3 ≠ b2) (hJ2 : ∀ s w v, J s w → J s (w.setCell ⟨b2, 0, none⟩ v))
    (s : ByteArray) (hs : s.size ≤ 16777216) (all : List (List UInt8)) (hall : spl (sb s) = all)
    (hY : ∀ pre (t : ByteArray) W, J pre W → t.size ≤ s.size → (∃ post, pre ++ sb t :: post = all) → YieldAt Fence.wide (n - 1) Tryz.prog l #[.string t] W fun e W' =>
      (e = .returned (.bool true) ∧ J (pre ++ [sb t]) W' ∧ KpS X W W') ∨ (e = .returned (.bool false) ∧ Jx (pre ++ [sb t]) W'))
    (W : World) (h : SplAt W b1 b2 b3 s) (h0 : J [] W) :
    CallsIn Fence.wide n Tryz.prog 117 #[.func (.yield l) #[] #[], .pointer (some ⟨b1, 0, none⟩), .pointer (some ⟨b2, 0, none⟩), .pointer (some ⟨b3, 0, none⟩)] W fun e W' => (∃ v, e = .returned v) ∧
      (J all W' ∨ ∃ pre, Jx pre W') := by
  have f1 := one_cellL h.sep
  have f2 := one_cellL h.txt
  have f3 := one_cellL h.sav
  have hix := fun (s : ByteArray) (w : World) => Tryz.strings_Index_one s 58 w
  have HIx := Lib.hid hix
  have HAl := Lib.hid hall
  clear hix hall
  refine callsIn_of_wp Tryz.func117 rfl trivial ?_ rfl
  simp only [Tryz.ntmps117, List.size_toArray, List.length_cons, List.length_nil, Nat.reduceAdd, Nat.reduceSub, Array.replicate_succ, Array.replicate_zero, List.push_toArray, List.append_toArray, List.nil_append, List.cons_append]
  gi_wp2
  gi_loopw [] (fun wr => ∃ (pre : List (List UInt8)) (t : ByteArray), Hid (pre ++ spl (sb t) = all) ∧ t.size ≤ s.size ∧ J pre wr ∧ SplAt wr b1 b2 b3 t) (fun wr => boxLen b2 wr)
  case atStart => exact ⟨[], s, HAl, Nat.le_refl _, h0, h⟩
  case round =>
    clear f1 f2 f3 h h0 HAl
    obtain ⟨pre, t, HA, hts, hj, h⟩ := hrel
    have f1 := one_cellL h.sep
    have f2 := one_cellL h.txt
    have f3 := one_cellL h.sav
    have hi := HIx.out t wr
    have hge := indexByte_ge 58 (sb t)
    have hlt := indexByte_lt 58 (sb t)
    rw [sb_len] at hlt
    have HS := Lib.hid (spl_index (sb t))
    change Calls _ _ _ _ (fun e w' => e = .returned (.int .i64 (Lib.indexByte (sb t) 58)) ∧ _) at hi
    by_cases hneg : Lib.indexByte (sb t) 58 < 0
    · have hm1 : Lib.indexByte (sb t) 58 = -1 := by omega
      rw [hm1] at hi
      have HE : Hid (pre ++ [sb t] = all) := Lib.hid (by rw [← HA.out, HS.out, if_pos hneg])
      have hy0 := hY pre t wr hj hts ⟨[], HE.out⟩
      rw [HE.out] at hy0
      clear hge hlt HS hneg hm1
      obtain ⟨fn, tmps, assign, body, hy, hR⟩ := hy0
      gi_wp2
      refine ⟨trivial, ?_⟩
      gi_at_call 119
      refine (callsIn_wide.2 hi).mono ?_
      rintro e w' ⟨rfl, rfl⟩
      gi_wp2
      refine hR.mono ?_
      rintro e w3 (⟨rfl, hJ3, hk3⟩ | ⟨rfl, hJx3⟩)
      · have HJ3 := Lib.hid hJ3
        clear hk3 hJ3 hy hR hi
        gi_wp2
        first | go_end0 | refine bodyPost_ret (results_none rfl _ _ _) rfl ?_
        exact ⟨⟨_, rfl⟩, .inl HJ3.out⟩
      · have HJx := Lib.hid hJx3
        clear hJx3 hy hR hi
        gi_wp2
        first | go_end0 | refine bodyPost_ret (results_none rfl _ _ _) rfl ?_
        exact ⟨⟨_, rfl⟩, .inr ⟨_, HJx.out⟩⟩
    · obtain ⟨i, hieq⟩ : ∃ i : Nat, Lib.indexByte (sb t) 58 = (i : Int) := ⟨(Lib.indexByte (sb t) 58).toNat, by omega⟩
      rw [hieq] at hi
      have hil : i < t.size := by omega
      have hil2 : (i : Int) < (t.size : Int) := by omega
      have hi0 : ¬ ((i : Int) < 0) := by omega
      have e1 : sb (t.extract 0 i) = (sb t).take i := by rw [sb_extract, List.drop_zero]
      have e2 : sb (t.extract (i + 1) t.size) = (sb t).drop (i + 1) := sb_tail t (i + 1)
      have HE : Hid ((pre ++ [sb (t.extract 0 i)]) ++ spl (sb (t.extract (i + 1) t.size)) = all) := Lib.hid (by
        rw [← HA.out, HS.out, if_neg hneg, hieq, e1, e2, Int.toNat_natCast, List.append_assoc]; rfl)
      have hx1 : (t.extract 0 i).size ≤ s.size := by rw [← sb_len, e1, List.length_take, sb_len]; omega
      have hx2 : (t.extract (i + 1) t.size).size < t.size := by rw [← sb_len, e2, List.length_drop, sb_len]; omega
      have hy0 := hY pre (t.extract 0 i) wr hj hx1 ⟨_, by have := HE.out; rw [List.append_assoc] at this; exact this⟩
      have HX2 := Lib.hid hx2
      clear hge hlt HS hneg hieq e1 e2 hx1 hx2
      obtain ⟨fn, tmps, assign, body, hy, hR⟩ := hy0
      gi_wp2
      refine ⟨trivial, ?_⟩
      gi_at_call 119
      refine (callsIn_wide.2 hi).mono ?_
      rintro e w' ⟨rfl, rfl⟩
      gi_wp2
      refine hR.mono ?_
      rintro e w3 (⟨rfl, hJ3, hk3⟩ | ⟨rfl, hJx3⟩)
      · have h3 := h.kept hk3 hX
        have f1 := one_cellL h3.sep
        have f2 := one_cellL h3.txt
        have f3 := one_cellL h3.sav
        have hl0 : boxLen b2 w' = t.size := by unfold boxLen; rw [one_cellL h.txt |>.1]
        have HL0 := Lib.hid hl0
        have HJ3 := Lib.hid (hJ2 _ _ (.string (t.extract (i + 1) t.size)) hJ3)
        have H3 := Lib.hid (h3.set hb (t.extract (i + 1) t.size))
        clear hk3 hJ3 hy hR hi hl0
        gi_wp2
        go_roundw
        case rel => exact ⟨_, _, HE, by have := HX2.out; omega, HJ3.out, H3.out⟩
        case measure => rw [HL0.out]; unfold boxLen; rw [(one_cellL H3.out.txt).1]; exact HX2.out
      · have HJx := Lib.hid hJx3
        clear hJx3 hy hR
        gi_wp2
        refine bodyPost_ret (results_none rfl _ _ _) rfl ?_
        exact ⟨⟨_, rfl⟩, .inr ⟨_, HJx.out⟩⟩
/-- what a round of the range leaves: it goes on, or it leaves the function -/
def SplRnd (B : Nat) (X : Nat → Prop) (I Ix : List (List UInt8) → World → Prop) (xs : List (List UInt8)) (W : World) (e : Exit) (_ : Act) (W' : World) : Prop :=
  (∀ k o, B ≤ k → W.heap[k]? = some o → o.isCells = false → W'.heap[k]? = W.heap[k]?) ∧ ((e = .normal ∧ KpS X W W' ∧ I xs W') ∨ (e = .ret ∧ Ix xs W'))
set_option maxRecDepth 100000 in
set_option maxHeartbeats 4000000 in
theorem range_all {g : Operand} {ps : Array Tmp} {assign body : Code} {Q : Exit → Act → World → Prop} {a : Act} {w : World} {n : Nat} (hn : 2 ≤ n) {b1 b2 b3 : Nat} (s : ByteArray) (hs : s.size ≤ 16777216)
    (hg : a.eval g = .func (.func 117) #[] #[.pointer (some ⟨b1, 0, none⟩), .pointer (some ⟨b2, 0, none⟩), .pointer (some ⟨b3, 0, none⟩)])
    (hS : SplAt w b1 b2 b3 s) (hb : b1 ≠ b2 ∧ b3 ≠ b2) {X : Nat → Prop} (hX : ¬ X b1 ∧ ¬ X b2 ∧ ¬ X b3) (hps : ps.size = 1)
    (I Ix : List (List UInt8) → World → Prop) (hI : ∀ s W l o o', I s W → w.heap.size ≤ l → W.heap[l]? = some o → o.isCells = false → I s (W.putObj l o')) (hIx : ∀ s W l o o', Ix s W → w.heap.size ≤ l → W.heap[l]? = some o → o.isCells = false → Ix s (W.putObj l o')) (hIa : ∀ s W o, I s W → I s (W.alloc o))
    (hI2 : ∀ s W v, I s W → I s (W.setCell ⟨b2, 0, none⟩ v)) (h0 : I [] w)
    (hround : ∀ (l : Nat) (pre : List (List UInt8)) (t : ByteArray) (W : World) (K : Act → World → Prop), I pre W → t.size ≤ s.size → (∃ post, pre ++ sb t :: post = spl (sb s)) →
      (∀ a', (∀ W2, I pre W2 → body.wpIn (Fence.wide.inRound l) (n - 1 - 1) Tryz.prog (SplRnd w.heap.size X I Ix (pre ++ [sb t]) W2) a' W2) → K a' W) →
      assign.wpIn (Fence.wide.inRound l) (n - 1 - 1) Tryz.prog (Exit.then K (fun _ _ _ => False)) { tmps := (ps.zip #[.string t]).foldl (fun t (p, v) => t.setIfInBounds p v) a.tmps, defers := [] } W)
    (hdone : ∀ W, I (spl (sb s)) W → W.heap[w.heap.size]? = some (.deferred (some [])) → Q .normal { a with defers := { target := .collected w.heap.size, args := #[] } :: a.defers } W)
    (hstop : ∀ pre W, Ix pre W → W.heap[w.heap.size]? = some (.deferred (some [])) → Q .ret { a with defers := { target := .collected w.heap.size, args := #[] } :: a.defers } W) :
    (Code.rangeFunc g ps assign body).wpIn Fence.wide n Tryz.prog Q a w := by
  refine wpIn_rangeFunc ?_
  intro fn hfn
  obtain ⟨W1, hW1⟩ : ∃ W1, (w.alloc (.deferred (some []))).alloc (.loop (recL fn a.tmps ps assign body w.heap.size .ready none)) = W1 := ⟨_, rfl⟩
  have hL1 : W1.heap[w.heap.size + 1]? = some (.loop (recL fn a.tmps ps assign body w.heap.size .ready none)) := by
    rw [← hW1]
    have := heap_alloc_new (w.alloc (.deferred (some []))) (.loop (recL fn a.tmps ps assign body w.heap.size .ready none))
    rwa [World.size_alloc] at this
  have hK1 : W1.heap[w.heap.size]? = some (.deferred (some [])) := by
    rw [← hW1]
    exact (Below.heap_alloc _ _ _ (by rw [World.size_alloc]; omega)).trans (heap_alloc_new w _)
  have hI1 : I [] W1 := by rw [← hW1]; exact hIa _ _ _ (hIa _ _ _ h0)
  have hb1 : Below w.heap.size w W1 := by
    rw [← hW1]; exact ((Below.refl _ w).alloc (Nat.le_refl _) _).alloc (by rw [World.size_alloc]; omega) _
  have hS1 : SplAt W1 b1 b2 b3 s := ⟨(hb1.block _ (lt_of_blk hS.sep)).trans hS.sep, (hb1.block _ (lt_of_blk hS.txt)).trans hS.txt, (hb1.block _ (lt_of_blk hS.sav)).trans hS.sav⟩
  have l2 := lt_of_blk hS.txt
  refine ⟨w.heap.size + 1, [{ target := .collected w.heap.size, args := #[] }], W1, { target := .fn (.func 117) #[.pointer (some ⟨b1, 0, none⟩), .pointer (some ⟨b2, 0, none⟩), .pointer (some ⟨b3, 0, none⟩)], args := #[.func (.yield (w.heap.size + 1)) #[] #[]] }, W1, 117,
    #[.func (.yield (w.heap.size + 1)) #[] #[], .pointer (some ⟨b1, 0, none⟩), .pointer (some ⟨b2, 0, none⟩), .pointer (some ⟨b3, 0, none⟩)], W1, ?_, ?_, ?_, ?_, fun _ => by omega, ?_⟩
  · rw [← hW1]; exact run_enterLoop_outer _ _ _ _ _
  · simp only [resolve, hg]
    simp [go_sem]
  · intro f' _; exact trivial
  · have eg := enters_of Tryz.func117 (by kernel_rfl) rfl
    simp [invoke, go_sem]
  · refine (split_any (n - 1) (by omega) (w.heap.size + 1)
      (fun pre W => I pre W ∧ W.heap[w.heap.size + 1]? = some (.loop (recL fn a.tmps ps assign body w.heap.size .ready none)) ∧ W.heap[w.heap.size]? = some (.deferred (some [])))
      (fun pre W => Ix pre W ∧ W.heap[w.heap.size + 1]? = some (.loop (recL fn a.tmps ps assign body w.heap.size .done (some .ret))) ∧ W.heap[w.heap.size]? = some (.deferred (some []))) b1 b2 b3 X hX hb
      (fun s W v h => ⟨hI2 _ _ _ h.1, (Below.heap_setCell _ _ _ _ (show w.heap.size + 1 ≠ b2 by omega)).trans h.2.1, (Below.heap_setCell _ _ _ _ (show w.heap.size ≠ b2 by omega)).trans h.2.2⟩)
      s hs _ rfl ?_ W1 hS1 ⟨hI1, hL1, hK1⟩).mono ?_
    · rintro pre x W ⟨hi, hl, hk⟩ hxs hpost
      have hlt := lt_of_blk hl
      have hy := run_yield (P := Tryz.prog) (args := #[.string x]) hl (by show 1 = ps.size; exact hps.symm)
      refine ⟨fn, _, assign, body, hy, roundIn_of_wpIn hfn (hround _ pre x W _ hi hxs hpost ?_)⟩
      intro a' hbody
      refine ⟨_, run_beginRound hl rfl, ?_⟩
      have hl2 : (W.putObj (w.heap.size + 1) (.loop (recL fn a.tmps ps assign body w.heap.size .busy none))).heap[w.heap.size + 1]? = some (.loop (recL fn a.tmps ps assign body w.heap.size .busy none)) := World.putObj_heap_same hlt
      have hk2 : (W.putObj (w.heap.size + 1) (.loop (recL fn a.tmps ps assign body w.heap.size .busy none))).heap[w.heap.size]? = some (.deferred (some [])) := (World.putObj_heap_other (by omega)).trans hk
      refine wpIn_mono (hbody (W.putObj (w.heap.size + 1) (.loop (recL fn a.tmps ps assign body w.heap.size .busy none))) (hI _ _ _ _ _ hi (by omega) hl rfl)) ?_
      rintro e a3 W3 ⟨hkn, (⟨rfl, hkp, hi3⟩ | ⟨rfl, hi3⟩)⟩
      · have hl3 := (hkn _ _ (by omega) hl2 rfl).trans hl2
        have hk3 := (hkn _ _ (Nat.le_refl _) hk2 rfl).trans hk2
        refine ⟨_, _, run_endRound none hl3, .inl ⟨rfl, ⟨hI _ _ _ _ _ hi3 (by omega) hl3 rfl, World.putObj_heap_same (lt_of_blk hl3), (World.putObj_heap_other (by omega)).trans hk3⟩, (kps_put _ hl rfl).trans (hkp.trans (kps_put _ hl3 rfl))⟩⟩
      · have hl3 := (hkn _ _ (by omega) hl2 rfl).trans hl2
        have hk3 := (hkn _ _ (Nat.le_refl _) hk2 rfl).trans hk2
        exact ⟨_, _, run_endRound (some .ret) hl3, .inr ⟨rfl, hIx _ _ _ _ _ hi3 (by omega) hl3 rfl, World.putObj_heap_same (lt_of_blk hl3), (World.putObj_heap_other (by omega)).trans hk3⟩⟩
    · rintro e W2 ⟨⟨v, rfl⟩, (⟨hi, hl, hk⟩ | ⟨pre, hi, hl, hk⟩)⟩
      · exact ⟨none, _, run_endLoop hl (by simp [recL]), hdone _ (hI _ _ _ _ _ hi (by omega) hl rfl) ((World.putObj_heap_other (by omega)).trans hk)⟩
      · exact ⟨some .ret, _, run_endLoop hl (by simp [recL]), wpIn_ret (hstop pre _ (hIx _ _ _ _ _ hi (by omega) hl rfl) ((World.putObj_heap_other (by omega)).trans hk))⟩
end Go.Proofs.YtfcceojfcmgmlaaGreatDoor.Fl

/-
  The lexer: Arity of any text.
-/
namespace Go.Proofs.YtfcceojfcmgmlaaGreatDoor.Fl
open Go.RowKit Go.Shelf
attribute [local go_sem] Oper.semAt_some
def nameL (l : List UInt8) : Bool := isNameB ⟨l.toArray⟩
theorem nameL_sb (t : ByteArray) : nameL (sb t) = isNameB t := by unfold nameL; rw [mk_sb]
theorem spl_len : ∀ l : List UInt8, (spl l).length ≤ l.length + 1
  | [] => Nat.le_refl _
  | c :: l => by
    have ih := spl_len l
    rw [spl]
    split
    · simp only [List.length_cons]; omega
    · split
      · simp only [List.length_cons, List.length_nil]; omega
      · next h => rw [h] at ih; simp only [List.length_cons] at ih ⊢; omega
def keysL (l : List UInt8) : Int := if (spl l).all nameL then ((spl l).length : Int) else -1
/-- how many arguments a message of that name has -/
def arityL (s : ByteArray) : Int :=
  if 64 < s.size then -1 else if isNameB s then 0 else if isOpL (sb s) then 1
  else if Lib.hasSuffix (sb s) [58] then keysL (Lib.trimSuffix (sb s) [58]) else -1
/-- what stands while the range runs: the result's box, and the count's -/
def ArI (w : World) (pre : List (List UInt8)) (W : World) : Prop :=
  W.heap[w.heap.size]? = some (.cells #[.int .i64 0] 3 (0, 0)) ∧ W.heap[w.heap.size + 1]? = some (.cells #[.int .i64 (pre.length : Int)] 3 (0, 0)) ∧ Below w.heap.size w W ∧ w.heap.size + 5 ≤ W.heap.size ∧ pre.all nameL = true
def ArX (w : World) (r : Int) (_ : List (List UInt8)) (W : World) : Prop :=
  W.heap[w.heap.size]? = some (.cells #[.int .i64 (-1)] 3 (0, 0)) ∧ Below w.heap.size w W ∧ w.heap.size + 5 ≤ W.heap.size ∧ r = -1
theorem ari_result {W : World} {C : Nat} {n : Int} {a : Array Value} (h : W.heap[C]? = some (.cells #[.int .i64 n] 3 (0, 0))) (ha : a[2]?.getD undef = .pointer (some ⟨C, 0, none⟩)) :
    (results Tryz.f49 a).run Tryz.prog W = .ok (.int .i64 n) W := by
  obtain ⟨c0, _⟩ := one_cellL h
  simp [results, Tryz.results49, go_sem, ha, c0]
set_option maxRecDepth 100000 in
set_option maxHeartbeats 4000000 in
theorem arity_any (s : ByteArray) (w : World) (hs : s.size ≤ 16777216) : Calls Tryz.prog 49 #[.string s] w fun e w' => e = .returned (.int .i64 (arityL s)) ∧ Below w.heap.size w w' := by
  have hn := fun w => isName_any s w hs
  have ho := fun w => lxOp_is s w hs
  have hc := fun w => Tryz.strings_CutSuffix s ⟨#[58]⟩ w (by omega)
  obtain ⟨nb, hnb⟩ : ∃ nb : ByteArray, (⟨(Lib.trimSuffix s.data.toList (⟨#[58]⟩ : ByteArray).data.toList).toArray⟩ : ByteArray) = nb := ⟨_, rfl⟩
  have hsb : sb nb = Lib.trimSuffix (sb s) [58] := by rw [← hnb, sb_mk]
  have hnbs : nb.size ≤ 16777216 := by
    rw [sb_size, hsb]
    unfold Lib.trimSuffix
    split
    · rw [List.length_take, sb_len]; omega
    · rw [sb_len]; exact hs
  rw [hnb] at hc
  have hp := fun w => splitSeq_any nb ⟨#[58]⟩ w
  clear hnb
  obtain ⟨r, hr⟩ : ∃ r, arityL s = r := ⟨_, rfl⟩
  rw [hr]
  have HR := Lib.hid hr
  unfold arityL at HR
  clear hr
  refine (callsIn_wide (n := 4)).1 ?_
  refine callsIn_of_wp_marks Tryz.func49 rfl trivial ?_ rfl
  simp only [Tryz.ntmps49, List.size_toArray, List.length_cons, List.length_nil, Nat.reduceAdd, Nat.reduceSub, Array.replicate_succ, Array.replicate_zero, List.push_toArray, List.append_toArray, List.nil_append, List.cons_append]
  by_cases h64 : 64 < s.size
  · have HR1 : r = -1 := (HR.out.symm.trans (if_pos h64))
    have hz : (64 : Int) < (s.size : Int) := by omega
    subst HR1
    have h1 := heap_alloc_new w (.cells #[.int .i64 (-1)] 3)
    have hb1 : Below w.heap.size w (w.alloc (.cells #[.int .i64 (-1)] 3)) := (Below.refl _ _).alloc (Nat.le_refl _) _
    gi_wp2
    exact ⟨_, ari_result h1 rfl, rfl, hb1⟩
  · have HR1 := Lib.hid (HR.out.symm.trans (if_neg h64))
    have hz : ¬ (64 : Int) < (s.size : Int) := by omega
    clear HR
    gi_wp2
    refine ⟨trivial, ?_⟩
    gi_at_call 68
    refine (callsIn_wide.2 (hn _)).mono ?_
    rintro e w' ⟨rfl, rfl⟩
    clear hn
    cases hin : isNameB s
    case true =>
      have HR2 : r = 0 := (HR1.out.trans (if_pos hin))
      subst HR2
      have h1 := heap_alloc_new w (.cells #[.int .i64 0] 3)
      have hb1 : Below w.heap.size w (w.alloc (.cells #[.int .i64 0] 3)) := (Below.refl _ _).alloc (Nat.le_refl _) _
      gi_wp2
      exact ⟨_, ari_result h1 rfl, rfl, hb1⟩
    have HR2 := Lib.hid (HR1.out.trans (if_neg (by rw [hin]; simp)))
    clear HR1 hin
    gi_wp2
    refine ⟨trivial, ?_⟩
    gi_at_call 69
    refine (callsIn_wide.2 (ho _)).mono ?_
    rintro e w' ⟨rfl, rfl⟩
    clear ho
    cases hio : isOpL (sb s)
    case true =>
      have HR3 : r = 1 := (HR2.out.trans (if_pos hio))
      subst HR3
      have h1 := heap_alloc_new w (.cells #[.int .i64 1] 3)
      have hb1 : Below w.heap.size w (w.alloc (.cells #[.int .i64 1] 3)) := (Below.refl _ _).alloc (Nat.le_refl _) _
      gi_wp2
      exact ⟨_, ari_result h1 rfl, rfl, hb1⟩
    have HR3 := Lib.hid (HR2.out.trans (if_neg (by rw [hio]; simp)))
    clear HR2 hio
    gi_wp2
    refine ⟨trivial, ?_⟩
    gi_at_call 70
    refine (callsIn_wide.2 (hc _)).mono ?_
    rintro e w' ⟨rfl, rfl⟩
    clear hc
    change _ at HR3
    cases hsf : Lib.hasSuffix s.data.toList (⟨#[58]⟩ : ByteArray).data.toList
    case false =>
      have HR4 : r = -1 := (HR3.out.trans (if_neg (by rw [show Lib.hasSuffix (sb s) [58] = false from hsf]; simp)))
      subst HR4
      have h1 := heap_alloc_new w (.cells #[.int .i64 (-1)] 3)
      have hb1 : Below w.heap.size w (w.alloc (.cells #[.int .i64 (-1)] 3)) := (Below.refl _ _).alloc (Nat.le_refl _) _
      gi_wp2
      exact ⟨_, ari_result h1 rfl, rfl, hb1⟩
    have HR4 := Lib.hid (HR3.out.trans (if_pos (show Lib.hasSuffix (sb s) [58] = true from hsf)))
    rw [← hsb] at HR4
    clear HR3 hsf hsb
    gi_wp2
    refine ⟨trivial, ?_⟩
    gi_at_call 71
    refine (callsIn_wide.2 (hp _)).mono ?_
    rintro e w' ⟨rfl, rfl⟩
    gi_wp2
    obtain ⟨W0, hW0⟩ : ∃ W0, (((((w.alloc (.cells #[.int .i64 0] 3)).alloc (.cells #[.int .i64 0] 3)).alloc (.cells #[.string nb] 9)).alloc (.cells #[.string ⟨#[58]⟩] 9)).alloc (.cells #[.int .i64 0] 3)) = W0 := ⟨_, rfl⟩
    obtain ⟨q1, q2, q3, q4, q5, hb0, hsz⟩ := five_boxes w (.cells #[.int .i64 0] 3) (.cells #[.int .i64 0] 3) (.cells #[.string nb] 9) (.cells #[.string ⟨#[58]⟩] 9) (.cells #[.int .i64 0] 3) W0 hW0
    rw [hW0]
    clear hW0
    have hspl := spl_len (sb nb)
    rw [sb_len] at hspl
    refine range_all (b1 := w.heap.size + 1 + 1 + 1) (b2 := w.heap.size + 1 + 1) (b3 := w.heap.size + 1 + 1 + 1 + 1) (by decide) nb hnbs rfl ⟨q4, q3, q5⟩ ⟨by omega, by omega⟩ (X := fun k => k = w.heap.size + 1) ⟨by omega, by omega, by omega⟩ rfl
      (ArI w) (ArX w r) ?put ?putx ?al ?st ⟨q1, q2, hb0, by omega, rfl⟩ ?round ?done ?stop
    case put =>
      rintro s W l o o' ⟨h1, h2, h3, h4, h5⟩ hl hlo ho
      refine ⟨(World.putObj_heap_other (by omega)).trans h1, (World.putObj_heap_other (by omega)).trans h2, ⟨h3.os, h3.tape, h3.output, by simpa using h3.size, fun k hk => (World.putObj_heap_other (by omega)).trans (h3.block k hk)⟩, by simpa using h4, h5⟩
    case putx =>
      rintro s W l o o' ⟨h1, h3, h4, h5⟩ hl hlo ho
      refine ⟨(World.putObj_heap_other (by omega)).trans h1, ⟨h3.os, h3.tape, h3.output, by simpa using h3.size, fun k hk => (World.putObj_heap_other (by omega)).trans (h3.block k hk)⟩, by simpa using h4, h5⟩
    case al =>
      rintro s W o ⟨h1, h2, h3, h4, h5⟩
      exact ⟨(Below.heap_alloc _ _ _ (by omega)).trans h1, (Below.heap_alloc _ _ _ (by omega)).trans h2, h3.alloc (by omega) _, by rw [World.size_alloc]; omega, h5⟩
    case st =>
      rintro s W v ⟨h1, h2, h3, h4, h5⟩
      exact ⟨(Below.heap_setCell W ⟨w.heap.size + 1 + 1, 0, none⟩ v _ (by show w.heap.size ≠ w.heap.size + 1 + 1; omega)).trans h1, (Below.heap_setCell W ⟨w.heap.size + 1 + 1, 0, none⟩ v _ (by show w.heap.size + 1 ≠ w.heap.size + 1 + 1; omega)).trans h2, h3.setCell (p := ⟨w.heap.size + 1 + 1, 0, none⟩) (by show w.heap.size ≤ w.heap.size + 1 + 1; omega) _, by rw [World.size_setCell]; exact h4, h5⟩
    case round =>
      rintro l pre t W K hi hts ⟨post, hpost⟩ hK
      have hnx := fun W2 => isName_any t W2 (by omega)
      have hpl : pre.length ≤ 16777216 := by
        have := congrArg List.length hpost
        rw [List.length_append, List.length_cons] at this
        omega
      have HPo := Lib.hid hpost
      clear hpost hspl
      gi_wp2
      rintro W2 ⟨h1, h2, h3, h4, h5⟩
      have H5 := Lib.hid h5
      clear h5
      have f1 := one_cellL h1
      have f2 := one_cellL h2
      cases hnm : isNameB t
      · rw [hnm] at hnx
        gi_wp2
        refine ⟨trivial, ?_⟩
        gi_at_call 68
        refine (CallsIn.inRound l (callsIn_wide.2 (hnx _))).mono ?_
        rintro e w' ⟨rfl, rfl⟩
        gi_wp2
        have hrn : r = -1 := by
          rw [HR4.out]
          unfold keysL
          rw [if_neg]
          rw [← HPo.out, List.all_append, List.all_cons, nameL_sb, hnm]
          simp
        refine ⟨fun k o hk ho hc => Below.heap_setCell W2 ⟨w.heap.size, 0, none⟩ _ k (by show k ≠ w.heap.size; omega), .inr ⟨rfl, ?_, h3.setCell (p := ⟨w.heap.size, 0, none⟩) (Nat.le_refl _) _, by rw [World.size_setCell]; exact h4, hrn⟩⟩
        exact set1L h1 _
      · rw [hnm] at hnx
        gi_wp2
        refine ⟨trivial, ?_⟩
        gi_at_call 68
        refine (CallsIn.inRound l (callsIn_wide.2 (hnx _))).mono ?_
        rintro e w' ⟨rfl, rfl⟩
        gi_wp2
        refine ⟨fun k o hk _ _ => Below.heap_setCell W2 ⟨w.heap.size + 1, 0, none⟩ _ k (by show k ≠ w.heap.size + 1; omega), .inl ⟨rfl, ⟨by rw [World.size_setCell]; exact Nat.le_refl _, fun k cs T fr _ hk => Below.heap_setCell W2 ⟨w.heap.size + 1, 0, none⟩ _ k hk⟩, ?_⟩⟩
        refine ⟨(Below.heap_setCell W2 ⟨w.heap.size + 1, 0, none⟩ _ _ (by show w.heap.size ≠ w.heap.size + 1; omega)).trans h1, ?_, h3.setCell (p := ⟨w.heap.size + 1, 0, none⟩) (by show w.heap.size ≤ w.heap.size + 1; omega) _, by rw [World.size_setCell]; exact h4, by rw [List.all_append, H5.out, List.all_cons, nameL_sb, hnm]; rfl⟩
        rw [List.length_append]
        exact set1L h2 _
    case done =>
      rintro W ⟨h1, h2, h3, h4, h5⟩ hD
      have hrr : r = ((spl (sb nb)).length : Int) := by rw [HR4.out]; unfold keysL; rw [if_pos h5]
      subst hrr
      clear HR4 h5
      have f1 := one_cellL h1
      have f2 := one_cellL h2
      gi_wp2
      have l1 := lt_of_blk h1
      have hD2 : (W.setCell ⟨w.heap.size, 0, none⟩ (.int .i64 ((spl (sb nb)).length : Int))).heap[W0.heap.size]? = some (.deferred (some [])) := (Below.heap_setCell W ⟨w.heap.size, 0, none⟩ _ _ (by show W0.heap.size ≠ w.heap.size; omega)).trans hD
      have hr2 := set1L h1 (.int .i64 ((spl (sb nb)).length : Int))
      have hb2 : Below w.heap.size w (W.setCell ⟨w.heap.size, 0, none⟩ (.int .i64 ((spl (sb nb)).length : Int))) := h3.setCell (p := ⟨w.heap.size, 0, none⟩) (Nat.le_refl _) _
      refine ⟨by simp, .inl ⟨_, _, rfl, run_takeDeferred hD2, ?_⟩⟩
      have hr3 := (World.putObj_heap_other (o := .deferred none) (show w.heap.size ≠ W0.heap.size by omega)).trans hr2
      have hb3 : Below w.heap.size w ((W.setCell ⟨w.heap.size, 0, none⟩ (.int .i64 ((spl (sb nb)).length : Int))).putObj W0.heap.size (.deferred none)) := ⟨hb2.os, hb2.tape, hb2.output, by simpa using hb2.size, fun k hk => (World.putObj_heap_other (by omega)).trans (hb2.block k hk)⟩
      exact ⟨_, ari_result hr3 rfl, rfl, hb3⟩
    case stop =>
      rintro pre W ⟨h1, h3, h4, rfl⟩ hD
      refine ⟨by simp, .inl ⟨_, _, rfl, run_takeDeferred hD, ?_⟩⟩
      have hr3 := (World.putObj_heap_other (o := .deferred none) (show w.heap.size ≠ W0.heap.size by omega)).trans h1
      have hb3 : Below w.heap.size w (W.putObj W0.heap.size (.deferred none)) := ⟨h3.os, h3.tape, h3.output, by simpa using h3.size, fun k hk => (World.putObj_heap_other (by omega)).trans (h3.block k hk)⟩
      exact ⟨_, ari_result hr3 rfl, rfl, hb3⟩
end Go.Proofs.YtfcceojfcmgmlaaGreatDoor.Fl

/-
  The lexer: All.
-/
namespace Go.Proofs.YtfcceojfcmgmlaaGreatDoor.Fl
open Go.RowKit

end Go.Proofs.YtfcceojfcmgmlaaGreatDoor.Fl

/-
  The lexer: the laws' fixed fact.
-/
namespace Go.Proofs.YtfcceojfcmgmlaaGreatDoor.Fl
open Go.RowKit

end Go.Proofs.YtfcceojfcmgmlaaGreatDoor.Fl

/-
  The laws of layer 9: short; a text, a blank and a text.
-/
namespace Go.Proofs.YtfcceojfcmgmlaaGreatDoor.Fl
open Go.RowKit

theorem sb_append (s t : ByteArray) : sb (s ++ t) = sb s ++ sb t := by
  simp [sb]
end Go.Proofs.YtfcceojfcmgmlaaGreatDoor.Fl

/-
  LexJoins where one of the two texts is refused.
-/
namespace Go.Proofs.YtfcceojfcmgmlaaGreatDoor.Fl
open Go.RowKit

end Go.Proofs.YtfcceojfcmgmlaaGreatDoor.Fl

/-
  The lexer: tokens that are the same; LexJoins' lists.
-/
namespace Go.Proofs.YtfcceojfcmgmlaaGreatDoor.Fl
open Go.RowKit

end Go.Proofs.YtfcceojfcmgmlaaGreatDoor.Fl

/-
  The lexer: a token as it is written is read back.
-/
namespace Go.Proofs.YtfcceojfcmgmlaaGreatDoor.Fl
open Go.RowKit

abbrev mkB (l : List UInt8) : ByteArray := ⟨l.toArray⟩
def partA (l : List UInt8) : Bool := l.all fun c => partN c.toNat
/-- what a token can be -/
def TokV (k : Nat) (wd : List UInt8) (n : Int) : Prop :=
  (k = 1 ∧ n = 0 ∧ wd.length ≤ 64 ∧ partA wd = true ∧ ∃ c r, wd = c :: r ∧ letterN c.toNat = true) ∨
  (k = 2 ∧ n = 0 ∧ wd.length ≤ 64 ∧ ∃ nm, wd = nm ++ [58] ∧ partA nm = true ∧ ∃ c r, nm = c :: r ∧ letterN c.toNat = true) ∨
  (k = 3 ∧ wd = [] ∧ InR n ∧ 0 ≤ n) ∨ (k = 4 ∧ n = 0 ∧ wd.length ≤ 4096) ∨ (k = 5 ∧ n = 0 ∧ wd.length ≤ 64) ∨ (k = 6 ∧ n = 0 ∧ isOpL wd = true) ∨
  ((k = 0 ∨ (7 ≤ k ∧ k ≤ 16)) ∧ n = 0 ∧ wd = [])
end Go.Proofs.YtfcceojfcmgmlaaGreatDoor.Fl

/-
  The lexer: a token as it is written is read back; what a token of a text is.
-/
namespace Go.Proofs.YtfcceojfcmgmlaaGreatDoor.Fl
open Go.RowKit

end Go.Proofs.YtfcceojfcmgmlaaGreatDoor.Fl

/-
  The lexer: what a token of a text is; where it stands.
-/
namespace Go.Proofs.YtfcceojfcmgmlaaGreatDoor.Fl
open Go.RowKit

end Go.Proofs.YtfcceojfcmgmlaaGreatDoor.Fl

/-
  The lexer: written.
-/
namespace Go.Proofs.YtfcceojfcmgmlaaGreatDoor.Fl
open Go.RowKit

theorem textL_any (n : Int) (w : World) (h0 : -9223372036854775808 ≤ n) (h1 : n ≤ 9223372036854775807) (he : EnvL w) :
    Calls Tryz.prog 62 #[.int .i64 n] w fun e w' => e = .returned (.string ⟨(Lib.itoa n).toArray⟩) ∧ Below w.heap.size w w' := by
  have htab := he.tab
  clear he
  go_enter Tryz.func62, Tryz.ntmps62
  go_wp2_with (go_at_call 83; refine (Tryz.strconv_FormatInt_10 _ h0 h1 _ htab).mono ?_; rintro e w' ⟨rfl, k, os, rfl⟩)
  go_ret
  exact ⟨rfl, Lib.below_grow _ _ (Nat.le_refl _) _ _⟩
end Go.Proofs.YtfcceojfcmgmlaaGreatDoor.Fl

/-
  LexJoins where both texts are read.
-/
namespace Go.Proofs.YtfcceojfcmgmlaaGreatDoor.Fl
open Go.RowKit

end Go.Proofs.YtfcceojfcmgmlaaGreatDoor.Fl

/-
  The lexer: Spell of what is a token.
-/
namespace Go.Proofs.YtfcceojfcmgmlaaGreatDoor.Fl
open Go.RowKit

end Go.Proofs.YtfcceojfcmgmlaaGreatDoor.Fl

/-
  The lexer: where the tokens of a text stand.
-/
namespace Go.Proofs.YtfcceojfcmgmlaaGreatDoor.Fl
open Go.RowKit

end Go.Proofs.YtfcceojfcmgmlaaGreatDoor.Fl

/-
  The lexer: a token as it is written, with a blank or a note behind it.
-/
namespace Go.Proofs.YtfcceojfcmgmlaaGreatDoor.Fl
open Go.RowKit

end Go.Proofs.YtfcceojfcmgmlaaGreatDoor.Fl

/-
  The lexer: a token as it is written, with a blank or a note behind it, is read as it.
-/
namespace Go.Proofs.YtfcceojfcmgmlaaGreatDoor.Fl
open Go.RowKit

end Go.Proofs.YtfcceojfcmgmlaaGreatDoor.Fl

/-
  The lexer: tokens that are written with notes ahead of each.
-/
namespace Go.Proofs.YtfcceojfcmgmlaaGreatDoor.Fl
open Go.RowKit

theorem TokV.zero {wd : List UInt8} {n : Int} (h : TokV 0 wd n) : wd = [] ∧ n = 0 := by
  rcases h with ⟨h, _⟩ | ⟨h, _⟩ | ⟨h, _⟩ | ⟨h, _⟩ | ⟨h, _⟩ | ⟨h, _⟩ | ⟨_, h1, h2⟩
  all_goals first
    | exact ⟨h2, h1⟩
    | cases h
end Go.Proofs.YtfcceojfcmgmlaaGreatDoor.Fl

/-
  Instructions: bytes and instructions in memory; the table of what they are like.
-/
namespace Go.Proofs.YtfcceojfcmgmlaaGreatDoor.Fl
open Go.RowKit Go.ChangeShapes

theorem lt_of_blkC {w : World} {k : Nat} {o : Obj} (h : w.heap[k]? = some o) : k < w.heap.size := by
  rcases Nat.lt_or_ge k w.heap.size with h1 | h1
  · exact h1
  · rw [Array.getElem?_eq_none h1] at h; cases h
/-! ### a row of bytes of the call's own -/
def OwnB (w : World) (base : Nat) (v : Value) (l : List UInt8) : Prop := w.ownsRow base 5 1 v l.length (cb l)
theorem OwnB.below {w w' : World} {base : Nat} {v : Value} {xs : List UInt8} (h : OwnB w base v xs) (hb : Below w.heap.size w w') : OwnB w' base v xs :=
  ⟨h.1, h.2.elim .inl fun ⟨g, cap, cur, hv, hbg, hg, r⟩ => .inr ⟨g, cap, cur, hv, hbg, (hb.block g (lt_of_blkC hg)).trans hg, r⟩⟩
/-! ### the table -/
def nm (s : List Nat) : List UInt8 := s.map UInt8.ofNat
section
variable {H : Type} {enc : TypeId × Value → H} {w : World} {base : Nat} {spare : Nat → Bool} {held : Bool} {fuel : Nat} {cs : List Value} {p : List MemPlace}
end
end Go.Proofs.YtfcceojfcmgmlaaGreatDoor.Fl

/-
  The document's lexer: keywords, operators, blanks and notes.
-/
namespace Go.Proofs.YtfcceojfcmgmlaaGreatDoor.Fl
open Go.RowKit

end Go.Proofs.YtfcceojfcmgmlaaGreatDoor.Fl

/-
  The document's lexer: texts between quotes, both ways.
-/
namespace Go.Proofs.YtfcceojfcmgmlaaGreatDoor.Fl
open Go.RowKit

end Go.Proofs.YtfcceojfcmgmlaaGreatDoor.Fl

/-
  The document's lexer: what a # is with.
-/
namespace Go.Proofs.YtfcceojfcmgmlaaGreatDoor.Fl
open Go.RowKit

/-- what stands while the document's token is made -/
structure RtW (w0 w : World) (C T : Nat) (v0 v1 v2 v3 : Value) : Prop where
  tok : w.heap[T]? = some (.cells #[v0, v1, v2, v3] 120 (0, 0))
  res : w.heap[C]? = some (.cells #[.int .i64 0, .string ⟨#[]⟩, .int .i64 0, .int .i64 0] 120 (0, 0))
  bel : Below w0.heap.size w0 w
  ne : T ≠ C ∧ w0.heap.size ≤ T ∧ w0.heap.size ≤ C
theorem RtW.below {w0 w w' : World} {C T : Nat} {v0 v1 v2 v3 : Value} (h : RtW w0 w C T v0 v1 v2 v3) (hb : Below w.heap.size w w') : RtW w0 w' C T v0 v1 v2 v3 :=
  ⟨(hb.block T (lt_of_blk h.tok)).trans h.tok, (hb.block C (lt_of_blk h.res)).trans h.res, h.bel.trans (hb.mono h.bel.size), h.ne⟩
theorem RtW.set {w0 w : World} {C T : Nat} {v0 v1 v2 v3 x0 x1 x2 x3 : Value} (h : RtW w0 w C T v0 v1 v2 v3) (j : Nat) (x : Value) (hx : (#[v0, v1, v2, v3] : Array Value).setIfInBounds j x = #[x0, x1, x2, x3]) : RtW w0 (w.setCell ⟨T, j, none⟩ x) C T x0 x1 x2 x3 :=
  ⟨by rw [← hx]; exact heap_setCell_same w T j _ _ x h.tok, (Below.heap_setCell w ⟨T, j, none⟩ x C (fun e => h.ne.1 e.symm)).trans h.res, h.bel.setCell (p := ⟨T, j, none⟩) h.ne.2.1 x, h.ne⟩
/-- the token is handed back -/
theorem RtW.fin {w0 w : World} {C T : Nat} {v0 v1 v2 v3 : Value} (h : RtW w0 w C T v0 v1 v2 v3) (x0 x1 x2 x3 : Value) :
    ((((w.setCell ⟨C, 0, none⟩ x0).setCell ⟨C, 1, none⟩ x1).setCell ⟨C, 2, none⟩ x2).setCell ⟨C, 3, none⟩ x3).heap[C]? = some (.cells #[x0, x1, x2, x3] 120 (0, 0)) ∧
    Below w0.heap.size w0 ((((w.setCell ⟨C, 0, none⟩ x0).setCell ⟨C, 1, none⟩ x1).setCell ⟨C, 2, none⟩ x2).setCell ⟨C, 3, none⟩ x3) :=
  ⟨set4 h.res _ _ _ _, (((h.bel.setCell (p := ⟨C, 0, none⟩) h.ne.2.2 x0).setCell (p := ⟨C, 1, none⟩) h.ne.2.2 x1).setCell (p := ⟨C, 2, none⟩) h.ne.2.2 x2).setCell (p := ⟨C, 3, none⟩) h.ne.2.2 x3⟩
end Go.Proofs.YtfcceojfcmgmlaaGreatDoor.Fl

/-
  The document's Parse of a text of any length.
-/
namespace Go.Proofs.YtfcceojfcmgmlaaGreatDoor.Fl
open Go.RowKit

end Go.Proofs.YtfcceojfcmgmlaaGreatDoor.Fl

/-
  The document's lexer: Next.
-/
namespace Go.Proofs.YtfcceojfcmgmlaaGreatDoor.Fl
open Go.RowKit

end Go.Proofs.YtfcceojfcmgmlaaGreatDoor.Fl

/-
  The document's lexer: All.
-/
namespace Go.Proofs.YtfcceojfcmgmlaaGreatDoor.Fl
open Go.RowKit

def OwnR (w : World) (base : Nat) (v : Value) (l : List Tok) : Prop := w.ownsRow base 120 4 v l.length (ct l)
theorem OwnR.below {w w' : World} {base : Nat} {v : Value} {xs : List Tok} (h : OwnR w base v xs) (hb : Below w.heap.size w w') : OwnR w' base v xs :=
  ⟨h.1, h.2.elim .inl fun ⟨g, cap, cur, hv, hbg, hg, r⟩ => .inr ⟨g, cap, cur, hv, hbg, (hb.block g (lt_of_blk hg)).trans hg, r⟩⟩
end Go.Proofs.YtfcceojfcmgmlaaGreatDoor.Fl

/-
  The document's chunks: blanks, a chunk from a place on.
-/
namespace Go.Proofs.YtfcceojfcmgmlaaGreatDoor.Fl
open Go.RowKit

end Go.Proofs.YtfcceojfcmgmlaaGreatDoor.Fl

/-
  The document's words between blanks; what is a token's kind and word; a header.
-/
namespace Go.Proofs.YtfcceojfcmgmlaaGreatDoor.Fl
open Go.RowKit

/-! ### a row of texts of the call's own -/
def cs_ (l : List (List UInt8)) : List Value := l.map fun x => .string (mkB x)
theorem cs_len (l : List (List UInt8)) : (cs_ l).length = l.length := by simp [cs_]
theorem cs_app (l m : List (List UInt8)) : cs_ (l ++ m) = cs_ l ++ cs_ m := by simp [cs_]
theorem cs_one (l : List (List UInt8)) : ∀ v ∈ cs_ l, v.oneCell' = true := by
  intro v h
  simp only [cs_, List.mem_map] at h
  obtain ⟨c, _, rfl⟩ := h
  rfl
theorem strInfo : (Tryz.prog.info? 9).map (fun i => (i.zero, i.size, i.bytes)) = some (some (.string ⟨#[]⟩), 1, 16) := by kernel_rfl
def OwnS (w : World) (base : Nat) (v : Value) (l : List (List UInt8)) : Prop := w.ownsRow base 9 1 v l.length (cs_ l)
theorem OwnS.below {w w' : World} {base : Nat} {v : Value} {xs : List (List UInt8)} (h : OwnS w base v xs) (hb : Below w.heap.size w w') : OwnS w' base v xs :=
  ⟨h.1, h.2.elim .inl fun ⟨g, cap, cur, hv, hbg, hg, r⟩ => .inr ⟨g, cap, cur, hv, hbg, (hb.block g (lt_of_blkC hg)).trans hg, r⟩⟩
/-! ### words -/
end Go.Proofs.YtfcceojfcmgmlaaGreatDoor.Fl

/-
  The document's headers.
-/
namespace Go.Proofs.YtfcceojfcmgmlaaGreatDoor.Fl
open Go.RowKit

end Go.Proofs.YtfcceojfcmgmlaaGreatDoor.Fl

/-
  The document's class definitions.
-/
namespace Go.Proofs.YtfcceojfcmgmlaaGreatDoor.Fl
open Go.RowKit

theorem OwnS.wide {w : World} {base base' : Nat} {v : Value} {xs : List (List UInt8)} (h : OwnS w base v xs) (hb : base' ≤ base) : OwnS w base' v xs :=
  ⟨h.1, h.2.elim .inl fun ⟨g, cap, cur, hv, hbg, hg, r⟩ => .inr ⟨g, cap, cur, hv, Nat.le_trans hb hbg, hg, r⟩⟩
theorem OwnS.cell {w : World} {base : Nat} {v : Value} {xs : List (List UInt8)} (h : OwnS w base v xs) {P k : Nat} (hP : v.ownBlock ≠ some P) (x : Value) : OwnS (w.setCell ⟨P, k, none⟩ x) base v xs := ownsRow_setCell_other h (a := ⟨P, k, none⟩) hP x
end Go.Proofs.YtfcceojfcmgmlaaGreatDoor.Fl

/-
  Trees of nodes, in memory.
-/
namespace Go.Proofs.YtfcceojfcmgmlaaGreatDoor.Fl
open Go.RowKit

/-- a node: kind, name, number, kids, names, place -/
inductive Nd where
  | mk (kd : Int) (nm : List UInt8) (nu : Int) (kids : List Nd) (ns : List (List UInt8)) (at_ : Int) : Nd
namespace Nd
def kd : Nd → Int | .mk a _ _ _ _ _ => a
def nm : Nd → List UInt8 | .mk _ a _ _ _ _ => a
def nu : Nd → Int | .mk _ _ a _ _ _ => a
def kids : Nd → List Nd | .mk _ _ _ a _ _ => a
def ns : Nd → List (List UInt8) | .mk _ _ _ _ a _ => a
def at_ : Nd → Int | .mk _ _ _ _ _ a => a
end Nd
mutual
def cntN : Nd → Nat
  | .mk _ _ _ ks _ _ => 1 + cntL ks
def cntL : List Nd → Nat
  | [] => 0
  | x :: l => cntN x + cntL l
end
mutual
def depN : Nd → Nat
  | .mk _ _ _ ks _ _ => 1 + depL ks
def depL : List Nd → Nat
  | [] => 0
  | x :: l => max (depN x) (depL l)
end
mutual
def allN : Nd → List Nd
  | .mk a b c ks d e => .mk a b c ks d e :: allL ks
def allL : List Nd → List Nd
  | [] => []
  | x :: l => allN x ++ allL l
end
mutual
def sameN : Nd → Nd → Bool
  | .mk k n u ks ns _, .mk k' n' u' ks' ns' _ => k == k' && (n == n' && (u == u' && (ns == ns' && sameL ks ks')))
def sameL : List Nd → List Nd → Bool
  | [], [] => true
  | x :: l, y :: m => sameN x y && sameL l m
  | [], _ :: _ => false
  | _ :: _, [] => false
end
theorem cntN_eq (x : Nd) : cntN x = 1 + cntL x.kids := by cases x; rfl
theorem allN_eq (x : Nd) : allN x = x :: allL x.kids := by cases x; rfl
theorem depN_eq (x : Nd) : depN x = 1 + depL x.kids := by cases x; rfl
theorem sameN_eq (x y : Nd) : sameN x y = (x.kd == y.kd && (x.nm == y.nm && (x.nu == y.nu && (x.ns == y.ns && sameL x.kids y.kids)))) := by cases x; cases y; rfl
theorem cnt_mem : ∀ {l : List Nd} {x : Nd}, x ∈ l → cntN x ≤ cntL l
  | [], _, h => by cases h
  | y :: l, x, h => by
    rw [cntL]
    rcases List.mem_cons.1 h with rfl | h
    · omega
    · have := cnt_mem h; omega
theorem cnt_kid {l : List Nd} {i : Nat} (h : i < l.length) : cntL l[i].kids < cntL l := by
  have h1 := cnt_mem (List.getElem_mem h)
  rw [cntN_eq] at h1
  omega
theorem cnt_len : ∀ l : List Nd, l.length ≤ cntL l
  | [] => Nat.le_refl _
  | x :: l => by
    have := cnt_len l
    rw [List.length_cons, cntL, cntN_eq]; omega
theorem allL_app : ∀ l m : List Nd, allL (l ++ m) = allL l ++ allL m
  | [], _ => rfl
  | x :: l, m => by rw [List.cons_append, allL, allL, allL_app l m, List.append_assoc]
theorem allL_len : ∀ (n : Nat) (l : List Nd), cntL l ≤ n → (allL l).length = cntL l
  | _, [], _ => rfl
  | 0, x :: l, h => by rw [cntL, cntN_eq] at h; omega
  | n + 1, x :: l, h => by
    rw [cntL, cntN_eq] at h
    rw [allL, allN_eq, List.length_append, List.length_cons, allL_len n _ (by omega), allL_len n _ (by omega), cntL, cntN_eq]
    omega
theorem sameL_snoc : ∀ {a b : List Nd} (x y : Nd), a.length = b.length → sameL (a ++ [x]) (b ++ [y]) = (sameL a b && sameN x y)
  | [], [], x, y, _ => by simp [sameL]
  | [], _ :: _, _, _, h => by cases h
  | _ :: _, [], _, _, h => by cases h
  | u :: a, v :: b, x, y, h => by
    rw [List.cons_append, List.cons_append, sameL, sameL, sameL_snoc x y (by simpa using h), Bool.and_assoc]
theorem sameL_len : ∀ {a b : List Nd}, a.length ≠ b.length → sameL a b = false
  | [], [], h => absurd rfl h
  | [], _ :: _, _ => rfl
  | _ :: _, [], _ => rfl
  | u :: a, v :: b, h => by rw [sameL, sameL_len (by simpa using h), Bool.and_false]
theorem sameL_take {a b : List Nd} {i : Nat} (h1 : i < a.length) (h2 : i < b.length) : sameL (a.take (i + 1)) (b.take (i + 1)) = (sameL (a.take i) (b.take i) && sameN a[i] b[i]) := by
  rw [List.take_succ_eq_append_getElem h1, List.take_succ_eq_append_getElem h2, sameL_snoc _ _ (by rw [List.length_take, List.length_take]; omega)]
theorem sameL_false : ∀ {a b : List Nd} {i : Nat} (h1 : i < a.length) (h2 : i < b.length), sameN a[i] b[i] = false → sameL a b = false
  | [], _, _, h1, _, _ => by simp at h1
  | _ :: _, [], _, _, h2, _ => by simp at h2
  | u :: a, v :: b, 0, _, _, h => by rw [sameL]; have h : sameN u v = false := h; rw [h]; rfl
  | u :: a, v :: b, i + 1, h1, h2, h => by rw [sameL, sameL_false (i := i) (by simpa using h1) (by simpa using h2) (by simpa using h), Bool.and_false]
mutual
theorem sameN_refl : ∀ x : Nd, sameN x x = true
  | .mk k n u ks ns a => by rw [sameN, sameL_refl ks]; simp
theorem sameL_refl : ∀ l : List Nd, sameL l l = true
  | [] => rfl
  | x :: l => by rw [sameL, sameN_refl x, sameL_refl l]; rfl
end
/-! ### in memory -/
/-- a row of texts, in blocks such as these -/
def SrAt (w : World) (P : Nat → Prop) (A : Option Addr) (ns : List (List UInt8)) : Prop :=
  ns = [] ∨ ∃ b off, A = some ⟨b, off, none⟩ ∧ P b ∧ ∀ (j : Nat) v, (cs_ ns)[j]? = some v → w.cell? ⟨b, off + j, none⟩ = some v
inductive NdAt (w : World) (P : Nat → Prop) : Nat → Nat → Nd → Prop
  | mk {b o : Nat} {kd : Int} {nm : List UInt8} {nu : Int} {kids : List Nd} {ns : List (List UInt8)} {at_ : Int} (Ak : Option Addr) (ck : Nat) (An : Option Addr) (cn bk ok : Nat) :
    P b → w.cell? ⟨b, o, none⟩ = some (.int .i64 kd) → w.cell? ⟨b, o + 1, none⟩ = some (.string (mkB nm)) → w.cell? ⟨b, o + 2, none⟩ = some (.int .i64 nu) →
    w.cell? ⟨b, o + 3, none⟩ = some (.slice Ak kids.length ck) → w.cell? ⟨b, o + 4, none⟩ = some (.slice An ns.length cn) → w.cell? ⟨b, o + 5, none⟩ = some (.int .i64 at_) →
    kids.length ≤ ck → ns.length ≤ cn → ck ≤ 9223372036854775807 → cn ≤ 9223372036854775807 → SrAt w P An ns → (kids ≠ [] → Ak = some ⟨bk, ok, none⟩ ∧ P bk) → (∀ (i : Nat) (h : i < kids.length), NdAt w P bk (ok + i * 6) kids[i]) →
    (Ak = none → kids = []) → (An = none → ns = []) → NdAt w P b o (.mk kd nm nu kids ns at_)
def NdsAt (w : World) (P : Nat → Prop) (A : Option Addr) (l : List Nd) : Prop :=
  l = [] ∨ ∃ b off, A = some ⟨b, off, none⟩ ∧ P b ∧ ∀ (i : Nat) (h : i < l.length), NdAt w P b (off + i * 6) l[i]
theorem SrAt.keep {w w' : World} {P P' : Nat → Prop} {A : Option Addr} {ns : List (List UInt8)} (h : SrAt w P A ns) (hk : ∀ b, P b → w'.heap[b]? = w.heap[b]? ∧ P' b) : SrAt w' P' A ns := by
  rcases h with h | ⟨b, off, rfl, hb, hc⟩
  · exact .inl h
  · refine .inr ⟨b, off, rfl, (hk b hb).2, fun j v hj => ?_⟩
    have := hc j v hj
    unfold World.cell? at this ⊢
    rw [(hk b hb).1]; exact this
theorem cell_keep {w w' : World} {b o : Nat} {v : Value} (h : w.cell? ⟨b, o, none⟩ = some v) (hk : w'.heap[b]? = w.heap[b]?) : w'.cell? ⟨b, o, none⟩ = some v := by
  unfold World.cell? at h ⊢
  rw [hk]; exact h
theorem NdAt.keep {w w' : World} {P P' : Nat → Prop} {b o : Nat} {x : Nd} (h : NdAt w P b o x) (hk : ∀ b, P b → w'.heap[b]? = w.heap[b]? ∧ P' b) : NdAt w' P' b o x := by
  induction h with
  | mk Ak ck An cn bk ok hb c0 c1 c2 c3 c4 c5 h1 h2 m1 m2 hs hkk _ h3 h4 ih =>
    have e := (hk _ hb).1
    exact .mk Ak ck An cn bk ok (hk _ hb).2 (cell_keep c0 e) (cell_keep c1 e) (cell_keep c2 e) (cell_keep c3 e) (cell_keep c4 e) (cell_keep c5 e) h1 h2 m1 m2 (hs.keep hk) (fun h => ⟨(hkk h).1, (hk _ (hkk h).2).2⟩) ih h3 h4
theorem NdsAt.keep {w w' : World} {P P' : Nat → Prop} {A : Option Addr} {l : List Nd} (h : NdsAt w P A l) (hk : ∀ b, P b → w'.heap[b]? = w.heap[b]? ∧ P' b) : NdsAt w' P' A l := by
  rcases h with h | ⟨b, off, rfl, hb, hc⟩
  · exact .inl h
  · exact .inr ⟨b, off, rfl, (hk b hb).2, fun i hi => (hc i hi).keep hk⟩
/-- anywhere below a place of memory -/
abbrev Lo (B : Nat) : Nat → Prop := fun b => b < B
theorem NdsAt.below {w w' : World} {B B' : Nat} {A : Option Addr} {l : List Nd} (h : NdsAt w (Lo B) A l) (hb : Below B w w') (hB : B ≤ B') : NdsAt w' (Lo B') A l :=
  h.keep fun b hlt => ⟨hb.block b hlt, Nat.lt_of_lt_of_le hlt hB⟩
theorem SrAt.below {w w' : World} {B B' : Nat} {A : Option Addr} {l : List (List UInt8)} (h : SrAt w (Lo B) A l) (hb : Below B w w') (hB : B ≤ B') : SrAt w' (Lo B') A l :=
  h.keep fun b hlt => ⟨hb.block b hlt, Nat.lt_of_lt_of_le hlt hB⟩
theorem NdsAt.at_ {w : World} {P : Nat → Prop} {A : Option Addr} {l : List Nd} (h : NdsAt w P A l) {i : Nat} (hi : i < l.length) :
    ∃ b off, A = some ⟨b, off, none⟩ ∧ P b ∧ ∃ (Ak : Option Addr) (ck : Nat) (An : Option Addr) (cn : Nat), w.cell? ⟨b, off + i * 6, none⟩ = some (.int .i64 l[i].kd) ∧ w.cell? ⟨b, off + i * 6 + 1, none⟩ = some (.string (mkB l[i].nm)) ∧ w.cell? ⟨b, off + i * 6 + 2, none⟩ = some (.int .i64 l[i].nu) ∧
      w.cell? ⟨b, off + i * 6 + 3, none⟩ = some (.slice Ak l[i].kids.length ck) ∧ w.cell? ⟨b, off + i * 6 + 4, none⟩ = some (.slice An l[i].ns.length cn) ∧ w.cell? ⟨b, off + i * 6 + 5, none⟩ = some (.int .i64 l[i].at_) ∧
      l[i].kids.length ≤ ck ∧ l[i].ns.length ≤ cn ∧ ck ≤ 9223372036854775807 ∧ cn ≤ 9223372036854775807 ∧ SrAt w P An l[i].ns ∧ NdsAt w P Ak l[i].kids ∧ (Ak = none → l[i].kids = []) ∧ (An = none → l[i].ns = []) := by
  rcases h with h | ⟨b, off, rfl, hb, hc⟩
  · rw [h] at hi; cases hi
  · refine ⟨b, off, rfl, hb, ?_⟩
    have h := hc i hi
    generalize l[i] = x at h ⊢
    cases h with
    | mk Ak ck An cn bk ok hb c0 c1 c2 c3 c4 c5 h1 h2 m1 m2 hs hkk hn h3 h4 =>
      refine ⟨Ak, ck, An, cn, c0, c1, c2, c3, c4, c5, h1, h2, m1, m2, hs, ?_, h3, h4⟩
      show NdsAt w P Ak _
      rename_i kids _ _
      by_cases hk0 : kids = []
      · exact .inl hk0
      · exact .inr ⟨bk, ok, (hkk hk0).1, (hkk hk0).2, hn⟩
theorem SrAt.get {w : World} {P : Nat → Prop} {A : Option Addr} {ns : List (List UInt8)} (h : SrAt w P A ns) {i : Nat} (hi : i < ns.length) : ∃ b off, A = some ⟨b, off, none⟩ ∧ P b ∧ w.cell? ⟨b, off + i, none⟩ = some (.string (mkB ns[i])) := by
  rcases h with h | ⟨b, off, rfl, hb, hc⟩
  · rw [h] at hi; cases hi
  · exact ⟨b, off, rfl, hb, hc i _ (by simp [cs_, hi])⟩
end Go.Proofs.YtfcceojfcmgmlaaGreatDoor.Fl

/-
  The document's trees: have two the same?
-/
namespace Go.Proofs.YtfcceojfcmgmlaaGreatDoor.Fl
open Go.RowKit Go.Shelf

set_option maxRecDepth 100000 in
set_option maxHeartbeats 4000000 in
theorem rsameNames_any (xs ys : List (List UInt8)) (A A' : Option Addr) (c c' B : Nat) (w : World) (h : SrAt w (Lo B) A xs) (h' : SrAt w (Lo B) A' ys) (hB : B ≤ w.heap.size) (hc : xs.length ≤ c) (hc' : ys.length ≤ c') (hl : c ≤ 9223372036854775807) (_hl' : c' ≤ 9223372036854775807) :
    Calls Tryz.prog 42 #[.slice A xs.length c, .slice A' ys.length c'] w fun e w' => e = .returned (.bool (xs == ys)) ∧ Below w.heap.size w w' := by
  have H1 := Lib.hid h
  have H2 := Lib.hid h'
  clear h h'
  go_enter Tryz.func42, Tryz.ntmps42
  by_cases hn : xs.length = ys.length
  case neg =>
    have hne : ((xs.length : Int) != (ys.length : Int)) = true := by rw [bne_iff_ne]; omega
    have HE := Lib.hid (show (xs == ys) = false from beq_eq_false_iff_ne.2 fun e => hn (by rw [e]))
    go_wp2_with fail
    go_ret
    exact ⟨by rw [HE.out]; rfl, Below.refl _ _⟩
  have hne : ((xs.length : Int) != (ys.length : Int)) = false := by rw [hn]; simp
  go_wp2_with fail
  go_loopw [5] (fun v wr => ∃ i : Nat, i ≤ xs.length ∧ v = .int .i64 (i : Int) ∧ Hid (xs.take i = ys.take i) ∧ Hid (Below w.heap.size w wr)) (fun v _ => xs.length - (intOf v).toNat)
  case atStart => exact ⟨0, Nat.zero_le _, rfl, Lib.hid rfl, Lib.hid (Below.refl _ _)⟩
  case round =>
    obtain ⟨i, hi, rfl, HT, HB⟩ := hrel
    by_cases hlt : i < xs.length
    case neg =>
      have hq : ¬ ((i : Int) < (xs.length : Int)) := by omega
      have HE := Lib.hid (show (xs == ys) = true by
        have h := HT.out
        rw [List.take_of_length_le (by omega), List.take_of_length_le (by omega)] at h
        rw [h]; simp)
      go_wp2_with fail
      go_ret
      exact ⟨by rw [HE.out]; rfl, HB.out⟩
    have hq : (i : Int) < (xs.length : Int) := by omega
    have hlt' : i < ys.length := by omega
    have hq' : (i : Int) < (ys.length : Int) := by omega
    obtain ⟨b, o, rfl, hb, hcell⟩ := (H1.out.below (HB.out.mono hB) (Nat.le_refl _)).get hlt
    obtain ⟨b', o', rfl, hb', hcell'⟩ := (H2.out.below (HB.out.mono hB) (Nat.le_refl _)).get hlt'
    have hbw : b < wr.heap.size := Nat.lt_of_lt_of_le hb (Nat.le_trans hB HB.out.size)
    have hbw' : b' < wr.heap.size := Nat.lt_of_lt_of_le hb' (Nat.le_trans hB HB.out.size)
    have HX := Lib.hid (show xs.take (i + 1) = xs.take i ++ [xs[i]] from List.take_succ_eq_append_getElem hlt)
    have HY := Lib.hid (show ys.take (i + 1) = ys.take i ++ [ys[i]] from List.take_succ_eq_append_getElem hlt')
    have HN := Lib.hid (show xs[i] ≠ ys[i] → xs ≠ ys from fun h e => h (by subst e; rfl))
    generalize xs[i] = x at *
    generalize ys[i] = y at *
    have HBn : ∀ n, Hid (Below w.heap.size w (wr.drewN n)) := fun n => Lib.hid (_root_.Go.below_drewN HB.out n)
    clear hb hb'
    by_cases he : x = y
    · have hb1 : (x == y) = true := by rw [he]; simp
      have HT2 := Lib.hid (show xs.take (i + 1) = ys.take (i + 1) by rw [HX.out, HY.out, HT.out, he])
      clear he HN
      go_upto_region 6 with fail
      go_quiet (fail)
      go_wp2_with fail
      go_roundw
      case rel => exact ⟨i + 1, by omega, by simp, HT2, HBn _⟩
      case measure => simp [intOf]; omega
    · have hb1 : (x == y) = false := beq_eq_false_iff_ne.2 he
      have HE := Lib.hid (show (xs == ys) = false from beq_eq_false_iff_ne.2 (HN.out he))
      clear he HN
      go_upto_region 6 with fail
      go_quiet (fail)
      go_wp2_with fail
      go_ret
      exact ⟨by rw [HE.out]; rfl, (HBn _).out⟩
set_option maxRecDepth 100000 in
set_option maxHeartbeats 16000000 in
theorem rsameNodes_any (n : Nat) : ∀ (xs ys : List Nd) (A A' : Option Addr) (c c' B : Nat) (w : World), cntL xs ≤ n → NdsAt w (Lo B) A xs → NdsAt w (Lo B) A' ys → B ≤ w.heap.size → xs.length ≤ c → ys.length ≤ c' → c ≤ 9223372036854775807 → c' ≤ 9223372036854775807 →
    Calls Tryz.prog 43 #[.slice A xs.length c, .slice A' ys.length c'] w fun e w' => e = .returned (.bool (sameL xs ys)) ∧ Below w.heap.size w w' := by
  induction n with
  | zero =>
    intro xs ys A A' c c' B w hn h h' hB hc hc' hl hl'
    have hx0 : xs = [] := by cases xs; rfl; rw [cntL, cntN_eq] at hn; omega
    subst hx0
    go_enter Tryz.func43, Tryz.ntmps43
    cases ys with
    | nil =>
      have hne : ((0 : Int) != (0 : Int)) = false := rfl
      go_wp2_with fail
      go_loopw [5] (fun v wr => v = .int .i64 0 ∧ w = wr) (fun v _ => 0)
      case atStart => exact ⟨rfl, rfl⟩
      case round =>
        obtain ⟨rfl, rfl⟩ := hrel
        go_wp2_with fail
        go_ret
        exact ⟨rfl, Below.refl _ _⟩
    | cons y ys =>
      have hne : ((0 : Int) != (((y :: ys).length : Nat) : Int)) = true := by rw [bne_iff_ne, List.length_cons]; omega
      generalize hm : (y :: ys).length = m at *
      have HE := Lib.hid (show sameL [] (y :: ys) = false from rfl)
      go_wp2_with fail
      go_ret
      exact ⟨by rw [HE.out]; rfl, Below.refl _ _⟩
  | succ n ih =>
    intro xs ys A A' c c' B w hn h h' hB hc hc' hl hl'
    have H1 := Lib.hid h
    have H2 := Lib.hid h'
    clear h h'
    go_enter Tryz.func43, Tryz.ntmps43
    by_cases hln : xs.length = ys.length
    case neg =>
      have hne : ((xs.length : Int) != (ys.length : Int)) = true := by rw [bne_iff_ne]; omega
      have HE := Lib.hid (show sameL xs ys = false from sameL_len hln)
      go_wp2_with fail
      go_ret
      exact ⟨by rw [HE.out]; rfl, Below.refl _ _⟩
    have hne : ((xs.length : Int) != (ys.length : Int)) = false := by rw [hln]; simp
    go_wp2_with fail
    go_loopw [5] (fun v wr => ∃ i : Nat, i ≤ xs.length ∧ v = .int .i64 (i : Int) ∧ Hid (sameL (xs.take i) (ys.take i) = true) ∧ Hid (Below w.heap.size w wr)) (fun v _ => xs.length - (intOf v).toNat)
    case atStart => exact ⟨0, Nat.zero_le _, rfl, Lib.hid rfl, Lib.hid (Below.refl _ _)⟩
    case round =>
      obtain ⟨i, hi, rfl, HT, HB⟩ := hrel
      by_cases hlt : i < xs.length
      case neg =>
        have hq : ¬ ((i : Int) < (xs.length : Int)) := by omega
        have HE := Lib.hid (show sameL xs ys = true by
          have h := HT.out
          rw [List.take_of_length_le (by omega), List.take_of_length_le (by omega)] at h
          exact h)
        go_wp2_with fail
        go_ret
        exact ⟨by rw [HE.out]; rfl, HB.out⟩
      have hq : (i : Int) < (xs.length : Int) := by omega
      have hlt' : i < ys.length := by omega
      have hq' : (i : Int) < (ys.length : Int) := by omega
      have hBw := Nat.le_trans hB HB.out.size
      obtain ⟨b, o, rfl, hb, Ak, ck, An, cn, d0, d1, d2, d3, d4, d5, g1, g2, g3, g4, g5, g6, _, _⟩ := (H1.out.below (HB.out.mono hB) (Nat.le_refl _)).at_ hlt
      obtain ⟨b', o', rfl, hb', Ak', ck', An', cn', e0, e1, e2, e3, e4, e5, f1, f2, f3, f4, f5, f6, _, _⟩ := (H2.out.below (HB.out.mono hB) (Nat.le_refl _)).at_ hlt'
      have hbw : b < wr.heap.size := Nat.lt_of_lt_of_le hb hBw
      have hbw' : b' < wr.heap.size := Nat.lt_of_lt_of_le hb' hBw
      have hck := cnt_kid hlt
      have HSN : Hid (∀ w', Below wr.heap.size wr w' → Calls Tryz.prog 42 #[.slice An xs[i].ns.length cn, .slice An' ys[i].ns.length cn'] w' fun e w'' => e = .returned (.bool (xs[i].ns == ys[i].ns)) ∧ Below w'.heap.size w' w'') :=
        Lib.hid (fun w' hb => rsameNames_any _ _ An An' cn cn' B w' (g5.below (hb.mono hBw) (Nat.le_refl _)) (f5.below (hb.mono hBw) (Nat.le_refl _)) (Nat.le_trans hBw hb.size) g2 f2 g4 f4)
      have HSK : Hid (∀ w', Below wr.heap.size wr w' → Calls Tryz.prog 43 #[.slice Ak xs[i].kids.length ck, .slice Ak' ys[i].kids.length ck'] w' fun e w'' => e = .returned (.bool (sameL xs[i].kids ys[i].kids)) ∧ Below w'.heap.size w' w'') :=
        Lib.hid (fun w' hb => ih _ _ Ak Ak' ck ck' B w' (by omega) (g6.below (hb.mono hBw) (Nat.le_refl _)) (f6.below (hb.mono hBw) (Nat.le_refl _)) (Nat.le_trans hBw hb.size) g1 f1 g3 f3)
      have HM := Lib.hid (sameL_take hlt hlt')
      have HN := Lib.hid (sameL_false hlt hlt')
      clear g5 g6 f5 f6 g1 g2 g3 g4 f1 f2 f3 f4 hb hb' ih
      generalize xs[i] = x at *
      generalize ys[i] = y at *
      cases hc0 : (x.kd == y.kd)
      · skip
        have hb0 : (x.kd != y.kd) = true := by simp [bne, hc0]
        have HE := Lib.hid (show sameL xs ys = false from HN.out (by rw [sameN_eq, hc0]; rfl))
        clear HN
        have hx := fun (z : Grow wr) => z.cell
        go_upto_region 6 with fail
        refine wp_region_grow (by kernel_rfl) (by kernel_rfl) ?_
        simp only [List.append_eq, List.cons_append, List.nil_append]
        repeat (go_big_quiet_step (fail))
        refine wpQuiet_nil ?_
        rintro _ ⟨z, rfl⟩
        have hb := Lib.hid (HB.out.trans (z.below.mono HB.out.size))
        clear hx
        go_wp2_with fail
        go_ret
        exact ⟨by rw [HE.out]; rfl, hb.out⟩
      cases hc1 : (x.nm == y.nm)
      · skip
        have hb0 : (x.kd != y.kd) = false := by simp [bne, hc0]
        have hb1 : (x.nm != y.nm) = true := by simp [bne, hc1]
        have HE := Lib.hid (show sameL xs ys = false from HN.out (by rw [sameN_eq, hc0, hc1]; rfl))
        clear HN
        have hx := fun (z : Grow wr) => z.cell
        go_upto_region 6 with fail
        refine wp_region_grow (by kernel_rfl) (by kernel_rfl) ?_
        simp only [List.append_eq, List.cons_append, List.nil_append]
        repeat (go_big_quiet_step (fail))
        refine wpQuiet_nil ?_
        rintro _ ⟨z, rfl⟩
        have hb := Lib.hid (HB.out.trans (z.below.mono HB.out.size))
        clear hx
        go_wp2_with fail
        go_ret
        exact ⟨by rw [HE.out]; rfl, hb.out⟩
      cases hc2 : (x.nu == y.nu)
      · skip
        have hb0 : (x.kd != y.kd) = false := by simp [bne, hc0]
        have hb1 : (x.nm != y.nm) = false := by simp [bne, hc1]
        have hb2 : (x.nu != y.nu) = true := by simp [bne, hc2]
        have HE := Lib.hid (show sameL xs ys = false from HN.out (by rw [sameN_eq, hc0, hc1, hc2]; rfl))
        clear HN
        have hx := fun (z : Grow wr) => z.cell
        go_upto_region 6 with fail
        refine wp_region_grow (by kernel_rfl) (by kernel_rfl) ?_
        simp only [List.append_eq, List.cons_append, List.nil_append]
        repeat (go_big_quiet_step (fail))
        refine wpQuiet_nil ?_
        rintro _ ⟨z, rfl⟩
        have hb := Lib.hid (HB.out.trans (z.below.mono HB.out.size))
        clear hx
        go_wp2_with fail
        go_ret
        exact ⟨by rw [HE.out]; rfl, hb.out⟩
      cases hc3 : (x.ns == y.ns)
      · skip
        have hb0 : (x.kd != y.kd) = false := by simp [bne, hc0]
        have hb1 : (x.nm != y.nm) = false := by simp [bne, hc1]
        have hb2 : (x.nu != y.nu) = false := by simp [bne, hc2]
        have hb3 : (x.ns != y.ns) = true := by simp [bne, hc3]
        have HE := Lib.hid (show sameL xs ys = false from HN.out (by rw [sameN_eq, hc0, hc1, hc2, hc3]; rfl))
        clear HN
        have hsn := fun (z : Grow wr) => HSN.out z.w z.below
        rw [hc3] at hsn
        have hx := fun (z : Grow wr) => z.cell
        go_upto_region 6 with fail
        refine wp_region_grow (by kernel_rfl) (by kernel_rfl) ?_
        simp only [List.append_eq, List.cons_append, List.nil_append]
        repeat (go_big_quiet_step ((go_at_call 42; exact Grow.call _ (hsn _))))
        refine wpQuiet_nil ?_
        rintro _ ⟨z, rfl⟩
        have hb := Lib.hid (HB.out.trans (z.below.mono HB.out.size))
        clear hx hsn
        go_wp2_with fail
        go_ret
        exact ⟨by rw [HE.out]; rfl, hb.out⟩
      cases hc4 : (sameL x.kids y.kids)
      · skip
        have hb0 : (x.kd != y.kd) = false := by simp [bne, hc0]
        have hb1 : (x.nm != y.nm) = false := by simp [bne, hc1]
        have hb2 : (x.nu != y.nu) = false := by simp [bne, hc2]
        have hb3 : (x.ns != y.ns) = false := by simp [bne, hc3]
        have HE := Lib.hid (show sameL xs ys = false from HN.out (by rw [sameN_eq, hc0, hc1, hc2, hc3, hc4]; rfl))
        clear HN
        have hsn := fun (z : Grow wr) => HSN.out z.w z.below
        rw [hc3] at hsn
        have hsk := fun (z : Grow wr) => HSK.out z.w z.below
        rw [hc4] at hsk
        have hx := fun (z : Grow wr) => z.cell
        go_upto_region 6 with fail
        refine wp_region_grow (by kernel_rfl) (by kernel_rfl) ?_
        simp only [List.append_eq, List.cons_append, List.nil_append]
        repeat (go_big_quiet_step (first | (go_at_call 42; exact Grow.call _ (hsn _)) | (go_at_call 43; exact Grow.call _ (hsk _))))
        refine wpQuiet_nil ?_
        rintro _ ⟨z, rfl⟩
        have hb := Lib.hid (HB.out.trans (z.below.mono HB.out.size))
        clear hx hsn hsk
        go_wp2_with fail
        go_ret
        exact ⟨by rw [HE.out]; rfl, hb.out⟩
      have hb0 : (x.kd != y.kd) = false := by simp [bne, hc0]
      have hb1 : (x.nm != y.nm) = false := by simp [bne, hc1]
      have hb2 : (x.nu != y.nu) = false := by simp [bne, hc2]
      have hb3 : (x.ns != y.ns) = false := by simp [bne, hc3]
      have HT2 := Lib.hid (show sameL (xs.take (i + 1)) (ys.take (i + 1)) = true by rw [HM.out, HT.out, sameN_eq, hc0, hc1, hc2, hc3, hc4]; rfl)
      clear HN
      have hsn := fun (z : Grow wr) => HSN.out z.w z.below
      rw [hc3] at hsn
      have hsk := fun (z : Grow wr) => HSK.out z.w z.below
      rw [hc4] at hsk
      have hx := fun (z : Grow wr) => z.cell
      go_upto_region 6 with fail
      refine wp_region_grow (by kernel_rfl) (by kernel_rfl) ?_
      simp only [List.append_eq, List.cons_append, List.nil_append]
      repeat (go_big_quiet_step (first | (go_at_call 42; exact Grow.call _ (hsn _)) | (go_at_call 43; exact Grow.call _ (hsk _))))
      refine wpQuiet_nil ?_
      rintro _ ⟨z, rfl⟩
      have hb := Lib.hid (HB.out.trans (z.below.mono HB.out.size))
      clear hx hsn hsk
      go_wp2_with fail
      go_roundw
      case rel => exact ⟨i + 1, by omega, by simp, HT2, hb⟩
      case measure => simp [intOf]; omega
end Go.Proofs.YtfcceojfcmgmlaaGreatDoor.Fl
