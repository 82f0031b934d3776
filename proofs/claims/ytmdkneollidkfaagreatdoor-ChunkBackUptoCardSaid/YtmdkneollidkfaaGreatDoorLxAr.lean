/-
  The lexer: a text parted at each colon; the statement that ranges over strings.SplitSeq(s, ":").
-/
import Derived.Test.YtmdkneollidkfaaGreatDoorLxW
import Derived.Test.YtmdkneollidkfaaGreatDoorLxP
namespace Go.Proofs.YtmdkneollidkfaaGreatDoor.Fl
open Go.RowKit Go.Shelf
attribute [local go_sem] Oper.semAt_some

def spl : List UInt8 → List (List UInt8)
  | [] => [[]]
  | c :: l => if c = 58 then [] :: spl l else match spl l with
    | [] => [[c]]
    | p :: ps => (c :: p) :: ps
theorem spl_index : ∀ l : List UInt8, spl l = if Lib.indexByte l 58 < 0 then [l] else l.take (Lib.indexByte l 58).toNat :: spl (l.drop ((Lib.indexByte l 58).toNat + 1))
  | [] => rfl
  | c :: l => by
    have ih := spl_index l
    have hg := indexByte_ge 58 l
    rw [spl]
    by_cases hc : c = 58
    · rw [if_pos hc]
      subst hc
      rw [show Lib.indexByte ((58 : UInt8) :: l) 58 = 0 from by simp [Lib.indexByte]]
      simp
    · rw [if_neg hc, ih]
      have hb : (c == 58) = false := by simpa using hc
      by_cases hn : Lib.indexByte l 58 < 0
      · have h1 : Lib.indexByte l 58 = -1 := by omega
        rw [if_pos hn, show Lib.indexByte (c :: l) 58 = -1 from by simp [Lib.indexByte, hb, h1]]
        rfl
      · have h1 : (Lib.indexByte l 58 == -1) = false := by simp; omega
        have h2 : Lib.indexByte (c :: l) 58 = Lib.indexByte l 58 + 1 := by simp [Lib.indexByte, hb, h1]
        rw [if_neg hn, h2, if_neg (by omega), show (Lib.indexByte l 58 + 1).toNat = (Lib.indexByte l 58).toNat + 1 by omega]
        rfl
def encL (x : List UInt8) : Array Value := #[.string ⟨x.toArray⟩]
theorem mk_sb (t : ByteArray) : (⟨(sb t).toArray⟩ : ByteArray) = t := by cases t; simp [sb]
theorem encL_sb (t : ByteArray) : encL (sb t) = #[.string t] := by unfold encL; rw [mk_sb]
set_option maxRecDepth 100000 in
set_option maxHeartbeats 4000000 in
theorem split_any (n : Nat) (hn : 1 ≤ n) (l : Nat) (J Jx : List (List UInt8) → World → Prop) (b1 b2 b3 : Nat) (X : Nat → Prop) (hX : ¬ X b1 ∧ ¬ X b2 ∧ ¬ X b3) (hb : b1 ≠ b2 ∧ b3 ≠ b2) (hJ2 : ∀ s w v, J s w → J s (w.setCell ⟨b2, 0, none⟩ v))
    (s : ByteArray) (hs : s.size ≤ 16777216) (all : List (List UInt8)) (hall : spl (sb s) = all)
    (hY : ∀ pre (t : ByteArray) W, J pre W → t.size ≤ s.size → (∃ post, pre ++ sb t :: post = all) → YieldAt Fence.wide (n - 1) Tryz.prog l #[.string t] W fun e W' =>
      (e = .returned (.bool true) ∧ J (pre ++ [sb t]) W' ∧ KpS X W W') ∨ (e = .returned (.bool false) ∧ Jx (pre ++ [sb t]) W'))
    (W : World) (h : SplAt W b1 b2 b3 s) (h0 : J [] W) :
    CallsIn Fence.wide n Tryz.prog 171 #[.func (.yield l) #[] #[], .pointer (some ⟨b1, 0, none⟩), .pointer (some ⟨b2, 0, none⟩), .pointer (some ⟨b3, 0, none⟩)] W fun e W' => (∃ v, e = .returned v) ∧
      (J all W' ∨ ∃ pre, Jx pre W') := by
  have f1 := one_cellL h.sep
  have f2 := one_cellL h.txt
  have f3 := one_cellL h.sav
  have hix := fun (s : ByteArray) (w : World) => Tryz.strings_Index_one s 58 w
  have HIx := Lib.hid hix
  have HAl := Lib.hid hall
  clear hix hall
  refine callsIn_of_wp Tryz.func171 rfl trivial ?_ rfl
  simp only [Tryz.ntmps171, List.size_toArray, List.length_cons, List.length_nil, Nat.reduceAdd, Nat.reduceSub, Array.replicate_succ, Array.replicate_zero, List.push_toArray, List.append_toArray, List.nil_append, List.cons_append]
  gi_wp2
  gi_loopw [] (fun wr => ∃ (pre : List (List UInt8)) (t : ByteArray), Hid (pre ++ spl (sb t) = all) ∧ t.size ≤ s.size ∧ J pre wr ∧ SplAt wr b1 b2 b3 t) (fun wr => boxLen b2 wr)
  case atStart => exact ⟨[], s, HAl, Nat.le_refl _, h0, h⟩
  case round =>
    clear f1 f2 f3 h h0 HAl
    obtain ⟨pre, t, HA, hts, hj, h⟩ := hrel
    have f1 := one_cellL h.sep
    have f2 := one_cellL h.txt
    have f3 := one_cellL h.sav
    have hi := HIx.out t wr
    have hge := indexByte_ge 58 (sb t)
    have hlt := indexByte_lt 58 (sb t)
    rw [sb_len] at hlt
    have HS := Lib.hid (spl_index (sb t))
    change Calls _ _ _ _ (fun e w' => e = .returned (.int .i64 (Lib.indexByte (sb t) 58)) ∧ _) at hi
    by_cases hneg : Lib.indexByte (sb t) 58 < 0
    · have hm1 : Lib.indexByte (sb t) 58 = -1 := by omega
      rw [hm1] at hi
      have HE : Hid (pre ++ [sb t] = all) := Lib.hid (by rw [← HA.out, HS.out, if_pos hneg])
      have hy0 := hY pre t wr hj hts ⟨[], HE.out⟩
      rw [HE.out] at hy0
      clear hge hlt HS hneg hm1
      obtain ⟨fn, tmps, assign, body, hy, hR⟩ := hy0
      gi_wp2
      refine ⟨trivial, ?_⟩
      gi_at_call 104
      refine (callsIn_wide.2 hi).mono ?_
      rintro e w' ⟨rfl, rfl⟩
      gi_wp2
      refine hR.mono ?_
      rintro e w3 (⟨rfl, hJ3, hk3⟩ | ⟨rfl, hJx3⟩)
      · have HJ3 := Lib.hid hJ3
        clear hk3 hJ3 hy hR hi
        gi_wp2
        first | go_end0 | refine bodyPost_ret (results_none rfl _ _ _) rfl ?_
        exact ⟨⟨_, rfl⟩, .inl HJ3.out⟩
      · have HJx := Lib.hid hJx3
        clear hJx3 hy hR hi
        gi_wp2
        first | go_end0 | refine bodyPost_ret (results_none rfl _ _ _) rfl ?_
        exact ⟨⟨_, rfl⟩, .inr ⟨_, HJx.out⟩⟩
    · obtain ⟨i, hieq⟩ : ∃ i : Nat, Lib.indexByte (sb t) 58 = (i : Int) := ⟨(Lib.indexByte (sb t) 58).toNat, by omega⟩
      rw [hieq] at hi
      have hil : i < t.size := by omega
      have hil2 : (i : Int) < (t.size : Int) := by omega
      have hi0 : ¬ ((i : Int) < 0) := by omega
      have e1 : sb (t.extract 0 i) = (sb t).take i := by rw [sb_extract, List.drop_zero]
      have e2 : sb (t.extract (i + 1) t.size) = (sb t).drop (i + 1) := sb_tail t (i + 1)
      have HE : Hid ((pre ++ [sb (t.extract 0 i)]) ++ spl (sb (t.extract (i + 1) t.size)) = all) := Lib.hid (by
        rw [← HA.out, HS.out, if_neg hneg, hieq, e1, e2, Int.toNat_natCast, List.append_assoc]; rfl)
      have hx1 : (t.extract 0 i).size ≤ s.size := by rw [← sb_len, e1, List.length_take, sb_len]; omega
      have hx2 : (t.extract (i + 1) t.size).size < t.size := by rw [← sb_len, e2, List.length_drop, sb_len]; omega
      have hy0 := hY pre (t.extract 0 i) wr hj hx1 ⟨_, by have := HE.out; rw [List.append_assoc] at this; exact this⟩
      have HX2 := Lib.hid hx2
      clear hge hlt HS hneg hieq e1 e2 hx1 hx2
      obtain ⟨fn, tmps, assign, body, hy, hR⟩ := hy0
      gi_wp2
      refine ⟨trivial, ?_⟩
      gi_at_call 104
      refine (callsIn_wide.2 hi).mono ?_
      rintro e w' ⟨rfl, rfl⟩
      gi_wp2
      refine hR.mono ?_
      rintro e w3 (⟨rfl, hJ3, hk3⟩ | ⟨rfl, hJx3⟩)
      · have h3 := h.kept hk3 hX
        have f1 := one_cellL h3.sep
        have f2 := one_cellL h3.txt
        have f3 := one_cellL h3.sav
        have hl0 : boxLen b2 w' = t.size := by unfold boxLen; rw [one_cellL h.txt |>.1]
        have HL0 := Lib.hid hl0
        have HJ3 := Lib.hid (hJ2 _ _ (.string (t.extract (i + 1) t.size)) hJ3)
        have H3 := Lib.hid (h3.set hb (t.extract (i + 1) t.size))
        clear hk3 hJ3 hy hR hi hl0
        gi_wp2
        go_roundw
        case rel => exact ⟨_, _, HE, by have := HX2.out; omega, HJ3.out, H3.out⟩
        case measure => rw [HL0.out]; unfold boxLen; rw [(one_cellL H3.out.txt).1]; exact HX2.out
      · have HJx := Lib.hid hJx3
        clear hJx3 hy hR
        gi_wp2
        refine bodyPost_ret (results_none rfl _ _ _) rfl ?_
        exact ⟨⟨_, rfl⟩, .inr ⟨_, HJx.out⟩⟩
/-- what a round of the range leaves: it goes on, or it leaves the function -/
def SplRnd (B : Nat) (X : Nat → Prop) (I Ix : List (List UInt8) → World → Prop) (xs : List (List UInt8)) (W : World) (e : Exit) (_ : Act) (W' : World) : Prop :=
  (∀ k o, B ≤ k → W.heap[k]? = some o → o.isCells = false → W'.heap[k]? = W.heap[k]?) ∧ ((e = .normal ∧ KpS X W W' ∧ I xs W') ∨ (e = .ret ∧ Ix xs W'))
set_option maxRecDepth 100000 in
set_option maxHeartbeats 4000000 in
theorem range_all {g : Operand} {ps : Array Tmp} {assign body : Code} {Q : Exit → Act → World → Prop} {a : Act} {w : World} {n : Nat} (hn : 2 ≤ n) {b1 b2 b3 : Nat} (s : ByteArray) (hs : s.size ≤ 16777216)
    (hg : a.eval g = .func (.func 171) #[] #[.pointer (some ⟨b1, 0, none⟩), .pointer (some ⟨b2, 0, none⟩), .pointer (some ⟨b3, 0, none⟩)])
    (hS : SplAt w b1 b2 b3 s) (hb : b1 ≠ b2 ∧ b3 ≠ b2) {X : Nat → Prop} (hX : ¬ X b1 ∧ ¬ X b2 ∧ ¬ X b3) (hps : ps.size = 1)
    (I Ix : List (List UInt8) → World → Prop) (hI : ∀ s W l o o', I s W → w.heap.size ≤ l → W.heap[l]? = some o → o.isCells = false → I s (W.putObj l o')) (hIx : ∀ s W l o o', Ix s W → w.heap.size ≤ l → W.heap[l]? = some o → o.isCells = false → Ix s (W.putObj l o')) (hIa : ∀ s W o, I s W → I s (W.alloc o))
    (hI2 : ∀ s W v, I s W → I s (W.setCell ⟨b2, 0, none⟩ v)) (h0 : I [] w)
    (hround : ∀ (l : Nat) (pre : List (List UInt8)) (t : ByteArray) (W : World) (K : Act → World → Prop), I pre W → t.size ≤ s.size → (∃ post, pre ++ sb t :: post = spl (sb s)) →
      (∀ a', (∀ W2, I pre W2 → body.wpIn (Fence.wide.inRound l) (n - 1 - 1) Tryz.prog (SplRnd w.heap.size X I Ix (pre ++ [sb t]) W2) a' W2) → K a' W) →
      assign.wpIn (Fence.wide.inRound l) (n - 1 - 1) Tryz.prog (Exit.then K (fun _ _ _ => False)) { tmps := (ps.zip #[.string t]).foldl (fun t (p, v) => t.setIfInBounds p v) a.tmps, defers := [] } W)
    (hdone : ∀ W, I (spl (sb s)) W → W.heap[w.heap.size]? = some (.deferred (some [])) → Q .normal { a with defers := { target := .collected w.heap.size, args := #[] } :: a.defers } W)
    (hstop : ∀ pre W, Ix pre W → W.heap[w.heap.size]? = some (.deferred (some [])) → Q .ret { a with defers := { target := .collected w.heap.size, args := #[] } :: a.defers } W) :
    (Code.rangeFunc g ps assign body).wpIn Fence.wide n Tryz.prog Q a w := by
  refine wpIn_rangeFunc ?_
  intro fn hfn
  obtain ⟨W1, hW1⟩ : ∃ W1, (w.alloc (.deferred (some []))).alloc (.loop (recL fn a.tmps ps assign body w.heap.size .ready none)) = W1 := ⟨_, rfl⟩
  have hL1 : W1.heap[w.heap.size + 1]? = some (.loop (recL fn a.tmps ps assign body w.heap.size .ready none)) := by
    rw [← hW1]
    have := heap_alloc_new (w.alloc (.deferred (some []))) (.loop (recL fn a.tmps ps assign body w.heap.size .ready none))
    rwa [World.size_alloc] at this
  have hK1 : W1.heap[w.heap.size]? = some (.deferred (some [])) := by
    rw [← hW1]
    exact (Below.heap_alloc _ _ _ (by rw [World.size_alloc]; omega)).trans (heap_alloc_new w _)
  have hI1 : I [] W1 := by rw [← hW1]; exact hIa _ _ _ (hIa _ _ _ h0)
  have hb1 : Below w.heap.size w W1 := by
    rw [← hW1]; exact ((Below.refl _ w).alloc (Nat.le_refl _) _).alloc (by rw [World.size_alloc]; omega) _
  have hS1 : SplAt W1 b1 b2 b3 s := ⟨(hb1.block _ (lt_of_blk hS.sep)).trans hS.sep, (hb1.block _ (lt_of_blk hS.txt)).trans hS.txt, (hb1.block _ (lt_of_blk hS.sav)).trans hS.sav⟩
  have l2 := lt_of_blk hS.txt
  refine ⟨w.heap.size + 1, [{ target := .collected w.heap.size, args := #[] }], W1, { target := .fn (.func 171) #[.pointer (some ⟨b1, 0, none⟩), .pointer (some ⟨b2, 0, none⟩), .pointer (some ⟨b3, 0, none⟩)], args := #[.func (.yield (w.heap.size + 1)) #[] #[]] }, W1, 171,
    #[.func (.yield (w.heap.size + 1)) #[] #[], .pointer (some ⟨b1, 0, none⟩), .pointer (some ⟨b2, 0, none⟩), .pointer (some ⟨b3, 0, none⟩)], W1, ?_, ?_, ?_, ?_, fun _ => by omega, ?_⟩
  · rw [← hW1]; exact run_enterLoop_outer _ _ _ _ _
  · simp only [resolve, hg]
    simp [go_sem]
  · intro f' _; exact trivial
  · have eg := enters_of Tryz.func171 (by kernel_rfl) rfl
    simp [invoke, go_sem, eg]
  · refine (split_any (n - 1) (by omega) (w.heap.size + 1)
      (fun pre W => I pre W ∧ W.heap[w.heap.size + 1]? = some (.loop (recL fn a.tmps ps assign body w.heap.size .ready none)) ∧ W.heap[w.heap.size]? = some (.deferred (some [])))
      (fun pre W => Ix pre W ∧ W.heap[w.heap.size + 1]? = some (.loop (recL fn a.tmps ps assign body w.heap.size .done (some .ret))) ∧ W.heap[w.heap.size]? = some (.deferred (some []))) b1 b2 b3 X hX hb
      (fun s W v h => ⟨hI2 _ _ _ h.1, (Below.heap_setCell _ _ _ _ (show w.heap.size + 1 ≠ b2 by omega)).trans h.2.1, (Below.heap_setCell _ _ _ _ (show w.heap.size ≠ b2 by omega)).trans h.2.2⟩)
      s hs _ rfl ?_ W1 hS1 ⟨hI1, hL1, hK1⟩).mono ?_
    · rintro pre x W ⟨hi, hl, hk⟩ hxs hpost
      have hlt := lt_of_blk hl
      have hy := run_yield (P := Tryz.prog) (args := #[.string x]) hl (by show 1 = ps.size; exact hps.symm)
      refine ⟨fn, _, assign, body, hy, roundIn_of_wpIn hfn (hround _ pre x W _ hi hxs hpost ?_)⟩
      intro a' hbody
      refine ⟨_, run_beginRound hl rfl, ?_⟩
      have hl2 : (W.putObj (w.heap.size + 1) (.loop (recL fn a.tmps ps assign body w.heap.size .busy none))).heap[w.heap.size + 1]? = some (.loop (recL fn a.tmps ps assign body w.heap.size .busy none)) := World.putObj_heap_same hlt
      have hk2 : (W.putObj (w.heap.size + 1) (.loop (recL fn a.tmps ps assign body w.heap.size .busy none))).heap[w.heap.size]? = some (.deferred (some [])) := (World.putObj_heap_other (by omega)).trans hk
      refine wpIn_mono (hbody (W.putObj (w.heap.size + 1) (.loop (recL fn a.tmps ps assign body w.heap.size .busy none))) (hI _ _ _ _ _ hi (by omega) hl rfl)) ?_
      rintro e a3 W3 ⟨hkn, (⟨rfl, hkp, hi3⟩ | ⟨rfl, hi3⟩)⟩
      · have hl3 := (hkn _ _ (by omega) hl2 rfl).trans hl2
        have hk3 := (hkn _ _ (Nat.le_refl _) hk2 rfl).trans hk2
        refine ⟨_, _, run_endRound none hl3, .inl ⟨rfl, ⟨hI _ _ _ _ _ hi3 (by omega) hl3 rfl, World.putObj_heap_same (lt_of_blk hl3), (World.putObj_heap_other (by omega)).trans hk3⟩, (kps_put _ hl rfl).trans (hkp.trans (kps_put _ hl3 rfl))⟩⟩
      · have hl3 := (hkn _ _ (by omega) hl2 rfl).trans hl2
        have hk3 := (hkn _ _ (Nat.le_refl _) hk2 rfl).trans hk2
        exact ⟨_, _, run_endRound (some .ret) hl3, .inr ⟨rfl, hIx _ _ _ _ _ hi3 (by omega) hl3 rfl, World.putObj_heap_same (lt_of_blk hl3), (World.putObj_heap_other (by omega)).trans hk3⟩⟩
    · rintro e W2 ⟨⟨v, rfl⟩, (⟨hi, hl, hk⟩ | ⟨pre, hi, hl, hk⟩)⟩
      · exact ⟨none, _, run_endLoop hl (by simp [recL]), hdone _ (hI _ _ _ _ _ hi (by omega) hl rfl) ((World.putObj_heap_other (by omega)).trans hk)⟩
      · exact ⟨some .ret, _, run_endLoop hl (by simp [recL]), wpIn_ret (hstop pre _ (hIx _ _ _ _ _ hi (by omega) hl rfl) ((World.putObj_heap_other (by omega)).trans hk))⟩
end Go.Proofs.YtmdkneollidkfaaGreatDoor.Fl

/-
  The lexer: Arity of any text.
-/
namespace Go.Proofs.YtmdkneollidkfaaGreatDoor.Fl
open Go.RowKit Go.Shelf
attribute [local go_sem] Oper.semAt_some

def nameL (l : List UInt8) : Bool := isNameB ⟨l.toArray⟩
theorem nameL_sb (t : ByteArray) : nameL (sb t) = isNameB t := by unfold nameL; rw [mk_sb]
theorem spl_len : ∀ l : List UInt8, (spl l).length ≤ l.length + 1
  | [] => Nat.le_refl _
  | c :: l => by
    have ih := spl_len l
    rw [spl]
    split
    · simp only [List.length_cons]; omega
    · split
      · simp only [List.length_cons, List.length_nil]; omega
      · next h => rw [h] at ih; simp only [List.length_cons] at ih ⊢; omega
def keysL (l : List UInt8) : Int := if (spl l).all nameL then ((spl l).length : Int) else -1
/-- how many arguments a message of that name has -/
def arityL (s : ByteArray) : Int :=
  if 64 < s.size then -1 else if isNameB s then 0 else if isOpL (sb s) then 1
  else if Lib.hasSuffix (sb s) [58] then keysL (Lib.trimSuffix (sb s) [58]) else -1
/-- what stands while the range runs: the result's box, and the count's -/
def ArI (w : World) (pre : List (List UInt8)) (W : World) : Prop :=
  W.heap[w.heap.size]? = some (.cells #[.int .i64 0] 3 (0, 0)) ∧ W.heap[w.heap.size + 1]? = some (.cells #[.int .i64 (pre.length : Int)] 3 (0, 0)) ∧ Below w.heap.size w W ∧ w.heap.size + 5 ≤ W.heap.size ∧ pre.all nameL = true
def ArX (w : World) (r : Int) (_ : List (List UInt8)) (W : World) : Prop :=
  W.heap[w.heap.size]? = some (.cells #[.int .i64 (-1)] 3 (0, 0)) ∧ Below w.heap.size w W ∧ w.heap.size + 5 ≤ W.heap.size ∧ r = -1
theorem ari_result {W : World} {C : Nat} {n : Int} {a : Array Value} (h : W.heap[C]? = some (.cells #[.int .i64 n] 3 (0, 0))) (ha : a[2]?.getD undef = .pointer (some ⟨C, 0, none⟩)) :
    (results Tryz.f71 a).run Tryz.prog W = .ok (.int .i64 n) W := by
  obtain ⟨c0, _⟩ := one_cellL h
  simp [results, Tryz.results71, go_sem, ha, c0]
set_option maxRecDepth 100000 in
set_option maxHeartbeats 4000000 in
theorem arity_any (s : ByteArray) (w : World) (hs : s.size ≤ 16777216) : Calls Tryz.prog 71 #[.string s] w fun e w' => e = .returned (.int .i64 (arityL s)) ∧ Below w.heap.size w w' := by
  have hn := fun w => isName_any s w hs
  have ho := fun w => lxOp_is s w hs
  have hc := fun w => Tryz.strings_CutSuffix s ⟨#[58]⟩ w (by omega)
  obtain ⟨nb, hnb⟩ : ∃ nb : ByteArray, (⟨(Lib.trimSuffix s.data.toList (⟨#[58]⟩ : ByteArray).data.toList).toArray⟩ : ByteArray) = nb := ⟨_, rfl⟩
  have hsb : sb nb = Lib.trimSuffix (sb s) [58] := by rw [← hnb, sb_mk]
  have hnbs : nb.size ≤ 16777216 := by
    rw [sb_size, hsb]
    unfold Lib.trimSuffix
    split
    · rw [List.length_take, sb_len]; omega
    · rw [sb_len]; exact hs
  rw [hnb] at hc
  have hp := fun w => splitSeq_any nb ⟨#[58]⟩ w
  clear hnb
  obtain ⟨r, hr⟩ : ∃ r, arityL s = r := ⟨_, rfl⟩
  rw [hr]
  have HR := Lib.hid hr
  unfold arityL at HR
  clear hr
  refine (callsIn_wide (n := 4)).1 ?_
  refine callsIn_of_wp_marks Tryz.func71 rfl trivial ?_ rfl
  simp only [Tryz.ntmps71, List.size_toArray, List.length_cons, List.length_nil, Nat.reduceAdd, Nat.reduceSub, Array.replicate_succ, Array.replicate_zero, List.push_toArray, List.append_toArray, List.nil_append, List.cons_append]
  by_cases h64 : 64 < s.size
  · have HR1 : r = -1 := (HR.out.symm.trans (if_pos h64))
    have hz : (64 : Int) < (s.size : Int) := by omega
    subst HR1
    have h1 := heap_alloc_new w (.cells #[.int .i64 (-1)] 3)
    have hb1 : Below w.heap.size w (w.alloc (.cells #[.int .i64 (-1)] 3)) := (Below.refl _ _).alloc (Nat.le_refl _) _
    gi_wp2
    exact ⟨_, ari_result h1 rfl, rfl, hb1⟩
  · have HR1 := Lib.hid (HR.out.symm.trans (if_neg h64))
    have hz : ¬ (64 : Int) < (s.size : Int) := by omega
    clear HR
    gi_wp2
    refine ⟨trivial, ?_⟩
    gi_at_call 106
    refine (callsIn_wide.2 (hn _)).mono ?_
    rintro e w' ⟨rfl, rfl⟩
    clear hn
    cases hin : isNameB s
    case true =>
      have HR2 : r = 0 := (HR1.out.trans (if_pos hin))
      subst HR2
      have h1 := heap_alloc_new w (.cells #[.int .i64 0] 3)
      have hb1 : Below w.heap.size w (w.alloc (.cells #[.int .i64 0] 3)) := (Below.refl _ _).alloc (Nat.le_refl _) _
      gi_wp2
      exact ⟨_, ari_result h1 rfl, rfl, hb1⟩
    have HR2 := Lib.hid (HR1.out.trans (if_neg (by rw [hin]; simp)))
    clear HR1 hin
    gi_wp2
    refine ⟨trivial, ?_⟩
    gi_at_call 107
    refine (callsIn_wide.2 (ho _)).mono ?_
    rintro e w' ⟨rfl, rfl⟩
    clear ho
    cases hio : isOpL (sb s)
    case true =>
      have HR3 : r = 1 := (HR2.out.trans (if_pos hio))
      subst HR3
      have h1 := heap_alloc_new w (.cells #[.int .i64 1] 3)
      have hb1 : Below w.heap.size w (w.alloc (.cells #[.int .i64 1] 3)) := (Below.refl _ _).alloc (Nat.le_refl _) _
      gi_wp2
      exact ⟨_, ari_result h1 rfl, rfl, hb1⟩
    have HR3 := Lib.hid (HR2.out.trans (if_neg (by rw [hio]; simp)))
    clear HR2 hio
    gi_wp2
    refine ⟨trivial, ?_⟩
    gi_at_call 108
    refine (callsIn_wide.2 (hc _)).mono ?_
    rintro e w' ⟨rfl, rfl⟩
    clear hc
    change _ at HR3
    cases hsf : Lib.hasSuffix s.data.toList (⟨#[58]⟩ : ByteArray).data.toList
    case false =>
      have HR4 : r = -1 := (HR3.out.trans (if_neg (by rw [show Lib.hasSuffix (sb s) [58] = false from hsf]; simp)))
      subst HR4
      have h1 := heap_alloc_new w (.cells #[.int .i64 (-1)] 3)
      have hb1 : Below w.heap.size w (w.alloc (.cells #[.int .i64 (-1)] 3)) := (Below.refl _ _).alloc (Nat.le_refl _) _
      gi_wp2
      exact ⟨_, ari_result h1 rfl, rfl, hb1⟩
    have HR4 := Lib.hid (HR3.out.trans (if_pos (show Lib.hasSuffix (sb s) [58] = true from hsf)))
    rw [← hsb] at HR4
    clear HR3 hsf hsb
    gi_wp2
    refine ⟨trivial, ?_⟩
    gi_at_call 109
    refine (callsIn_wide.2 (hp _)).mono ?_
    rintro e w' ⟨rfl, rfl⟩
    gi_wp2
    obtain ⟨W0, hW0⟩ : ∃ W0, (((((w.alloc (.cells #[.int .i64 0] 3)).alloc (.cells #[.int .i64 0] 3)).alloc (.cells #[.string nb] 9)).alloc (.cells #[.string ⟨#[58]⟩] 9)).alloc (.cells #[.int .i64 0] 3)) = W0 := ⟨_, rfl⟩
    obtain ⟨q1, q2, q3, q4, q5, hb0, hsz⟩ := five_boxes w (.cells #[.int .i64 0] 3) (.cells #[.int .i64 0] 3) (.cells #[.string nb] 9) (.cells #[.string ⟨#[58]⟩] 9) (.cells #[.int .i64 0] 3) W0 hW0
    rw [hW0]
    clear hW0
    have hspl := spl_len (sb nb)
    rw [sb_len] at hspl
    refine range_all (b1 := w.heap.size + 1 + 1 + 1) (b2 := w.heap.size + 1 + 1) (b3 := w.heap.size + 1 + 1 + 1 + 1) (by decide) nb hnbs rfl ⟨q4, q3, q5⟩ ⟨by omega, by omega⟩ (X := fun k => k = w.heap.size + 1) ⟨by omega, by omega, by omega⟩ rfl
      (ArI w) (ArX w r) ?put ?putx ?al ?st ⟨q1, q2, hb0, by omega, rfl⟩ ?round ?done ?stop
    case put =>
      rintro s W l o o' ⟨h1, h2, h3, h4, h5⟩ hl hlo ho
      refine ⟨(World.putObj_heap_other (by omega)).trans h1, (World.putObj_heap_other (by omega)).trans h2, ⟨h3.os, h3.tape, h3.output, by simpa using h3.size, fun k hk => (World.putObj_heap_other (by omega)).trans (h3.block k hk)⟩, by simpa using h4, h5⟩
    case putx =>
      rintro s W l o o' ⟨h1, h3, h4, h5⟩ hl hlo ho
      refine ⟨(World.putObj_heap_other (by omega)).trans h1, ⟨h3.os, h3.tape, h3.output, by simpa using h3.size, fun k hk => (World.putObj_heap_other (by omega)).trans (h3.block k hk)⟩, by simpa using h4, h5⟩
    case al =>
      rintro s W o ⟨h1, h2, h3, h4, h5⟩
      exact ⟨(Below.heap_alloc _ _ _ (by omega)).trans h1, (Below.heap_alloc _ _ _ (by omega)).trans h2, h3.alloc (by omega) _, by rw [World.size_alloc]; omega, h5⟩
    case st =>
      rintro s W v ⟨h1, h2, h3, h4, h5⟩
      exact ⟨(Below.heap_setCell W ⟨w.heap.size + 1 + 1, 0, none⟩ v _ (by show w.heap.size ≠ w.heap.size + 1 + 1; omega)).trans h1, (Below.heap_setCell W ⟨w.heap.size + 1 + 1, 0, none⟩ v _ (by show w.heap.size + 1 ≠ w.heap.size + 1 + 1; omega)).trans h2, h3.setCell (p := ⟨w.heap.size + 1 + 1, 0, none⟩) (by show w.heap.size ≤ w.heap.size + 1 + 1; omega) _, by rw [World.size_setCell]; exact h4, h5⟩
    case round =>
      rintro l pre t W K hi hts ⟨post, hpost⟩ hK
      have hnx := fun W2 => isName_any t W2 (by omega)
      have hpl : pre.length ≤ 16777216 := by
        have := congrArg List.length hpost
        rw [List.length_append, List.length_cons] at this
        omega
      have HPo := Lib.hid hpost
      clear hpost hspl
      gi_wp2
      rintro W2 ⟨h1, h2, h3, h4, h5⟩
      have H5 := Lib.hid h5
      clear h5
      have f1 := one_cellL h1
      have f2 := one_cellL h2
      cases hnm : isNameB t
      · rw [hnm] at hnx
        gi_wp2
        refine ⟨trivial, ?_⟩
        gi_at_call 106
        refine (CallsIn.inRound l (callsIn_wide.2 (hnx _))).mono ?_
        rintro e w' ⟨rfl, rfl⟩
        gi_wp2
        have hrn : r = -1 := by
          rw [HR4.out]
          unfold keysL
          rw [if_neg]
          rw [← HPo.out, List.all_append, List.all_cons, nameL_sb, hnm]
          simp
        refine ⟨fun k o hk ho hc => Below.heap_setCell W2 ⟨w.heap.size, 0, none⟩ _ k (by show k ≠ w.heap.size; omega), .inr ⟨rfl, ?_, h3.setCell (p := ⟨w.heap.size, 0, none⟩) (Nat.le_refl _) _, by rw [World.size_setCell]; exact h4, hrn⟩⟩
        exact set1L h1 _
      · rw [hnm] at hnx
        gi_wp2
        refine ⟨trivial, ?_⟩
        gi_at_call 106
        refine (CallsIn.inRound l (callsIn_wide.2 (hnx _))).mono ?_
        rintro e w' ⟨rfl, rfl⟩
        gi_wp2
        refine ⟨fun k o hk _ _ => Below.heap_setCell W2 ⟨w.heap.size + 1, 0, none⟩ _ k (by show k ≠ w.heap.size + 1; omega), .inl ⟨rfl, ⟨by rw [World.size_setCell]; exact Nat.le_refl _, fun k cs T fr _ hk => Below.heap_setCell W2 ⟨w.heap.size + 1, 0, none⟩ _ k hk⟩, ?_⟩⟩
        refine ⟨(Below.heap_setCell W2 ⟨w.heap.size + 1, 0, none⟩ _ _ (by show w.heap.size ≠ w.heap.size + 1; omega)).trans h1, ?_, h3.setCell (p := ⟨w.heap.size + 1, 0, none⟩) (by show w.heap.size ≤ w.heap.size + 1; omega) _, by rw [World.size_setCell]; exact h4, by rw [List.all_append, H5.out, List.all_cons, nameL_sb, hnm]; rfl⟩
        rw [List.length_append]
        exact set1L h2 _
    case done =>
      rintro W ⟨h1, h2, h3, h4, h5⟩ hD
      have hrr : r = ((spl (sb nb)).length : Int) := by rw [HR4.out]; unfold keysL; rw [if_pos h5]
      subst hrr
      clear HR4 h5
      have f1 := one_cellL h1
      have f2 := one_cellL h2
      gi_wp2
      have l1 := lt_of_blk h1
      have hD2 : (W.setCell ⟨w.heap.size, 0, none⟩ (.int .i64 ((spl (sb nb)).length : Int))).heap[W0.heap.size]? = some (.deferred (some [])) := (Below.heap_setCell W ⟨w.heap.size, 0, none⟩ _ _ (by show W0.heap.size ≠ w.heap.size; omega)).trans hD
      have hr2 := set1L h1 (.int .i64 ((spl (sb nb)).length : Int))
      have hb2 : Below w.heap.size w (W.setCell ⟨w.heap.size, 0, none⟩ (.int .i64 ((spl (sb nb)).length : Int))) := h3.setCell (p := ⟨w.heap.size, 0, none⟩) (Nat.le_refl _) _
      refine ⟨by simp, .inl ⟨_, _, rfl, run_takeDeferred hD2, ?_⟩⟩
      have hr3 := (World.putObj_heap_other (o := .deferred none) (show w.heap.size ≠ W0.heap.size by omega)).trans hr2
      have hb3 : Below w.heap.size w ((W.setCell ⟨w.heap.size, 0, none⟩ (.int .i64 ((spl (sb nb)).length : Int))).putObj W0.heap.size (.deferred none)) := ⟨hb2.os, hb2.tape, hb2.output, by simpa using hb2.size, fun k hk => (World.putObj_heap_other (by omega)).trans (hb2.block k hk)⟩
      exact ⟨_, ari_result hr3 rfl, rfl, hb3⟩
    case stop =>
      rintro pre W ⟨h1, h3, h4, rfl⟩ hD
      refine ⟨by simp, .inl ⟨_, _, rfl, run_takeDeferred hD, ?_⟩⟩
      have hr3 := (World.putObj_heap_other (o := .deferred none) (show w.heap.size ≠ W0.heap.size by omega)).trans h1
      have hb3 : Below w.heap.size w (W.putObj W0.heap.size (.deferred none)) := ⟨h3.os, h3.tape, h3.output, by simpa using h3.size, fun k hk => (World.putObj_heap_other (by omega)).trans (h3.block k hk)⟩
      exact ⟨_, ari_result hr3 rfl, rfl, hb3⟩
end Go.Proofs.YtmdkneollidkfaaGreatDoor.Fl

/-
  The lexer: All.
-/
namespace Go.Proofs.YtmdkneollidkfaaGreatDoor.Fl
open Go.RowKit

set_option maxRecDepth 100000 in
set_option maxHeartbeats 4000000 in
theorem all_any (s : ByteArray) (w : World) (hs : s.size ≤ 16777216) (hm : MaxAt w) (hE : ∀ w', Below w.heap.size w w' → EnvL w') :
    Calls Tryz.prog 85 #[.string s] w (AllPost s (allW s 0) w) := by
  have HE := Lib.hid hE
  have hm0 : 0 < w.heap.size := by
    obtain ⟨m, hm⟩ := hm
    exact World.block_lt_of_cell? _ _ hm
  have HM := Lib.hid (fun w' (hb : Below w.heap.size w w') => show MaxAt w' from by
    obtain ⟨m, hm⟩ := hm
    exact ⟨m, (World.cell?_of_block (a := ⟨0, 0, none⟩) (hb.block 0 hm0)).trans hm⟩)
  clear hE hm hm0
  go_enter Tryz.func85, Tryz.ntmps85
  obtain ⟨r, hr⟩ : ∃ r, allW s 0 = r := ⟨_, rfl⟩
  rw [hr]
  have HR := Lib.hid hr
  clear hr
  go_wp2_with fail
  go_loopw [5, 6] (fun v v' wr => ∃ (p : Nat) (A : Option Addr) (c : Nat) (ts : List Tok), p ≤ s.size ∧ v = .slice A ts.length c ∧ v' = .int .i64 (p : Int) ∧ Hid (ts.length ≤ p) ∧ Hid (preW ts (allW s p) = r) ∧ Hid (OwnK wr w.heap.size (.slice A ts.length c) ts) ∧ Hid (Below w.heap.size w wr)) (fun _ v' _ => s.size + 1 - (intOf v').toNat)
  case atStart => exact ⟨0, none, 0, [], Nat.zero_le _, rfl, rfl, Lib.hid (Nat.le_refl _), Lib.hid (by rw [HR.out]; cases r <;> rfl), Lib.hid (World.ownsRow_nil _ _ _ _), Lib.hid (Below.refl _ _)⟩
  case round =>
    obtain ⟨p, A, c, ts, hp, rfl, rfl, HL, HW, HO, HB⟩ := hrel
    have hm := HM.out _ HB.out
    have hn := next_any s (p : Int) p wr hs (by omega) hm (fun w' hb => HE.out w' (HB.out.trans (hb.mono HB.out.size)))
    clear hm
    go_wp2_with fail
    refine hn.mono ?_
    rintro e w1 ⟨hb1, (⟨k, t, n, q, p', tb, hr, hq, hp', htb, rfl⟩ | ⟨n, q, hr, hq, rfl⟩)⟩
    case inr =>
      have HW2 : Hid (r = .inr (n, q)) := Lib.hid (by rw [← HW.out, allW_no hr]; rfl)
      have HB2 := Lib.hid (HB.out.trans (hb1.mono HB.out.size))
      have hn0 := tokR_err hr
      clear hn hr hb1 HW HO HB
      unfold tokV
      go_wp2_with fail
      go_ret3
      exact ⟨HB2.out.alloc HB2.out.size _, .inr ⟨n, q, HW2.out, hq, rfl⟩⟩
    have htb2 := sb_back htb
    subst htb2
    have HRt := Lib.hid hr
    have HO1 := Lib.hid (HO.out.below hb1)
    have HB1 := Lib.hid (HB.out.trans (hb1.mono HB.out.size))
    have HQ := Lib.hid (And.intro hq hp')
    clear hn hr htb hb1 HO HB hq hp'
    unfold tokV
    go_upto_region 6 with fail
    have hlt1 : ∀ j, (Value.slice A ts.length c).ownBlock = some j → j < w1.heap.size := fun j hj => (World.ownsRow.lt HO1.out j hj).2
    have hw2 := heap_alloc_new w1 (.cells #[.int .i64 (k : Int), .string ⟨t.toArray⟩, .int .i64 n, .int .i64 (q : Int)] 143)
    have hb2 : Below w1.heap.size w1 (w1.alloc (.cells #[.int .i64 (k : Int), .string ⟨t.toArray⟩, .int .i64 n, .int .i64 (q : Int)] 143)) := (Below.refl _ _).alloc (Nat.le_refl _) _
    generalize hw : w1.alloc (.cells #[.int .i64 (k : Int), .string ⟨t.toArray⟩, .int .i64 n, .int .i64 (q : Int)] 143) = w2 at *
    clear hw
    have f2 := cells4L hw2
    have l2 := lt_of_blk hw2
    have hb3 : Below w2.heap.size w2 (w2.alloc (.cells #[.int .i64 (k : Int), .string ⟨t.toArray⟩, .int .i64 n, .int .i64 (q : Int)] 143)) := (Below.refl _ _).alloc (Nat.le_refl _) _
    have HO3 := Lib.hid ((HO1.out.below hb2).below hb3)
    have HR3 := Lib.hid (rd_oneK w2 (k, t, n, q))
    have HB3 := Lib.hid ((HB1.out.trans (hb2.mono HB1.out.size)).trans (hb3.mono (Nat.le_trans HB1.out.size hb2.size)))
    have HX3 := Lib.hid ((hb3.block _ l2).trans hw2)
    have HL3 := Lib.hid hlt1
    have hl9 : ts.length ≤ 100000000 := by have := HL.out; omega
    clear hlt1 hw2 hb2 hb3 HO1 HB1
    go_wp2_with (at_builtin; refine wpList_append_k (base := w.heap.size) (v := .slice A ts.length c) (news := [(k, t, n, q)]) rfl _ _ rfl rfl rfl HO3.out HR3.out (fun h => by cases h) hl9 (by simp) HB3.out.size ?_; intro A4 t4 c4 w4 HT4 HO4 HB4; have HX4 := Lib.hid ((HB4.out.2 w1.heap.size (lt_of_blk HX3.out) (fun e => Nat.lt_irrefl _ (HL3.out _ e.symm))).trans HX3.out); have f4 := cells4L HX4.out)
    · rename_i hk
      have hk0 : k = 0 := by simpa using hk
      subst hk0
      have HW2 : Hid (r = .inl t4) := Lib.hid (by rw [← HW.out, allW_end HRt.out, HT4.out]; rfl)
      clear HT4 hk
      go_ret3
      exact ⟨HB3.out.trans HB4.out.1, .inl ⟨t4, A4, c4, HW2.out, rfl, HO4.out⟩⟩
    · rename_i hk
      have hk0 : k ≠ 0 := by simpa using hk
      have hgo := allW_go hp HQ.out.2 HRt.out hk0 ts
      have HW2 := Lib.hid (hgo.2.symm.trans HW.out)
      have hlt := hgo.1
      have HL4 : Hid (t4.length ≤ p') := Lib.hid (by have := HL.out; rw [HT4.out, List.length_append]; simp; omega)
      have HB5 := Lib.hid (HB3.out.trans HB4.out.1)
      have hp2 := HQ.out.2
      have HW5 : Hid (preW t4 (allW s p') = r) := Lib.hid (by rw [HT4.out]; exact HW2.out)
      clear hgo hk HT4 HW2 HB3 HB4 HX3 HX4 HO3 HR3 HW HL HRt f2 f4 l2
      go_roundw
      case rel => exact ⟨p', A4, c4, t4, hp2, rfl, rfl, HL4, HW5, HO4, HB5⟩
      case measure => simp [intOf]; omega
end Go.Proofs.YtmdkneollidkfaaGreatDoor.Fl
