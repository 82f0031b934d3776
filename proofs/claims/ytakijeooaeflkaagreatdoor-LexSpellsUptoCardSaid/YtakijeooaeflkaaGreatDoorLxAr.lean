/-
  The lexer: a text parted at each colon; the statement that ranges over strings.SplitSeq(s, ":").
-/
import Derived.Test.YtakijeooaeflkaaGreatDoorLxV
import Derived.Test.YtakijeooaeflkaaGreatDoorLxU
namespace Go.Proofs.YtakijeooaeflkaaGreatDoor.Fl
open Go.RowKit Go.Shelf
attribute [local go_sem] Oper.semAt_some

def spl : List UInt8 → List (List UInt8)
  | [] => [[]]
  | c :: l => if c = 58 then [] :: spl l else match spl l with
    | [] => [[c]]
    | p :: ps => (c :: p) :: ps
theorem spl_index : ∀ l : List UInt8, spl l = if Lib.indexByte l 58 < 0 then [l] else l.take (Lib.indexByte l 58).toNat :: spl (l.drop ((Lib.indexByte l 58).toNat + 1))
  | [] => rfl
  | c :: l => by
    have ih := spl_index l
    have hg := indexByte_ge 58 l
    rw [spl]
    by_cases hc : c = 58
    · rw [if_pos hc]
      subst hc
      rw [show Lib.indexByte ((58 : UInt8) :: l) 58 = 0 from by simp [Lib.indexByte]]
      simp
    · rw [if_neg hc, ih]
      have hb : (c == 58) = false := by simpa using hc
      by_cases hn : Lib.indexByte l 58 < 0
      · have h1 : Lib.indexByte l 58 = -1 := by omega
        rw [if_pos hn, show Lib.indexByte (c :: l) 58 = -1 from by simp [Lib.indexByte, hb, h1]]
        rfl
      · have h1 : (Lib.indexByte l 58 == -1) = false := by simp; omega
        have h2 : Lib.indexByte (c :: l) 58 = Lib.indexByte l 58 + 1 := by simp [Lib.indexByte, hb, h1]
        rw [if_neg hn, h2, if_neg (by omega), show (Lib.indexByte l 58 + 1).toNat = (Lib.indexByte l 58).toNat + 1 by omega]
        rfl
def encL (x : List UInt8) : Array Value := #[.string ⟨x.toArray⟩]
theorem mk_sb (t : ByteArray) : (⟨(sb t).toArray⟩ : ByteArray) = t := by cases t; simp [sb]
theorem encL_sb (t : ByteArray) : encL (sb t) = #[.string t] := by unfold encL; rw [mk_sb]
set_option maxRecDepth 100000 in
set_option maxHeartbeats 4000000 in
theorem split_any (n : Nat) (hn : 1 ≤ n) (l : Nat) (J Jx : List (List UInt8) → World → Prop) (b1 b2 b3 : Nat) (X : Nat → Prop) (hX : ¬ X b1 ∧ ¬ X b2 ∧ ¬ X b3) (hb : b1 ≠ b2 ∧ b3 ≠ b2) (hJ2 : ∀ s w v, J s w → J s (w.setCell ⟨b2, 0, none⟩ v))
    (s : ByteArray) (hs : s.size ≤ 16777216) (all : List (List UInt8)) (hall : spl (sb s) = all)
    (hY : ∀ pre (t : ByteArray) W, J pre W → t.size ≤ s.size → (∃ post, pre ++ sb t :: post = all) → YieldAt Fence.wide (n - 1) Tryz.prog l #[.string t] W fun e W' =>
      (e = .returned (.bool true) ∧ J (pre ++ [sb t]) W' ∧ KpS X W W') ∨ (e = .returned (.bool false) ∧ Jx (pre ++ [sb t]) W'))
    (W : World) (h : SplAt W b1 b2 b3 s) (h0 : J [] W) :
    CallsIn Fence.wide n Tryz.prog 122 #[.func (.yield l) #[] #[], .pointer (some ⟨b1, 0, none⟩), .pointer (some ⟨b2, 0, none⟩), .pointer (some ⟨b3, 0, none⟩)] W fun e W' => (∃ v, e = .returned v) ∧
      (J all W' ∨ ∃ pre, Jx pre W') := by
  have f1 := one_cellL h.sep
  have f2 := one_cellL h.txt
  have f3 := one_cellL h.sav
  have hix := fun (s : ByteArray) (w : World) => Tryz.strings_Index_one s 58 w
  have HIx := Lib.hid hix
  have HAl := Lib.hid hall
  clear hix hall
  refine callsIn_of_wp Tryz.func122 rfl trivial ?_ rfl
  simp only [Tryz.ntmps122, List.size_toArray, List.length_cons, List.length_nil, Nat.reduceAdd, Nat.reduceSub, Array.replicate_succ, Array.replicate_zero, List.push_toArray, List.append_toArray, List.nil_append, List.cons_append]
  gi_wp2
  gi_loopw [] (fun wr => ∃ (pre : List (List UInt8)) (t : ByteArray), Hid (pre ++ spl (sb t) = all) ∧ t.size ≤ s.size ∧ J pre wr ∧ SplAt wr b1 b2 b3 t) (fun wr => boxLen b2 wr)
  case atStart => exact ⟨[], s, HAl, Nat.le_refl _, h0, h⟩
  case round =>
    clear f1 f2 f3 h h0 HAl
    obtain ⟨pre, t, HA, hts, hj, h⟩ := hrel
    have f1 := one_cellL h.sep
    have f2 := one_cellL h.txt
    have f3 := one_cellL h.sav
    have hi := HIx.out t wr
    have hge := indexByte_ge 58 (sb t)
    have hlt := indexByte_lt 58 (sb t)
    rw [sb_len] at hlt
    have HS := Lib.hid (spl_index (sb t))
    change Calls _ _ _ _ (fun e w' => e = .returned (.int .i64 (Lib.indexByte (sb t) 58)) ∧ _) at hi
    by_cases hneg : Lib.indexByte (sb t) 58 < 0
    · have hm1 : Lib.indexByte (sb t) 58 = -1 := by omega
      rw [hm1] at hi
      have HE : Hid (pre ++ [sb t] = all) := Lib.hid (by rw [← HA.out, HS.out, if_pos hneg])
      have hy0 := hY pre t wr hj hts ⟨[], HE.out⟩
      rw [HE.out] at hy0
      clear hge hlt HS hneg hm1
      obtain ⟨fn, tmps, assign, body, hy, hR⟩ := hy0
      gi_wp2
      refine ⟨trivial, ?_⟩
      gi_at_call 82
      refine (callsIn_wide.2 hi).mono ?_
      rintro e w' ⟨rfl, rfl⟩
      gi_wp2
      refine hR.mono ?_
      rintro e w3 (⟨rfl, hJ3, hk3⟩ | ⟨rfl, hJx3⟩)
      · have HJ3 := Lib.hid hJ3
        clear hk3 hJ3 hy hR hi
        gi_wp2
        first | go_end0 | refine bodyPost_ret (results_none rfl _ _ _) rfl ?_
        exact ⟨⟨_, rfl⟩, .inl HJ3.out⟩
      · have HJx := Lib.hid hJx3
        clear hJx3 hy hR hi
        gi_wp2
        first | go_end0 | refine bodyPost_ret (results_none rfl _ _ _) rfl ?_
        exact ⟨⟨_, rfl⟩, .inr ⟨_, HJx.out⟩⟩
    · obtain ⟨i, hieq⟩ : ∃ i : Nat, Lib.indexByte (sb t) 58 = (i : Int) := ⟨(Lib.indexByte (sb t) 58).toNat, by omega⟩
      rw [hieq] at hi
      have hil : i < t.size := by omega
      have hil2 : (i : Int) < (t.size : Int) := by omega
      have hi0 : ¬ ((i : Int) < 0) := by omega
      have e1 : sb (t.extract 0 i) = (sb t).take i := by rw [sb_extract, List.drop_zero]
      have e2 : sb (t.extract (i + 1) t.size) = (sb t).drop (i + 1) := sb_tail t (i + 1)
      have HE : Hid ((pre ++ [sb (t.extract 0 i)]) ++ spl (sb (t.extract (i + 1) t.size)) = all) := Lib.hid (by
        rw [← HA.out, HS.out, if_neg hneg, hieq, e1, e2, Int.toNat_natCast, List.append_assoc]; rfl)
      have hx1 : (t.extract 0 i).size ≤ s.size := by rw [← sb_len, e1, List.length_take, sb_len]; omega
      have hx2 : (t.extract (i + 1) t.size).size < t.size := by rw [← sb_len, e2, List.length_drop, sb_len]; omega
      have hy0 := hY pre (t.extract 0 i) wr hj hx1 ⟨_, by have := HE.out; rw [List.append_assoc] at this; exact this⟩
      have HX2 := Lib.hid hx2
      clear hge hlt HS hneg hieq e1 e2 hx1 hx2
      obtain ⟨fn, tmps, assign, body, hy, hR⟩ := hy0
      gi_wp2
      refine ⟨trivial, ?_⟩
      gi_at_call 82
      refine (callsIn_wide.2 hi).mono ?_
      rintro e w' ⟨rfl, rfl⟩
      gi_wp2
      refine hR.mono ?_
      rintro e w3 (⟨rfl, hJ3, hk3⟩ | ⟨rfl, hJx3⟩)
      · have h3 := h.kept hk3 hX
        have f1 := one_cellL h3.sep
        have f2 := one_cellL h3.txt
        have f3 := one_cellL h3.sav
        have hl0 : boxLen b2 w' = t.size := by unfold boxLen; rw [one_cellL h.txt |>.1]
        have HL0 := Lib.hid hl0
        have HJ3 := Lib.hid (hJ2 _ _ (.string (t.extract (i + 1) t.size)) hJ3)
        have H3 := Lib.hid (h3.set hb (t.extract (i + 1) t.size))
        clear hk3 hJ3 hy hR hi hl0
        gi_wp2
        go_roundw
        case rel => exact ⟨_, _, HE, by have := HX2.out; omega, HJ3.out, H3.out⟩
        case measure => rw [HL0.out]; unfold boxLen; rw [(one_cellL H3.out.txt).1]; exact HX2.out
      · have HJx := Lib.hid hJx3
        clear hJx3 hy hR
        gi_wp2
        refine bodyPost_ret (results_none rfl _ _ _) rfl ?_
        exact ⟨⟨_, rfl⟩, .inr ⟨_, HJx.out⟩⟩
/-- what a round of the range leaves: it goes on, or it leaves the function -/
def SplRnd (B : Nat) (X : Nat → Prop) (I Ix : List (List UInt8) → World → Prop) (xs : List (List UInt8)) (W : World) (e : Exit) (_ : Act) (W' : World) : Prop :=
  (∀ k o, B ≤ k → W.heap[k]? = some o → o.isCells = false → W'.heap[k]? = W.heap[k]?) ∧ ((e = .normal ∧ KpS X W W' ∧ I xs W') ∨ (e = .ret ∧ Ix xs W'))
set_option maxRecDepth 100000 in
set_option maxHeartbeats 4000000 in
theorem range_all {g : Operand} {ps : Array Tmp} {assign body : Code} {Q : Exit → Act → World → Prop} {a : Act} {w : World} {n : Nat} (hn : 2 ≤ n) {b1 b2 b3 : Nat} (s : ByteArray) (hs : s.size ≤ 16777216)
    (hg : a.eval g = .func (.func 122) #[] #[.pointer (some ⟨b1, 0, none⟩), .pointer (some ⟨b2, 0, none⟩), .pointer (some ⟨b3, 0, none⟩)])
    (hS : SplAt w b1 b2 b3 s) (hb : b1 ≠ b2 ∧ b3 ≠ b2) {X : Nat → Prop} (hX : ¬ X b1 ∧ ¬ X b2 ∧ ¬ X b3) (hps : ps.size = 1)
    (I Ix : List (List UInt8) → World → Prop) (hI : ∀ s W l o o', I s W → w.heap.size ≤ l → W.heap[l]? = some o → o.isCells = false → I s (W.putObj l o')) (hIx : ∀ s W l o o', Ix s W → w.heap.size ≤ l → W.heap[l]? = some o → o.isCells = false → Ix s (W.putObj l o')) (hIa : ∀ s W o, I s W → I s (W.alloc o))
    (hI2 : ∀ s W v, I s W → I s (W.setCell ⟨b2, 0, none⟩ v)) (h0 : I [] w)
    (hround : ∀ (l : Nat) (pre : List (List UInt8)) (t : ByteArray) (W : World) (K : Act → World → Prop), I pre W → t.size ≤ s.size → (∃ post, pre ++ sb t :: post = spl (sb s)) →
      (∀ a', (∀ W2, I pre W2 → body.wpIn (Fence.wide.inRound l) (n - 1 - 1) Tryz.prog (SplRnd w.heap.size X I Ix (pre ++ [sb t]) W2) a' W2) → K a' W) →
      assign.wpIn (Fence.wide.inRound l) (n - 1 - 1) Tryz.prog (Exit.then K (fun _ _ _ => False)) { tmps := (ps.zip #[.string t]).foldl (fun t (p, v) => t.setIfInBounds p v) a.tmps, defers := [] } W)
    (hdone : ∀ W, I (spl (sb s)) W → W.heap[w.heap.size]? = some (.deferred (some [])) → Q .normal { a with defers := { target := .collected w.heap.size, args := #[] } :: a.defers } W)
    (hstop : ∀ pre W, Ix pre W → W.heap[w.heap.size]? = some (.deferred (some [])) → Q .ret { a with defers := { target := .collected w.heap.size, args := #[] } :: a.defers } W) :
    (Code.rangeFunc g ps assign body).wpIn Fence.wide n Tryz.prog Q a w := by
  refine wpIn_rangeFunc ?_
  intro fn hfn
  obtain ⟨W1, hW1⟩ : ∃ W1, (w.alloc (.deferred (some []))).alloc (.loop (recL fn a.tmps ps assign body w.heap.size .ready none)) = W1 := ⟨_, rfl⟩
  have hL1 : W1.heap[w.heap.size + 1]? = some (.loop (recL fn a.tmps ps assign body w.heap.size .ready none)) := by
    rw [← hW1]
    have := heap_alloc_new (w.alloc (.deferred (some []))) (.loop (recL fn a.tmps ps assign body w.heap.size .ready none))
    rwa [World.size_alloc] at this
  have hK1 : W1.heap[w.heap.size]? = some (.deferred (some [])) := by
    rw [← hW1]
    exact (Below.heap_alloc _ _ _ (by rw [World.size_alloc]; omega)).trans (heap_alloc_new w _)
  have hI1 : I [] W1 := by rw [← hW1]; exact hIa _ _ _ (hIa _ _ _ h0)
  have hb1 : Below w.heap.size w W1 := by
    rw [← hW1]; exact ((Below.refl _ w).alloc (Nat.le_refl _) _).alloc (by rw [World.size_alloc]; omega) _
  have hS1 : SplAt W1 b1 b2 b3 s := ⟨(hb1.block _ (lt_of_blk hS.sep)).trans hS.sep, (hb1.block _ (lt_of_blk hS.txt)).trans hS.txt, (hb1.block _ (lt_of_blk hS.sav)).trans hS.sav⟩
  have l2 := lt_of_blk hS.txt
  refine ⟨w.heap.size + 1, [{ target := .collected w.heap.size, args := #[] }], W1, { target := .fn (.func 122) #[.pointer (some ⟨b1, 0, none⟩), .pointer (some ⟨b2, 0, none⟩), .pointer (some ⟨b3, 0, none⟩)], args := #[.func (.yield (w.heap.size + 1)) #[] #[]] }, W1, 122,
    #[.func (.yield (w.heap.size + 1)) #[] #[], .pointer (some ⟨b1, 0, none⟩), .pointer (some ⟨b2, 0, none⟩), .pointer (some ⟨b3, 0, none⟩)], W1, ?_, ?_, ?_, ?_, fun _ => by omega, ?_⟩
  · rw [← hW1]; exact run_enterLoop_outer _ _ _ _ _
  · simp only [resolve, hg]
    simp [go_sem]
  · intro f' _; exact trivial
  · have eg := enters_of Tryz.func122 (by kernel_rfl) rfl
    simp [invoke, go_sem, eg]
  · refine (split_any (n - 1) (by omega) (w.heap.size + 1)
      (fun pre W => I pre W ∧ W.heap[w.heap.size + 1]? = some (.loop (recL fn a.tmps ps assign body w.heap.size .ready none)) ∧ W.heap[w.heap.size]? = some (.deferred (some [])))
      (fun pre W => Ix pre W ∧ W.heap[w.heap.size + 1]? = some (.loop (recL fn a.tmps ps assign body w.heap.size .done (some .ret))) ∧ W.heap[w.heap.size]? = some (.deferred (some []))) b1 b2 b3 X hX hb
      (fun s W v h => ⟨hI2 _ _ _ h.1, (Below.heap_setCell _ _ _ _ (show w.heap.size + 1 ≠ b2 by omega)).trans h.2.1, (Below.heap_setCell _ _ _ _ (show w.heap.size ≠ b2 by omega)).trans h.2.2⟩)
      s hs _ rfl ?_ W1 hS1 ⟨hI1, hL1, hK1⟩).mono ?_
    · rintro pre x W ⟨hi, hl, hk⟩ hxs hpost
      have hlt := lt_of_blk hl
      have hy := run_yield (P := Tryz.prog) (args := #[.string x]) hl (by show 1 = ps.size; exact hps.symm)
      refine ⟨fn, _, assign, body, hy, roundIn_of_wpIn hfn (hround _ pre x W _ hi hxs hpost ?_)⟩
      intro a' hbody
      refine ⟨_, run_beginRound hl rfl, ?_⟩
      have hl2 : (W.putObj (w.heap.size + 1) (.loop (recL fn a.tmps ps assign body w.heap.size .busy none))).heap[w.heap.size + 1]? = some (.loop (recL fn a.tmps ps assign body w.heap.size .busy none)) := World.putObj_heap_same hlt
      have hk2 : (W.putObj (w.heap.size + 1) (.loop (recL fn a.tmps ps assign body w.heap.size .busy none))).heap[w.heap.size]? = some (.deferred (some [])) := (World.putObj_heap_other (by omega)).trans hk
      refine wpIn_mono (hbody (W.putObj (w.heap.size + 1) (.loop (recL fn a.tmps ps assign body w.heap.size .busy none))) (hI _ _ _ _ _ hi (by omega) hl rfl)) ?_
      rintro e a3 W3 ⟨hkn, (⟨rfl, hkp, hi3⟩ | ⟨rfl, hi3⟩)⟩
      · have hl3 := (hkn _ _ (by omega) hl2 rfl).trans hl2
        have hk3 := (hkn _ _ (Nat.le_refl _) hk2 rfl).trans hk2
        refine ⟨_, _, run_endRound none hl3, .inl ⟨rfl, ⟨hI _ _ _ _ _ hi3 (by omega) hl3 rfl, World.putObj_heap_same (lt_of_blk hl3), (World.putObj_heap_other (by omega)).trans hk3⟩, (kps_put _ hl rfl).trans (hkp.trans (kps_put _ hl3 rfl))⟩⟩
      · have hl3 := (hkn _ _ (by omega) hl2 rfl).trans hl2
        have hk3 := (hkn _ _ (Nat.le_refl _) hk2 rfl).trans hk2
        exact ⟨_, _, run_endRound (some .ret) hl3, .inr ⟨rfl, hIx _ _ _ _ _ hi3 (by omega) hl3 rfl, World.putObj_heap_same (lt_of_blk hl3), (World.putObj_heap_other (by omega)).trans hk3⟩⟩
    · rintro e W2 ⟨⟨v, rfl⟩, (⟨hi, hl, hk⟩ | ⟨pre, hi, hl, hk⟩)⟩
      · exact ⟨none, _, run_endLoop hl (by simp [recL]), hdone _ (hI _ _ _ _ _ hi (by omega) hl rfl) ((World.putObj_heap_other (by omega)).trans hk)⟩
      · exact ⟨some .ret, _, run_endLoop hl (by simp [recL]), wpIn_ret (hstop pre _ (hIx _ _ _ _ _ hi (by omega) hl rfl) ((World.putObj_heap_other (by omega)).trans hk))⟩
end Go.Proofs.YtakijeooaeflkaaGreatDoor.Fl
