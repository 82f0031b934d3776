/-
  The lexer: Arity of any text.
-/
import Derived.Test.YtakijeooaeflkaaGreatDoorLxAr
namespace Go.Proofs.YtakijeooaeflkaaGreatDoor.Fl
open Go.RowKit Go.Shelf
attribute [local go_sem] Oper.semAt_some

def nameL (l : List UInt8) : Bool := isNameB ⟨l.toArray⟩
theorem nameL_sb (t : ByteArray) : nameL (sb t) = isNameB t := by unfold nameL; rw [mk_sb]
theorem spl_len : ∀ l : List UInt8, (spl l).length ≤ l.length + 1
  | [] => Nat.le_refl _
  | c :: l => by
    have ih := spl_len l
    rw [spl]
    split
    · simp only [List.length_cons]; omega
    · split
      · simp only [List.length_cons, List.length_nil]; omega
      · next h => rw [h] at ih; simp only [List.length_cons] at ih ⊢; omega
def keysL (l : List UInt8) : Int := if (spl l).all nameL then ((spl l).length : Int) else -1
/-- how many arguments a message of that name has -/
def arityL (s : ByteArray) : Int :=
  if 64 < s.size then -1 else if isNameB s then 0 else if isOpL (sb s) then 1
  else if Lib.hasSuffix (sb s) [58] then keysL (Lib.trimSuffix (sb s) [58]) else -1
/-- what stands while the range runs: the result's box, and the count's -/
def ArI (w : World) (pre : List (List UInt8)) (W : World) : Prop :=
  W.heap[w.heap.size]? = some (.cells #[.int .i64 0] 3 (0, 0)) ∧ W.heap[w.heap.size + 1]? = some (.cells #[.int .i64 (pre.length : Int)] 3 (0, 0)) ∧ Below w.heap.size w W ∧ w.heap.size + 5 ≤ W.heap.size ∧ pre.all nameL = true
def ArX (w : World) (r : Int) (_ : List (List UInt8)) (W : World) : Prop :=
  W.heap[w.heap.size]? = some (.cells #[.int .i64 (-1)] 3 (0, 0)) ∧ Below w.heap.size w W ∧ w.heap.size + 5 ≤ W.heap.size ∧ r = -1
theorem ari_result {W : World} {C : Nat} {n : Int} {a : Array Value} (h : W.heap[C]? = some (.cells #[.int .i64 n] 3 (0, 0))) (ha : a[2]?.getD undef = .pointer (some ⟨C, 0, none⟩)) :
    (results Tryz.f24 a).run Tryz.prog W = .ok (.int .i64 n) W := by
  obtain ⟨c0, _⟩ := one_cellL h
  simp [results, Tryz.results24, go_sem, ha, c0]
set_option maxRecDepth 100000 in
set_option maxHeartbeats 4000000 in
theorem arity_any (s : ByteArray) (w : World) (hs : s.size ≤ 16777216) : Calls Tryz.prog 24 #[.string s] w fun e w' => e = .returned (.int .i64 (arityL s)) ∧ Below w.heap.size w w' := by
  have hn := fun w => isName_any s w hs
  have ho := fun w => lxOp_is s w hs
  have hc := fun w => Tryz.strings_CutSuffix s ⟨#[58]⟩ w (by omega)
  obtain ⟨nb, hnb⟩ : ∃ nb : ByteArray, (⟨(Lib.trimSuffix s.data.toList (⟨#[58]⟩ : ByteArray).data.toList).toArray⟩ : ByteArray) = nb := ⟨_, rfl⟩
  have hsb : sb nb = Lib.trimSuffix (sb s) [58] := by rw [← hnb, sb_mk]
  have hnbs : nb.size ≤ 16777216 := by
    rw [sb_size, hsb]
    unfold Lib.trimSuffix
    split
    · rw [List.length_take, sb_len]; omega
    · rw [sb_len]; exact hs
  rw [hnb] at hc
  have hp := fun w => splitSeq_any nb ⟨#[58]⟩ w
  clear hnb
  obtain ⟨r, hr⟩ : ∃ r, arityL s = r := ⟨_, rfl⟩
  rw [hr]
  have HR := Lib.hid hr
  unfold arityL at HR
  clear hr
  refine (callsIn_wide (n := 4)).1 ?_
  refine callsIn_of_wp_marks Tryz.func24 rfl trivial ?_ rfl
  simp only [Tryz.ntmps24, List.size_toArray, List.length_cons, List.length_nil, Nat.reduceAdd, Nat.reduceSub, Array.replicate_succ, Array.replicate_zero, List.push_toArray, List.append_toArray, List.nil_append, List.cons_append]
  by_cases h64 : 64 < s.size
  · have HR1 : r = -1 := (HR.out.symm.trans (if_pos h64))
    have hz : (64 : Int) < (s.size : Int) := by omega
    subst HR1
    have h1 := heap_alloc_new w (.cells #[.int .i64 (-1)] 3)
    have hb1 : Below w.heap.size w (w.alloc (.cells #[.int .i64 (-1)] 3)) := (Below.refl _ _).alloc (Nat.le_refl _) _
    gi_wp2
    exact ⟨_, ari_result h1 rfl, rfl, hb1⟩
  · have HR1 := Lib.hid (HR.out.symm.trans (if_neg h64))
    have hz : ¬ (64 : Int) < (s.size : Int) := by omega
    clear HR
    gi_wp2
    refine ⟨trivial, ?_⟩
    gi_at_call 49
    refine (callsIn_wide.2 (hn _)).mono ?_
    rintro e w' ⟨rfl, rfl⟩
    clear hn
    cases hin : isNameB s
    case true =>
      have HR2 : r = 0 := (HR1.out.trans (if_pos hin))
      subst HR2
      have h1 := heap_alloc_new w (.cells #[.int .i64 0] 3)
      have hb1 : Below w.heap.size w (w.alloc (.cells #[.int .i64 0] 3)) := (Below.refl _ _).alloc (Nat.le_refl _) _
      gi_wp2
      exact ⟨_, ari_result h1 rfl, rfl, hb1⟩
    have HR2 := Lib.hid (HR1.out.trans (if_neg (by rw [hin]; simp)))
    clear HR1 hin
    gi_wp2
    refine ⟨trivial, ?_⟩
    gi_at_call 50
    refine (callsIn_wide.2 (ho _)).mono ?_
    rintro e w' ⟨rfl, rfl⟩
    clear ho
    cases hio : isOpL (sb s)
    case true =>
      have HR3 : r = 1 := (HR2.out.trans (if_pos hio))
      subst HR3
      have h1 := heap_alloc_new w (.cells #[.int .i64 1] 3)
      have hb1 : Below w.heap.size w (w.alloc (.cells #[.int .i64 1] 3)) := (Below.refl _ _).alloc (Nat.le_refl _) _
      gi_wp2
      exact ⟨_, ari_result h1 rfl, rfl, hb1⟩
    have HR3 := Lib.hid (HR2.out.trans (if_neg (by rw [hio]; simp)))
    clear HR2 hio
    gi_wp2
    refine ⟨trivial, ?_⟩
    gi_at_call 51
    refine (callsIn_wide.2 (hc _)).mono ?_
    rintro e w' ⟨rfl, rfl⟩
    clear hc
    change _ at HR3
    cases hsf : Lib.hasSuffix s.data.toList (⟨#[58]⟩ : ByteArray).data.toList
    case false =>
      have HR4 : r = -1 := (HR3.out.trans (if_neg (by rw [show Lib.hasSuffix (sb s) [58] = false from hsf]; simp)))
      subst HR4
      have h1 := heap_alloc_new w (.cells #[.int .i64 (-1)] 3)
      have hb1 : Below w.heap.size w (w.alloc (.cells #[.int .i64 (-1)] 3)) := (Below.refl _ _).alloc (Nat.le_refl _) _
      gi_wp2
      exact ⟨_, ari_result h1 rfl, rfl, hb1⟩
    have HR4 := Lib.hid (HR3.out.trans (if_pos (show Lib.hasSuffix (sb s) [58] = true from hsf)))
    rw [← hsb] at HR4
    clear HR3 hsf hsb
    gi_wp2
    refine ⟨trivial, ?_⟩
    gi_at_call 52
    refine (callsIn_wide.2 (hp _)).mono ?_
    rintro e w' ⟨rfl, rfl⟩
    gi_wp2
    obtain ⟨W0, hW0⟩ : ∃ W0, (((((w.alloc (.cells #[.int .i64 0] 3)).alloc (.cells #[.int .i64 0] 3)).alloc (.cells #[.string nb] 9)).alloc (.cells #[.string ⟨#[58]⟩] 9)).alloc (.cells #[.int .i64 0] 3)) = W0 := ⟨_, rfl⟩
    obtain ⟨q1, q2, q3, q4, q5, hb0, hsz⟩ := five_boxes w (.cells #[.int .i64 0] 3) (.cells #[.int .i64 0] 3) (.cells #[.string nb] 9) (.cells #[.string ⟨#[58]⟩] 9) (.cells #[.int .i64 0] 3) W0 hW0
    rw [hW0]
    clear hW0
    have hspl := spl_len (sb nb)
    rw [sb_len] at hspl
    refine range_all (b1 := w.heap.size + 1 + 1 + 1) (b2 := w.heap.size + 1 + 1) (b3 := w.heap.size + 1 + 1 + 1 + 1) (by decide) nb hnbs rfl ⟨q4, q3, q5⟩ ⟨by omega, by omega⟩ (X := fun k => k = w.heap.size + 1) ⟨by omega, by omega, by omega⟩ rfl
      (ArI w) (ArX w r) ?put ?putx ?al ?st ⟨q1, q2, hb0, by omega, rfl⟩ ?round ?done ?stop
    case put =>
      rintro s W l o o' ⟨h1, h2, h3, h4, h5⟩ hl hlo ho
      refine ⟨(World.putObj_heap_other (by omega)).trans h1, (World.putObj_heap_other (by omega)).trans h2, ⟨h3.os, h3.tape, h3.output, by simpa using h3.size, fun k hk => (World.putObj_heap_other (by omega)).trans (h3.block k hk)⟩, by simpa using h4, h5⟩
    case putx =>
      rintro s W l o o' ⟨h1, h3, h4, h5⟩ hl hlo ho
      refine ⟨(World.putObj_heap_other (by omega)).trans h1, ⟨h3.os, h3.tape, h3.output, by simpa using h3.size, fun k hk => (World.putObj_heap_other (by omega)).trans (h3.block k hk)⟩, by simpa using h4, h5⟩
    case al =>
      rintro s W o ⟨h1, h2, h3, h4, h5⟩
      exact ⟨(Below.heap_alloc _ _ _ (by omega)).trans h1, (Below.heap_alloc _ _ _ (by omega)).trans h2, h3.alloc (by omega) _, by rw [World.size_alloc]; omega, h5⟩
    case st =>
      rintro s W v ⟨h1, h2, h3, h4, h5⟩
      exact ⟨(Below.heap_setCell W ⟨w.heap.size + 1 + 1, 0, none⟩ v _ (by show w.heap.size ≠ w.heap.size + 1 + 1; omega)).trans h1, (Below.heap_setCell W ⟨w.heap.size + 1 + 1, 0, none⟩ v _ (by show w.heap.size + 1 ≠ w.heap.size + 1 + 1; omega)).trans h2, h3.setCell (p := ⟨w.heap.size + 1 + 1, 0, none⟩) (by show w.heap.size ≤ w.heap.size + 1 + 1; omega) _, by rw [World.size_setCell]; exact h4, h5⟩
    case round =>
      rintro l pre t W K hi hts ⟨post, hpost⟩ hK
      have hnx := fun W2 => isName_any t W2 (by omega)
      have hpl : pre.length ≤ 16777216 := by
        have := congrArg List.length hpost
        rw [List.length_append, List.length_cons] at this
        omega
      have HPo := Lib.hid hpost
      clear hpost hspl
      gi_wp2
      rintro W2 ⟨h1, h2, h3, h4, h5⟩
      have H5 := Lib.hid h5
      clear h5
      have f1 := one_cellL h1
      have f2 := one_cellL h2
      cases hnm : isNameB t
      · rw [hnm] at hnx
        gi_wp2
        refine ⟨trivial, ?_⟩
        gi_at_call 49
        refine (CallsIn.inRound l (callsIn_wide.2 (hnx _))).mono ?_
        rintro e w' ⟨rfl, rfl⟩
        gi_wp2
        have hrn : r = -1 := by
          rw [HR4.out]
          unfold keysL
          rw [if_neg]
          rw [← HPo.out, List.all_append, List.all_cons, nameL_sb, hnm]
          simp
        refine ⟨fun k o hk ho hc => Below.heap_setCell W2 ⟨w.heap.size, 0, none⟩ _ k (by show k ≠ w.heap.size; omega), .inr ⟨rfl, ?_, h3.setCell (p := ⟨w.heap.size, 0, none⟩) (Nat.le_refl _) _, by rw [World.size_setCell]; exact h4, hrn⟩⟩
        exact set1L h1 _
      · rw [hnm] at hnx
        gi_wp2
        refine ⟨trivial, ?_⟩
        gi_at_call 49
        refine (CallsIn.inRound l (callsIn_wide.2 (hnx _))).mono ?_
        rintro e w' ⟨rfl, rfl⟩
        gi_wp2
        refine ⟨fun k o hk _ _ => Below.heap_setCell W2 ⟨w.heap.size + 1, 0, none⟩ _ k (by show k ≠ w.heap.size + 1; omega), .inl ⟨rfl, ⟨by rw [World.size_setCell]; exact Nat.le_refl _, fun k cs T fr _ hk => Below.heap_setCell W2 ⟨w.heap.size + 1, 0, none⟩ _ k hk⟩, ?_⟩⟩
        refine ⟨(Below.heap_setCell W2 ⟨w.heap.size + 1, 0, none⟩ _ _ (by show w.heap.size ≠ w.heap.size + 1; omega)).trans h1, ?_, h3.setCell (p := ⟨w.heap.size + 1, 0, none⟩) (by show w.heap.size ≤ w.heap.size + 1; omega) _, by rw [World.size_setCell]; exact h4, by rw [List.all_append, H5.out, List.all_cons, nameL_sb, hnm]; rfl⟩
        rw [List.length_append]
        exact set1L h2 _
    case done =>
      rintro W ⟨h1, h2, h3, h4, h5⟩ hD
      have hrr : r = ((spl (sb nb)).length : Int) := by rw [HR4.out]; unfold keysL; rw [if_pos h5]
      subst hrr
      clear HR4 h5
      have f1 := one_cellL h1
      have f2 := one_cellL h2
      gi_wp2
      have l1 := lt_of_blk h1
      have hD2 : (W.setCell ⟨w.heap.size, 0, none⟩ (.int .i64 ((spl (sb nb)).length : Int))).heap[W0.heap.size]? = some (.deferred (some [])) := (Below.heap_setCell W ⟨w.heap.size, 0, none⟩ _ _ (by show W0.heap.size ≠ w.heap.size; omega)).trans hD
      have hr2 := set1L h1 (.int .i64 ((spl (sb nb)).length : Int))
      have hb2 : Below w.heap.size w (W.setCell ⟨w.heap.size, 0, none⟩ (.int .i64 ((spl (sb nb)).length : Int))) := h3.setCell (p := ⟨w.heap.size, 0, none⟩) (Nat.le_refl _) _
      refine ⟨by simp, .inl ⟨_, _, rfl, run_takeDeferred hD2, ?_⟩⟩
      have hr3 := (World.putObj_heap_other (o := .deferred none) (show w.heap.size ≠ W0.heap.size by omega)).trans hr2
      have hb3 : Below w.heap.size w ((W.setCell ⟨w.heap.size, 0, none⟩ (.int .i64 ((spl (sb nb)).length : Int))).putObj W0.heap.size (.deferred none)) := ⟨hb2.os, hb2.tape, hb2.output, by simpa using hb2.size, fun k hk => (World.putObj_heap_other (by omega)).trans (hb2.block k hk)⟩
      exact ⟨_, ari_result hr3 rfl, rfl, hb3⟩
    case stop =>
      rintro pre W ⟨h1, h3, h4, rfl⟩ hD
      refine ⟨by simp, .inl ⟨_, _, rfl, run_takeDeferred hD, ?_⟩⟩
      have hr3 := (World.putObj_heap_other (o := .deferred none) (show w.heap.size ≠ W0.heap.size by omega)).trans h1
      have hb3 : Below w.heap.size w (W.putObj W0.heap.size (.deferred none)) := ⟨h3.os, h3.tape, h3.output, by simpa using h3.size, fun k hk => (World.putObj_heap_other (by omega)).trans (h3.block k hk)⟩
      exact ⟨_, ari_result hr3 rfl, rfl, hb3⟩
end Go.Proofs.YtakijeooaeflkaaGreatDoor.Fl
