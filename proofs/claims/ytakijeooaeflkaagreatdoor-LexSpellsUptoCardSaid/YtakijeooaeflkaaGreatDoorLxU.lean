/-
  The lexer: Arity of the laws' fixed name.
-/
import Derived.Test.YtakijeooaeflkaaGreatDoorLxV
namespace Go.Proofs.YtakijeooaeflkaaGreatDoor.Fl
open Go.RowKit Go.Shelf
attribute [local go_sem] Oper.semAt_some

abbrev fixA : ByteArray := ⟨#[97, 116, 58, 112, 117, 116, 58]⟩
set_option maxRecDepth 100000 in
theorem splitSeq0_any (s sep : ByteArray) (w : World) :
    Calls Tryz.prog 87 #[.string s, .string sep, .int .i64 0] w fun e w' => e = .returned (.func (.func 122) #[] #[.pointer (some ⟨w.heap.size + 1, 0, none⟩), .pointer (some ⟨w.heap.size, 0, none⟩), .pointer (some ⟨w.heap.size + 1 + 1, 0, none⟩)]) ∧
      w' = ((w.alloc (.cells #[.string s] 9)).alloc (.cells #[.string sep] 9)).alloc (.cells #[.int .i64 0] 3) := by
  have hmf : ∀ (fn : Fn) (first cap : Array Value) (w : World), (Instr.makeFunc fn first cap).run Tryz.prog w = .ok (.func fn first cap) w := fun _ _ _ _ => rfl
  go_enter Tryz.func87, Tryz.ntmps87
  go_wp2_with fail
  go_ret
  exact ⟨rfl, rfl⟩
set_option maxRecDepth 100000 in
theorem splitSeq_any (s sep : ByteArray) (w : World) :
    Calls Tryz.prog 52 #[.string s, .string sep] w fun e w' => e = .returned (.func (.func 122) #[] #[.pointer (some ⟨w.heap.size + 1, 0, none⟩), .pointer (some ⟨w.heap.size, 0, none⟩), .pointer (some ⟨w.heap.size + 1 + 1, 0, none⟩)]) ∧
      w' = ((w.alloc (.cells #[.string s] 9)).alloc (.cells #[.string sep] 9)).alloc (.cells #[.int .i64 0] 3) := by
  have h := splitSeq0_any s sep w
  go_enter Tryz.func52, Tryz.ntmps52
  go_wp2_with fail
  refine h.mono ?_
  rintro e w' ⟨rfl, rfl⟩
  go_wp2_with fail
  go_ret
  exact ⟨rfl, rfl⟩
theorem five_boxes (w : World) (o1 o2 o3 o4 o5 : Obj) (W : World) (hW : (((((w.alloc o1).alloc o2).alloc o3).alloc o4).alloc o5) = W) :
    W.heap[w.heap.size]? = some o1 ∧ W.heap[w.heap.size + 1]? = some o2 ∧ W.heap[w.heap.size + 1 + 1]? = some o3 ∧ W.heap[w.heap.size + 1 + 1 + 1]? = some o4 ∧ W.heap[w.heap.size + 1 + 1 + 1 + 1]? = some o5 ∧ Below w.heap.size w W ∧ W.heap.size = w.heap.size + 5 := by
  subst hW
  have s1 : (w.alloc o1).heap.size = w.heap.size + 1 := World.size_alloc w o1
  have s2 : ((w.alloc o1).alloc o2).heap.size = w.heap.size + 1 + 1 := by rw [World.size_alloc, s1]
  have s3 : (((w.alloc o1).alloc o2).alloc o3).heap.size = w.heap.size + 1 + 1 + 1 := by rw [World.size_alloc, s2]
  have s4 : ((((w.alloc o1).alloc o2).alloc o3).alloc o4).heap.size = w.heap.size + 1 + 1 + 1 + 1 := by rw [World.size_alloc, s3]
  have n1 := heap_alloc_new w o1
  have n2 := heap_alloc_new (w.alloc o1) o2
  have n3 := heap_alloc_new ((w.alloc o1).alloc o2) o3
  have n4 := heap_alloc_new (((w.alloc o1).alloc o2).alloc o3) o4
  have n5 := heap_alloc_new ((((w.alloc o1).alloc o2).alloc o3).alloc o4) o5
  rw [s1] at n2
  rw [s2] at n3
  rw [s3] at n4
  rw [s4] at n5
  have b5 := (Below.refl w.heap.size w).alloc (Nat.le_refl _) o1
  have b6 := b5.alloc (by omega) o2
  have b7 := b6.alloc (by omega) o3
  have b8 := b7.alloc (by omega) o4
  have b9 := b8.alloc (by omega) o5
  refine ⟨?_, ?_, ?_, ?_, n5, b9, by rw [World.size_alloc, s4]⟩
  · exact (Below.heap_alloc _ o5 _ (by omega)).trans ((Below.heap_alloc _ o4 _ (by omega)).trans ((Below.heap_alloc _ o3 _ (by omega)).trans ((Below.heap_alloc _ o2 _ (by omega)).trans n1)))
  · exact (Below.heap_alloc _ o5 _ (by omega)).trans ((Below.heap_alloc _ o4 _ (by omega)).trans ((Below.heap_alloc _ o3 _ (by omega)).trans n2))
  · exact (Below.heap_alloc _ o5 _ (by omega)).trans ((Below.heap_alloc _ o4 _ (by omega)).trans n3)
  · exact (Below.heap_alloc _ o5 _ (by omega)).trans n4
/-- what stands while the range runs: the result's box, and the count's -/
def AriI (w : World) (pre : List Bool) (W : World) : Prop :=
  W.heap[w.heap.size]? = some (.cells #[.int .i64 0] 3 (0, 0)) ∧ W.heap[w.heap.size + 1]? = some (.cells #[.int .i64 (pre.length : Int)] 3 (0, 0)) ∧ Below w.heap.size w W ∧ w.heap.size + 5 ≤ W.heap.size
set_option maxRecDepth 100000 in
set_option maxHeartbeats 4000000 in
theorem arity_fix (w : World) : Calls Tryz.prog 24 #[.string fixA] w fun e w' => e = .returned (.int .i64 2) ∧ Below w.heap.size w w' := by
  have hn := fun w => isName_any fixA w (by decide)
  rw [show isNameB fixA = false from by decide +kernel] at hn
  have ho := fun w => lxOp_is fixA w (by decide)
  rw [show isOpL (sb fixA) = false from by decide +kernel] at ho
  have hc := fun w => Tryz.strings_CutSuffix fixA ⟨#[58]⟩ w (by decide)
  rw [show (⟨(Lib.trimSuffix fixA.data.toList (⟨#[58]⟩ : ByteArray).data.toList).toArray⟩ : ByteArray) = bothB from by decide +kernel, show Lib.hasSuffix fixA.data.toList (⟨#[58]⟩ : ByteArray).data.toList = true from by decide +kernel] at hc
  have hp := fun w => splitSeq_any bothB ⟨#[58]⟩ w
  have hz : ((fixA.size : Nat) : Int) = 7 := by decide +kernel
  refine (callsIn_wide (n := 4)).1 ?_
  refine callsIn_of_wp_marks Tryz.func24 rfl trivial ?_ rfl
  simp only [Tryz.ntmps24, List.size_toArray, List.length_cons, List.length_nil, Nat.reduceAdd, Nat.reduceSub, Array.replicate_succ, Array.replicate_zero, List.push_toArray, List.append_toArray, List.nil_append, List.cons_append]
  gi_wp2
  refine ⟨trivial, ?_⟩
  gi_at_call 49
  refine (callsIn_wide.2 (hn _)).mono ?_
  rintro e w' ⟨rfl, rfl⟩
  gi_wp2
  refine ⟨trivial, ?_⟩
  gi_at_call 50
  refine (callsIn_wide.2 (ho _)).mono ?_
  rintro e w' ⟨rfl, rfl⟩
  gi_wp2
  refine ⟨trivial, ?_⟩
  gi_at_call 51
  refine (callsIn_wide.2 (hc _)).mono ?_
  rintro e w' ⟨rfl, rfl⟩
  gi_wp2
  refine ⟨trivial, ?_⟩
  gi_at_call 52
  refine (callsIn_wide.2 (hp _)).mono ?_
  rintro e w' ⟨rfl, rfl⟩
  gi_wp2
  obtain ⟨W0, hW0⟩ : ∃ W0, (((((w.alloc (.cells #[.int .i64 0] 3)).alloc (.cells #[.int .i64 0] 3)).alloc (.cells #[.string bothB] 9)).alloc (.cells #[.string ⟨#[58]⟩] 9)).alloc (.cells #[.int .i64 0] 3)) = W0 := ⟨_, rfl⟩
  obtain ⟨q1, q2, q3, q4, q5, hb0, hsz⟩ := five_boxes w (.cells #[.int .i64 0] 3) (.cells #[.int .i64 0] 3) (.cells #[.string bothB] 9) (.cells #[.string ⟨#[58]⟩] 9) (.cells #[.int .i64 0] 3) W0 hW0
  rw [hW0]
  clear hW0
  refine range_spl (b1 := w.heap.size + 1 + 1 + 1) (b2 := w.heap.size + 1 + 1) (b3 := w.heap.size + 1 + 1 + 1 + 1) (by decide) rfl ⟨q4, q3, q5⟩ ⟨by omega, by omega⟩ (X := fun k => k = w.heap.size + 1) ⟨by omega, by omega, by omega⟩ rfl
    (AriI w) ?put ?al ?st ⟨q1, q2, hb0, by omega⟩ ?round ?done
  case put =>
    rintro s W l o o' ⟨h1, h2, h3, h4⟩ hl hlo ho
    refine ⟨(World.putObj_heap_other (by omega)).trans h1, (World.putObj_heap_other (by omega)).trans h2, ⟨h3.os, h3.tape, h3.output, by simpa using h3.size, fun k hk => (World.putObj_heap_other (by omega)).trans (h3.block k hk)⟩, by simpa using h4⟩
  case al =>
    rintro s W o ⟨h1, h2, h3, h4⟩
    exact ⟨(Below.heap_alloc _ _ _ (by omega)).trans h1, (Below.heap_alloc _ _ _ (by omega)).trans h2, h3.alloc (by omega) _, by rw [World.size_alloc]; omega⟩
  case st =>
    rintro s W v ⟨h1, h2, h3, h4⟩
    exact ⟨(Below.heap_setCell W ⟨w.heap.size + 1 + 1, 0, none⟩ v _ (by show w.heap.size ≠ w.heap.size + 1 + 1; omega)).trans h1, (Below.heap_setCell W ⟨w.heap.size + 1 + 1, 0, none⟩ v _ (by show w.heap.size + 1 ≠ w.heap.size + 1 + 1; omega)).trans h2, h3.setCell (p := ⟨w.heap.size + 1 + 1, 0, none⟩) (by show w.heap.size ≤ w.heap.size + 1 + 1; omega) _, by rw [World.size_setCell]; exact h4⟩
  case round =>
    rintro l pre x W K hi hlen hK
    obtain ⟨t, ht, hnm, hts⟩ : ∃ t : ByteArray, encS x = #[.string t] ∧ isNameB t = true ∧ t.size ≤ 16777216 := by
      cases x
      · exact ⟨atB, rfl, by decide +kernel, by decide⟩
      · exact ⟨putB, rfl, by decide +kernel, by decide⟩
    have hnx := fun W2 => isName_any t W2 hts
    rw [hnm] at hnx
    rw [ht]
    clear ht hnm hts
    gi_wp2
    rintro W2 ⟨h1, h2, h3, h4⟩
    have f1 := one_cellL h2
    gi_wp2
    refine ⟨trivial, ?_⟩
    gi_at_call 49
    refine (CallsIn.inRound l (callsIn_wide.2 (hnx _))).mono ?_
    rintro e w' ⟨rfl, rfl⟩
    gi_wp2
    refine ⟨rfl, ⟨by rw [World.size_setCell]; exact Nat.le_refl _, fun k cs T fr _ hk => Below.heap_setCell W2 ⟨w.heap.size + 1, 0, none⟩ _ k hk⟩, fun k o hk _ _ => Below.heap_setCell W2 ⟨w.heap.size + 1, 0, none⟩ _ k (by show k ≠ w.heap.size + 1; omega), ?_⟩
    refine ⟨(Below.heap_setCell W2 ⟨w.heap.size + 1, 0, none⟩ _ _ (by show w.heap.size ≠ w.heap.size + 1; omega)).trans h1, ?_, h3.setCell (p := ⟨w.heap.size + 1, 0, none⟩) (by show w.heap.size ≤ w.heap.size + 1; omega) _, by rw [World.size_setCell]; exact h4⟩
    rw [List.length_append]
    exact set1L h2 _
  case done =>
    rintro W ⟨h1, h2, h3, h4⟩ hD
    have f1 := one_cellL h1
    have f2 := one_cellL h2
    gi_wp2
    have l1 := lt_of_blk h1
    have hD2 : (W.setCell ⟨w.heap.size, 0, none⟩ (.int .i64 2)).heap[W0.heap.size]? = some (.deferred (some [])) := (Below.heap_setCell W ⟨w.heap.size, 0, none⟩ _ _ (by show W0.heap.size ≠ w.heap.size; omega)).trans hD
    have hr2 := set1L h1 (.int .i64 2)
    have hb2 : Below w.heap.size w (W.setCell ⟨w.heap.size, 0, none⟩ (.int .i64 2)) := h3.setCell (p := ⟨w.heap.size, 0, none⟩) (Nat.le_refl _) _
    refine ⟨by simp, .inl ⟨_, _, rfl, run_takeDeferred hD2, ?_⟩⟩
    have hr3 := (World.putObj_heap_other (o := .deferred none) (show w.heap.size ≠ W0.heap.size by omega)).trans hr2
    have hb3 : Below w.heap.size w ((W.setCell ⟨w.heap.size, 0, none⟩ (.int .i64 2)).putObj W0.heap.size (.deferred none)) := ⟨hb2.os, hb2.tape, hb2.output, by simpa using hb2.size, fun k hk => (World.putObj_heap_other (by omega)).trans (hb2.block k hk)⟩
    obtain ⟨c0, _⟩ := one_cellL hr3
    refine ⟨.int .i64 2, ?_, rfl, hb3⟩
    simp [results, Tryz.results24, go_sem, c0]
end Go.Proofs.YtakijeooaeflkaaGreatDoor.Fl
