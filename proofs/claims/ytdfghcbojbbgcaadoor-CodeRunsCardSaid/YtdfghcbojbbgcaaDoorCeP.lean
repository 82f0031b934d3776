/-
  Instructions: Check of any code.
-/
import Derived.Test.YtdfghcbojbbgcaaDoorCeO
import Derived.Tactics2
import Derived.Defers
import Derived.Recover
import Derived.Laws.Pointers
namespace Go.Proofs.YtdfghcbojbbgcaaDoor.Fl
open Go.RowKit Go.Maps

def caughtK (n : Int) : List PanicEntry := [{ v := .iface 43 (.agg #[.int .i64 n]), recovered := true }]
structure ResK (w : World) (P1 P2 : Nat) (m e : Int) : Prop where
  mo : w.heap[P1]? = some (.cells #[.int .i64 m] 3 (0, 0))
  er : w.heap[P2]? = some (.cells #[.int .i64 e] 27 (0, 0))
theorem otherK {w : World} {a b : Nat} {c1 c2 : Array Value} {t1 t2 : TypeId} (h1 : w.heap[a]? = some (.cells c1 t1 (0, 0))) (h2 : w.heap[b]? = some (.cells c2 t2 (0, 0))) (ht : t1 ≠ t2) : a ≠ b := by
  rintro rfl
  rw [h1] at h2
  injection h2 with h2
  injection h2 with _ h2 _
  exact ht h2
theorem set1K {w : World} {C : Nat} {a0 : Value} {T : TypeId} (h : w.heap[C]? = some (.cells #[a0] T (0, 0))) (v0 : Value) : (w.setCell ⟨C, 0, none⟩ v0).heap[C]? = some (.cells #[v0] T (0, 0)) :=
  heap_setCell_same w C 0 _ _ v0 h
theorem run_assert_faultK (v : Value) (w : World) : (Instr.typeAssert (.iface 43 v) 20 43 true).run Tryd.prog w = .ok (.tuple #[v, .bool true]) w := by
  simp [Instr.typeAssert, run_underlying Tryd.underlying43, go_sem, Result.andThen]
def CatchK (B P1 P2 : Nat) (n : Int) (w : World) (e : Exit) (a : Act) (w' : World) : Prop := (e = .normal ∨ e = .ret) ∧ a.defers = [] ∧ ResK w' P1 P2 0 n ∧ Below B w w'
set_option maxRecDepth 100000 in
set_option maxHeartbeats 4000000 in
theorem catchK_panicking (B P1 P2 : Nat) (n : Int) (w : World) {m e0 : Int} (h : ResK w P1 P2 m e0) (hB : B ≤ P1 ∧ B ≤ P2 ∧ B ≤ w.heap.size) :
    CallsD Tryd.prog 9 #[.pointer (some ⟨P1, 0, none⟩), .pointer (some ⟨P2, 0, none⟩)] (.panicking (faultK n)) w fun e u' w' =>
      e = .returned (.tuple #[]) ∧ u' = .panicking (caughtK n) ∧ ResK w' P1 P2 0 n ∧ Below B w w' := by
  refine callsD_of_wpS Tryd.func9 rfl fun c₀ cs hu => ?_
  apply wpS_seq
  apply wpS_region
  unfold faultK at hu
  simp [wpOpsS, go_sem, recoverD, hu, Tryd.ntmps9, Exit.thenS]
  refine wpS_of_wp (Code.wp_mono (Q := CatchK B P1 P2 n w) ?_ ?_)
  · rintro e a w' ⟨he, ha, hr, hb⟩
    have h1 : a.defers = [] ∧ ∃ u', ({ c₀ with mode := FrameMode.panicking (caughtK n) } :: cs : List Frame) = { c₀ with mode := u' } :: cs ∧ ∃ v, (results Tryd.f9 a.tmps).run Tryd.prog w' = .ok v w' ∧ (Ending.returned v = .returned (.tuple #[]) ∧ u' = .panicking (caughtK n) ∧ ResK w' P1 P2 0 n ∧ Below B w w') :=
      ⟨ha, _, rfl, .tuple #[], by simp [results, Tryd.results9], rfl, rfl, hr, hb⟩
    rcases he with rfl | rfl
    · exact h1
    · exact h1
  clear hu
  simp only [List.size_toArray, List.length_cons, List.length_nil, Nat.reduceAdd, Nat.reduceSub, Array.replicate_succ, Array.replicate_zero, List.push_toArray, List.append_toArray, List.nil_append, List.cons_append, Act.put, List.setIfInBounds_toArray, List.set_cons_zero, List.set_cons_succ]
  have hta := run_assert_faultK
  go_upto_region 7 with fail
  clear hta
  have hF := heap_alloc_new w (.cells #[.int .i64 n] 43)
  have hb1 : Below w.heap.size w (w.alloc (.cells #[.int .i64 n] 43)) := (Below.refl _ _).alloc (Nat.le_refl _) _
  have H1 := Lib.hid (show ResK (w.alloc (.cells #[.int .i64 n] 43)) P1 P2 m e0 from ⟨(hb1.block _ (lt_of_blkC h.mo)).trans h.mo, (hb1.block _ (lt_of_blkC h.er)).trans h.er⟩)
  have HB1 := Lib.hid (hb1.mono hB.2.2)
  generalize w.alloc (.cells #[.int .i64 n] 43) = w1 at *
  generalize w.heap.size = F at hF ⊢
  have d0 : w1.cell? ⟨F, 0, none⟩ = some (.int .i64 n) := cell_of_row _ _ _ _ _ _ hF
  have f2 := one_cellC H1.out.mo
  have f3 := one_cellC H1.out.er
  have l2 := lt_of_blkC H1.out.mo
  have l3 := lt_of_blkC H1.out.er
  have lF := lt_of_blkC hF
  have n23 : P1 ≠ P2 := otherK H1.out.mo H1.out.er (by decide)
  have m23 := n23.symm
  have nF2 : F ≠ P1 := otherK hF H1.out.mo (by decide)
  have nF3 : F ≠ P2 := otherK hF H1.out.er (by decide)
  clear h hb1
  have hd : ∀ W : World, W.drew.heap = W.heap := fun _ => rfl
  have s23 : ∀ (W : World) (j : Nat) (v : Value), (W.setCell ⟨P1, j, none⟩ v).heap[P2]? = W.heap[P2]? := fun W j v => Below.heap_setCell _ _ _ _ m23
  have s32 : ∀ (W : World) (j : Nat) (v : Value), (W.setCell ⟨P2, j, none⟩ v).heap[P1]? = W.heap[P1]? := fun W j v => Below.heap_setCell _ _ _ _ n23
  have HS := Lib.hid (And.intro hd (And.intro s23 s32))
  clear hd s23 s32
  go_region
  all_goals
    obtain ⟨hd, s23, s32⟩ := HS.out
    refine ⟨.inl rfl, rfl, ⟨?_, ?_⟩, ?_⟩
    · try simp only [hd, s32]
      refine set1K (a0 := .int .i64 m) ?_ _
      first | with_reducible exact H1.out.mo | (simp only [hd, s32]; with_reducible exact H1.out.mo)
    · try simp only [hd, s23]
      refine set1K (a0 := .int .i64 e0) ?_ _
      first | with_reducible exact H1.out.er | (simp only [hd, s23]; with_reducible exact H1.out.er)
    · repeat (first
        | with_reducible refine Below.drew ?_
        | with_reducible refine Below.setCell ?_ (by first | exact hB.1 | exact hB.2.1) _)
      with_reducible exact HB1.out
set_option maxRecDepth 100000 in
set_option maxHeartbeats 4000000 in
theorem look_any {C c M1 M2 B : Nat} {A : Option Addr} {L S F : Int} {v : Value} {most : Int} (code : List UInt8) (hN : code.length ≤ 1000) (hc : code.length ≤ c) (hne : M1 ≠ C) (hBm : B ≤ M1) (w : World) (hC : CkG w C code.length c M1 M2 A L S F v most) (hm : OwnM w M1 0 (.map [])) (hr : ∀ w', OvC M1 w w' → Rd w' B A (cb code)) (hB : B ≤ w.heap.size) (hF : ∀ w', OvC M1 w w' → FormsAt w') :
    Calls Tryd.prog 10 #[.pointer (some ⟨C, 0, none⟩)] w fun e w' => ((∃ n, n ≠ 0 ∧ e = .panicked (faultK n)) ∧ OvC M1 w w') ∨ (e = .returned (.tuple #[]) ∧ OvC M1 w w' ∧ ∃ n1 D1, OwnM w' M1 n1 D1 ∧ IsMap D1 ∧ P1 code D1) := by
  have hp := part_any code hN hc hne hBm (code.length + 1) 0 code.length w 0 (.map []) (by omega) (Nat.zero_le _) (Nat.le_refl _) hC hm isMap_empty (by omega) hr hB hF
  have hgu := fun w => giveUpC_any (.pointer (some ⟨C, 0, none⟩)) 4 w
  have fC := eight_cellsC hC
  clear hC hm hr hF
  go_enter Tryd.func10, Tryd.ntmps10
  go_wp2_with fail
  refine hp.mono ?_
  rintro e w2 (⟨⟨n8, hn8, rfl⟩, ho⟩ | ⟨r, n1, D1, rfl, ho, hm, hi, -, hP⟩)
  · exact ⟨rfl, .inl ⟨⟨n8, hn8, rfl⟩, ho⟩⟩
  have HO := Lib.hid ho
  have HM := Lib.hid hm
  have HI := Lib.hid hi
  have HP := Lib.hid hP
  clear hp ho hm hi hP
  cases r
  · go_wp2_with (go_at_call 19; refine (hgu _).mono ?_; rintro e w7 ⟨rfl, rfl⟩)
    exact ⟨rfl, .inl ⟨⟨4, by decide, rfl⟩, HO.out⟩⟩
  · go_wp2_with fail
    go_end0
    exact .inr ⟨rfl, HO.out, n1, D1, HM.out, HI.out, HP.out (by first | trivial | rfl) (fun k hk => by cases hk)⟩
end Go.Proofs.YtdfghcbojbbgcaaDoor.Fl

