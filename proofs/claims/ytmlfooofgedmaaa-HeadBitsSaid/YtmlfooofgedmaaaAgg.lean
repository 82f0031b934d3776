/-
  The document's Head as an argument: a struct of five cells by value.
-/
import Derived.Test.YtmlfooofgedmaaaProg
import Derived.WalkKit
import Derived.ProofKit
import Derived.OpenShut
import Derived.Lib.SmallJoins
namespace Go.Proofs.Ytmlfooofgedmaaa.Fl
open Go.RowKit Go.Joins Go.ChangeShapes Go.WideShapes

theorem hd_cells : Try.prog.cellsOf 25 = 5 := by kernel_rfl
theorem list5 {α : Type} {l : List α} (h : l.length = 5) : ∃ a b c d e, l = [a, b, c, d, e] := by
  match l, h with
  | [a, b, c, d, e], _ => exact ⟨a, b, c, d, e, rfl⟩
theorem open_head {H : Type} {enc : TypeId × Value → H} {w : World} {base b0 : Nat} {spare : Nat → Bool} {held : Bool} {r : Reach} {v : Value} {d : DataW H} {p : List MemPlace}
    (hv : Value.okWide Try.prog w r b0 25 v) (h : DataW.Trod enc Try.prog w base spare held 25 v d p) :
    ∃ (a b c e : Int) (m : Bool), v = .agg #[.int .u64 a, .int .i64 b, .int .i64 c, .int .u32 e, .bool m] ∧ (Lit.int .u64 a).wf = true ∧ (Lit.int .i64 b).wf = true ∧ (Lit.int .i64 c).wf = true ∧ (Lit.int .u32 e).wf = true := by
  obtain ⟨cs, rfl, hsz⟩ := okWide_struct Try.underlying25 hv
  obtain ⟨l⟩ := cs
  obtain ⟨c0, c1, c2, c3, c4, rfl⟩ := list5 (hsz.trans hd_cells)
  obtain ⟨fuel, hf⟩ := h
  obtain ⟨xs, n, _, _, _, hlen, hg⟩ := DataW.trod_struct Try.underlying25 hf
  obtain ⟨y0, y1, y2, y3, y4, rfl⟩ := list5 hlen
  have k22 : Try.prog.cellsOf 22 = 1 := by kernel_rfl
  have k3 : Try.prog.cellsOf 3 = 1 := by kernel_rfl
  have k23 : Try.prog.cellsOf 23 = 1 := by kernel_rfl
  have k4 : Try.prog.cellsOf 4 = 1 := by kernel_rfl
  have g0 : DataW.trod enc Try.prog w base spare held n 22 [c0] = some y0 := by simpa [Value.cells, k22] using hg 0 _ rfl
  have g1 : DataW.trod enc Try.prog w base spare held n 3 [c1] = some y1 := by simpa [Value.cells, k3] using hg 1 _ rfl
  have g2 : DataW.trod enc Try.prog w base spare held n 3 [c2] = some y2 := by simpa [Value.cells, k3] using hg 2 _ rfl
  have g3 : DataW.trod enc Try.prog w base spare held n 23 [c3] = some y3 := by simpa [Value.cells, k23] using hg 3 _ rfl
  have g4 : DataW.trod enc Try.prog w base spare held n 4 [c4] = some y4 := by simpa [Value.cells, k4] using hg 4 _ rfl
  obtain ⟨a, e0, _, wa⟩ := DataW.trod_int Try.underlying22 g0
  obtain ⟨b, e1, _, wb⟩ := DataW.trod_int Try.underlying3 g1
  obtain ⟨c, e2, _, wc⟩ := DataW.trod_int Try.underlying3 g2
  obtain ⟨e, e3, _, we⟩ := DataW.trod_int Try.underlying23 g3
  obtain ⟨m, e4, _⟩ := DataW.trod_bool Try.underlying4 g4
  simp at e0 e1 e2 e3 e4
  subst e0 e1 e2 e3 e4
  exact ⟨a, b, c, e, m, rfl, wa, wb, wc, we⟩
end Go.Proofs.Ytmlfooofgedmaaa.Fl
