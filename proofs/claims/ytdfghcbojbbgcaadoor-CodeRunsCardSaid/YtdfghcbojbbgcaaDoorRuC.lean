/-
  CodeRuns: the walk at what came in.
-/
import Derived.Test.YtdfghcbojbbgcaaDoorRuA
import Derived.Test.YtdfghcbojbbgcaaDoorWkCodeRuns
namespace Go.Proofs.YtdfghcbojbbgcaaDoor.Fl
open Go.RowKit

theorem gPowR : Tryd.prog.globalNamed "internal/strconv.uint64pow10" = some 1 := by kernel_rfl
theorem var_ltR {w : World} {n : String} {g : Nat} {cs : Array Value} (hg : Tryd.prog.globalNamed n = some g) (h : w.var? Tryd.prog n = some cs) : g < w.heap.size := by
  rcases Nat.lt_or_ge g w.heap.size with hlt | hge
  · exact hlt
  · exfalso
    unfold World.var? at h
    rw [hg] at h
    simp [Array.getElem?_eq_none hge] at h
theorem tab_belowR {w w' : World} (h : EnvC w) (hb : Below w.heap.size w w') : EnvC w' := var?_below hb gPowR (var_ltR gPowR h) h
theorem walk_CodeRuns (A : Option Addr) (len c : Nat) (zs : List Int) (L S F : Int) (At : Option Addr) (ct : Nat) (ts : List Bool) (w : World) (h : IsRow .u8 w A len c zs) (ht : Rd w w.heap.size At (cbo ts)) (hct : ts.length ≤ ct) (hT : FormsAt w ∧ EnvC w) :
    Calls Tryd.prog 3 #[.slice A len c, .agg #[.int .i64 L, .int .i64 S, .int .i64 F], .slice At ts.length ct] w fun e w' => e = .returned (.bool true) ∧ Below w.heap.size w w' := by
  obtain ⟨xs, rfl, hc, _, hr, hn, _⟩ := bytes_of_row h
  exact walkp_CodeRuns A c xs L S F At ct ts w hr hc (fun h => (hn h).1) ht hct hT.1 (fun w' hb => awake14_any w' (fun w'' h => hT.1.below (hb.trans (h.mono hb.size))) (fun w'' h => tab_belowR hT.2 (hb.trans (h.mono hb.size))))
end Go.Proofs.YtdfghcbojbbgcaaDoor.Fl
