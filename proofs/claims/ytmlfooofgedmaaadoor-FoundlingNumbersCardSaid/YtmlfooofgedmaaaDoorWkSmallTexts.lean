/-
  The walk of SmallTexts: it returns true, and writes nothing that was there.
-/
import Derived.Test.YtmlfooofgedmaaaDoorTextC
namespace Go.Proofs.YtmlfooofgedmaaaDoor.Fl
open Go.RowKit

/-- what the walks read of the program's own variables -/
structure EnvT (w : World) : Prop where
  tab : Lib.TabIs Tryd.prog w "internal/strconv.uint64pow10" .u64 Lib.pow10Tab
  err : ∃ tp p, w.var? Tryd.prog "strconv.ErrRange" = some #[.iface tp p]
theorem var_lt {w : World} {n : String} {g : Nat} {cs : Array Value} (hg : Tryd.prog.globalNamed n = some g) (h : w.var? Tryd.prog n = some cs) : g < w.heap.size := by
  rcases Nat.lt_or_ge g w.heap.size with hlt | hge
  · exact hlt
  · exfalso
    unfold World.var? at h
    rw [hg] at h
    simp [Array.getElem?_eq_none hge] at h
theorem gPow : Tryd.prog.globalNamed "internal/strconv.uint64pow10" = some 3 := by kernel_rfl
theorem gErr : Tryd.prog.globalNamed "strconv.ErrRange" = some 2 := by kernel_rfl
theorem tab_below {w w' : World} (h : Lib.TabIs Tryd.prog w "internal/strconv.uint64pow10" .u64 Lib.pow10Tab) (hb : Below w.heap.size w w') : Lib.TabIs Tryd.prog w' "internal/strconv.uint64pow10" .u64 Lib.pow10Tab :=
  var?_below hb gPow (var_lt gPow h) h
theorem EnvT.below {w w' : World} (h : EnvT w) (hb : Below w.heap.size w w') : EnvT w' :=
  ⟨tab_below h.tab hb, by obtain ⟨tp, p, hv⟩ := h.err; exact ⟨tp, p, var?_below hb gErr (var_lt gErr hv) hv⟩⟩
theorem parse_env (s : ByteArray) (w : World) (hs : s.size ≤ 100) (h : EnvT w) :
    Calls Tryd.prog 28 #[.string s] w fun e w' => e = .returned (.tuple #[.int .i64 (pv (bs s)), .int .i64 (pe (bs s))]) ∧ Below w.heap.size w w' := by
  obtain ⟨tp, p, hv⟩ := h.err
  exact parse_any s w hs tp p hv

theorem ext_size (s : ByteArray) : (s.extract 0 100).size ≤ 100 := by simp; omega

end Go.Proofs.YtmlfooofgedmaaaDoor.Fl
