/-
  What the frames of the second layer share: the table that the rows list, as the walks read it.
-/
import Derived.Test.YtahmljjjdoaahaaDoorBaseQ
import Derived.Test.YtahmljjjdoaahaaDoorPBits
namespace Go.Proofs.YtahmljjjdoaahaaDoor.Fr
open Go.ChangeShapes Go.WideShapes Go.ChangeAt Go.RowKit

def bru : List Int := Lib.deBruijn64tab.map fun x : Nat => (x : Int)
theorem gBru : Tryd.prog.globalNamed "math/bits.deBruijn64tab" = some 0 := by kernel_rfl
theorem gBruType : (Tryd.prog.globals[0]?).map (·.type) = some 140 := by kernel_rfl
theorem cellsBru : Tryd.prog.cellsOf 140 = 64 := by kernel_rfl
theorem cellsU8 : Tryd.prog.cellsOf 5 = 1 := by kernel_rfl
theorem bruData : (Rows.laid_math_bits_deBruijn64tab : DataW Unit) = Lib.tabData .u8 bru := by kernel_rfl
theorem bru_of_laid {W : World} {rest : List (String × DataW Unit)} (h : laidMet Tryd.prog (("math/bits.deBruijn64tab", Rows.laid_math_bits_deBruijn64tab) :: rest) W) : Fl.EnvB W := by
  rw [bruData] at h
  have ht := Lib.tabIs_of_head gBru gBruType Tryd.underlying140 Tryd.underlying5 cellsU8 cellsBru h
  intro j hj
  have := ht.cell gBru j (by show j < 64; exact hj)
  rw [this, show bru.getD j 0 = ((Lib.deBruijn64tab.getD j 0 : Nat) : Int) from by
    unfold bru
    rw [List.getD_eq_getElem?_getD, List.getElem?_map, List.getD_eq_getElem?_getD]
    cases Lib.deBruijn64tab[j]? <;> rfl]
theorem laid_pack {W : World} (h : laidMetH Tryd.prog Rows.gcHashesRow.laid W) : Fl.EnvB W := by
  rw [MakeChecks.laidMetH_plain _ _ _ (by kernel_rfl)] at h
  exact bru_of_laid h
theorem door_pack (os : Os) (args : Array Value) : laidMetH Tryd.prog Rows.gcHashesRow.laid ((World.doorLaid Tryd.prog 14 os).forCall (fun _ _ => 0) ⟨#[], args, []⟩).memory :=
  laidMetH_of_parts3 (fuel := 8) (laidMet_of_run' 8 (by kernel_rfl) (by kernel_rfl)) (by kernel_rfl) (by kernel_rfl)
end Go.Proofs.YtahmljjjdoaahaaDoor.Fr
