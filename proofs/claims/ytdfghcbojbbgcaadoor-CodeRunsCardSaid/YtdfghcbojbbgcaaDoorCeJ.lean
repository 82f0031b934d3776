/-
  The document's Text of any bytes.
-/
import Derived.Test.YtdfghcbojbbgcaaDoorCeI
namespace Go.Proofs.YtdfghcbojbbgcaaDoor.Fl
open Go.RowKit

theorem bsz (l : List UInt8) : (⟨l.toArray⟩ : ByteArray).size = l.length := by show l.toArray.size = _; simp
theorem bdl (S : ByteArray) : S.size = S.data.toList.length := by show S.data.size = _; simp
/-- a line's words are these, one behind the other -/
theorem line_words {k : Nat} {nmx : List UInt8} {sa : Nat} {la : Int} {sb : Nat} {lb t u : Int} (hr : formsL[k]? = some (nmx, (sa : Int), la, (sb : Int), lb, t, u)) (q : Nat) (a b : Int) :
    lineR q ((k : Int), a, b) = Lib.itoa (q : Int) ++ [32] ++ nmx ++ (if 0 < sa then [32] ++ Lib.itoa a else []) ++ (if 0 < sb then [32] ++ Lib.itoa b else []) ++ [10] := by
  unfold lineR wordsR
  simp only [Int.toNat_natCast, hr]
  by_cases h1 : 0 < sa
  · by_cases h2 : 0 < sb
    · simp [h1, h2, Lib.join_cons, Lib.joinTail]
    · obtain rfl : sb = 0 := by omega
      simp [h1, Lib.join_cons, Lib.joinTail]
  · obtain rfl : sa = 0 := by omega
    by_cases h2 : 0 < sb
    · simp [h2, Lib.join_cons, Lib.joinTail]
    · obtain rfl : sb = 0 := by omega
      simp [Lib.join_cons, Lib.joinTail]
end Go.Proofs.YtdfghcbojbbgcaaDoor.Fl

