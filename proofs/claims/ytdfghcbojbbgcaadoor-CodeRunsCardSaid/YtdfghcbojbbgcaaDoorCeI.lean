/-
  The document's numbers as text.
-/
import Derived.Test.YtdfghcbojbbgcaaDoorCeH
import Derived.Laws.BytesArg
namespace Go.Proofs.YtdfghcbojbbgcaaDoor.Fl
open Go.RowKit

theorem ret_u64C {a b : Int} (h : a = b) : Ending.returned (.int .u64 a) = .returned (.int .u64 b) := by rw [h]
theorem one_byteC (w : World) (u : Nat) (_hu : u < 10) (z : Int) (hz : z = 48 + (u : Int)) :
    (convert 22 9 (.slice (some ⟨w.heap.size, 0, none⟩) 1 1)).run Tryd.prog (w.alloc (.cells #[.int .u8 z] 5)) = .ok (.string ⟨#[UInt8.ofNat (48 + u)]⟩) (w.alloc (.cells #[.int .u8 z] 5)) := by
  have h := run_convert_bytes_arg (P := Tryd.prog) (w.alloc (.cells #[.int .u8 z] 5)) 22 5 Tryd.underlying22 Tryd.underlying5 w.heap.size 0 1 1 [z] rfl
    (fun i hi => by obtain rfl : i = 0 := by omega
                    exact cell_of_row _ _ _ _ _ _ (heap_alloc_new w _)) 9 Tryd.underlying9
  rw [h]
  subst hz
  rfl
theorem app_oneC (a : UInt8) (l : List UInt8) : (⟨#[a]⟩ ++ ⟨l.toArray⟩ : ByteArray) = ⟨(a :: l).toArray⟩ := by
  apply ByteArray.ext; simp [ByteArray.data_append]
theorem str_oneC {a b : UInt8} {l : List UInt8} (h : a = b) : Value.string (⟨#[a]⟩ ++ ⟨l.toArray⟩) = .string ⟨(b :: l).toArray⟩ := by rw [h, app_oneC]
theorem chrC (u : Nat) : 48 + UInt8.ofNat u = UInt8.ofNat (48 + u) := by simp
theorem dec_bigC {u : Nat} (h : 10 ≤ u) : Lib.decDigits u = Lib.decDigits (u / 10) ++ [UInt8.ofNat (48 + u % 10)] := by rw [Lib.decDigits, dif_neg (by omega)]
theorem dec_smallC {u : Nat} (h : u < 10) : Lib.decDigits u = [UInt8.ofNat (48 + u)] := by rw [Lib.decDigits, dif_pos h]
end Go.Proofs.YtdfghcbojbbgcaaDoor.Fl

