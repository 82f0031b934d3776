/-
  Contracts of package small at the words of numbers.
-/
import Derived.Test.YtmlfooofgedmaaaDoorRefD
import Derived.Test.YtmlfooofgedmaaaDoorSmallC
import Derived.OpenShut
namespace Go.Proofs.YtmlfooofgedmaaaDoor.Fl
open Go.RowKit

theorem value_wd (n : Int) (w : World) (h : InR n) :
    Calls Tryd.prog 36 #[.int .u64 (wd n)] w fun e w' => e = .returned (.tuple #[.int .i64 n, .int .i64 0]) ∧ w = w' := by
  have := value_yes (wd n) w (wd_isW n) (wd_odd n)
  rw [val_wd h] at this
  exact this
theorem is_wd (n : Int) (w : World) :
    Calls Tryd.prog 57 #[.int .u64 (wd n)] w fun e w' => e = .returned (.bool true) ∧ w = w' := is_yes _ _ (wd_isW n) (wd_odd n)
theorem wd_inj {m n : Int} (hm : InR m) (hn : InR n) (h : wd m = wd n) : m = n := by have := congrArg val h; rwa [val_wd hm, val_wd hn] at this
theorem wd_ne {m n : Int} (hm : InR m) (hn : InR n) (h : m ≠ n) : wd m ≠ wd n := fun e => h (wd_inj hm hn e)
theorem add_wd (m n : Int) (w : World) (hm : InR m) (hn : InR n) :
    Calls Tryd.prog 31 #[.int .u64 (wd m), .int .u64 (wd n)] w fun e w' => e = .returned (.tuple #[.int .u64 (resW (m + n)), .int .i64 (resE (m + n))]) ∧ Below w.heap.size w w' := by
  have := add_any (wd m) (wd n) w (wd_isW m) (wd_isW n) (wd_odd m) (wd_odd n)
  rw [val_wd hm, val_wd hn] at this
  exact this
theorem add_in (m n : Int) (w : World) (hm : InR m) (hn : InR n) (h : InR (m + n)) :
    Calls Tryd.prog 31 #[.int .u64 (wd m), .int .u64 (wd n)] w fun e w' => e = .returned (.tuple #[.int .u64 (wd (m + n)), .int .i64 0]) ∧ Below w.heap.size w w' := by
  have := add_wd m n w hm hn
  rw [resW_in h, resE_in h] at this
  exact this
theorem add_out (m n : Int) (w : World) (hm : InR m) (hn : InR n) (h : ¬ InR (m + n)) :
    Calls Tryd.prog 31 #[.int .u64 (wd m), .int .u64 (wd n)] w fun e w' => e = .returned (.tuple #[.int .u64 0, .int .i64 9]) ∧ Below w.heap.size w w' := by
  have := add_wd m n w hm hn
  rw [resW_out h, resE_out h] at this
  exact this
end Go.Proofs.YtmlfooofgedmaaaDoor.Fl
