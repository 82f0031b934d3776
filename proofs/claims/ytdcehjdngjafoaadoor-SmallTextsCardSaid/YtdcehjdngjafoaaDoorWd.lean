/-
  Contracts of package small at the words of numbers.
-/
import Derived.Test.YtdcehjdngjafoaaDoorRefD
import Derived.Test.YtdcehjdngjafoaaDoorSmallC
import Derived.OpenShut
namespace Go.Proofs.YtdcehjdngjafoaaDoor.Fl
open Go.RowKit

theorem value_wd (n : Int) (w : World) (h : InR n) :
    Calls Tryd.prog 19 #[.int .u64 (wd n)] w fun e w' => e = .returned (.tuple #[.int .i64 n, .int .i64 0]) ∧ w = w' := by
  have := value_yes (wd n) w (wd_isW n) (wd_odd n)
  rw [val_wd h] at this
  exact this
theorem is_wd (n : Int) (w : World) :
    Calls Tryd.prog 21 #[.int .u64 (wd n)] w fun e w' => e = .returned (.bool true) ∧ w = w' := is_yes _ _ (wd_isW n) (wd_odd n)
theorem wd_inj {m n : Int} (hm : InR m) (hn : InR n) (h : wd m = wd n) : m = n := by have := congrArg val h; rwa [val_wd hm, val_wd hn] at this
theorem wd_ne {m n : Int} (hm : InR m) (hn : InR n) (h : m ≠ n) : wd m ≠ wd n := fun e => h (wd_inj hm hn e)
theorem less_wd (m n : Int) (w : World) (hm : InR m) (hn : InR n) :
    Calls Tryd.prog 25 #[.int .u64 (wd m), .int .u64 (wd n)] w fun e w' => e = .returned (.tuple #[.bool (decide (m < n)), .int .i64 0]) ∧ w = w' := by
  have := less_any (wd m) (wd n) w (wd_isW m) (wd_isW n) (wd_odd m) (wd_odd n)
  rw [val_wd hm, val_wd hn] at this
  exact this
theorem add_wd (m n : Int) (w : World) (hm : InR m) (hn : InR n) :
    Calls Tryd.prog 39 #[.int .u64 (wd m), .int .u64 (wd n)] w fun e w' => e = .returned (.tuple #[.int .u64 (resW (m + n)), .int .i64 (resE (m + n))]) ∧ Below w.heap.size w w' := by
  have := add_any (wd m) (wd n) w (wd_isW m) (wd_isW n) (wd_odd m) (wd_odd n)
  rw [val_wd hm, val_wd hn] at this
  exact this
theorem add_in (m n : Int) (w : World) (hm : InR m) (hn : InR n) (h : InR (m + n)) :
    Calls Tryd.prog 39 #[.int .u64 (wd m), .int .u64 (wd n)] w fun e w' => e = .returned (.tuple #[.int .u64 (wd (m + n)), .int .i64 0]) ∧ Below w.heap.size w w' := by
  have := add_wd m n w hm hn
  rw [resW_in h, resE_in h] at this
  exact this
theorem add_out (m n : Int) (w : World) (hm : InR m) (hn : InR n) (h : ¬ InR (m + n)) :
    Calls Tryd.prog 39 #[.int .u64 (wd m), .int .u64 (wd n)] w fun e w' => e = .returned (.tuple #[.int .u64 0, .int .i64 9]) ∧ Below w.heap.size w w' := by
  have := add_wd m n w hm hn
  rw [resW_out h, resE_out h] at this
  exact this
theorem sub_wd (m n : Int) (w : World) (hm : InR m) (hn : InR n) :
    Calls Tryd.prog 35 #[.int .u64 (wd m), .int .u64 (wd n)] w fun e w' => e = .returned (.tuple #[.int .u64 (resW (m - n)), .int .i64 (resE (m - n))]) ∧ Below w.heap.size w w' := by
  have := sub_any (wd m) (wd n) w (wd_isW m) (wd_isW n) (wd_odd m) (wd_odd n)
  rw [val_wd hm, val_wd hn] at this
  exact this
theorem sub_in (m n : Int) (w : World) (hm : InR m) (hn : InR n) (h : InR (m - n)) :
    Calls Tryd.prog 35 #[.int .u64 (wd m), .int .u64 (wd n)] w fun e w' => e = .returned (.tuple #[.int .u64 (wd (m - n)), .int .i64 0]) ∧ Below w.heap.size w w' := by
  have := sub_wd m n w hm hn
  rw [resW_in h, resE_in h] at this
  exact this
theorem sub_out (m n : Int) (w : World) (hm : InR m) (hn : InR n) (h : ¬ InR (m - n)) :
    Calls Tryd.prog 35 #[.int .u64 (wd m), .int .u64 (wd n)] w fun e w' => e = .returned (.tuple #[.int .u64 0, .int .i64 9]) ∧ Below w.heap.size w w' := by
  have := sub_wd m n w hm hn
  rw [resW_out h, resE_out h] at this
  exact this
theorem mul_wd (m n : Int) (w : World) (hm : InR m) (hn : InR n) :
    Calls Tryd.prog 74 #[.int .u64 (wd m), .int .u64 (wd n)] w fun e w' => e = .returned (.tuple #[.int .u64 (resW (m * n)), .int .i64 (resE (m * n))]) ∧ Below w.heap.size w w' := by
  have := mul_any (wd m) (wd n) w (wd_isW m) (wd_isW n) (wd_odd m) (wd_odd n)
  rw [val_wd hm, val_wd hn] at this
  exact this
theorem mul_in (m n : Int) (w : World) (hm : InR m) (hn : InR n) (h : InR (m * n)) :
    Calls Tryd.prog 74 #[.int .u64 (wd m), .int .u64 (wd n)] w fun e w' => e = .returned (.tuple #[.int .u64 (wd (m * n)), .int .i64 0]) ∧ Below w.heap.size w w' := by
  have := mul_wd m n w hm hn
  rw [resW_in h, resE_in h] at this
  exact this
theorem mul_out (m n : Int) (w : World) (hm : InR m) (hn : InR n) (h : ¬ InR (m * n)) :
    Calls Tryd.prog 74 #[.int .u64 (wd m), .int .u64 (wd n)] w fun e w' => e = .returned (.tuple #[.int .u64 0, .int .i64 9]) ∧ Below w.heap.size w w' := by
  have := mul_wd m n w hm hn
  rw [resW_out h, resE_out h] at this
  exact this
theorem floor_wd (m n : Int) (w : World) (hm : InR m) (hn : InR n) (h0 : n ≠ 0) :
    Calls Tryd.prog 27 #[.int .u64 (wd m), .int .u64 (wd n)] w fun e w' => e = .returned (.tuple #[.int .u64 (resW (flo m n)), .int .i64 (resE (flo m n))]) ∧ Below w.heap.size w w' := by
  have := floor_any (wd m) (wd n) w (wd_isW m) (wd_isW n) (wd_odd m) (wd_odd n) (by rw [val_wd hn]; exact h0)
  rw [val_wd hm, val_wd hn] at this
  exact this
theorem floor_in (m n : Int) (w : World) (hm : InR m) (hn : InR n) (h0 : n ≠ 0) (h : InR (flo m n)) :
    Calls Tryd.prog 27 #[.int .u64 (wd m), .int .u64 (wd n)] w fun e w' => e = .returned (.tuple #[.int .u64 (wd (flo m n)), .int .i64 0]) ∧ Below w.heap.size w w' := by
  have := floor_wd m n w hm hn h0
  rw [resW_in h, resE_in h] at this
  exact this
theorem floor_out (m n : Int) (w : World) (hm : InR m) (hn : InR n) (h0 : n ≠ 0) (h : ¬ InR (flo m n)) :
    Calls Tryd.prog 27 #[.int .u64 (wd m), .int .u64 (wd n)] w fun e w' => e = .returned (.tuple #[.int .u64 0, .int .i64 9]) ∧ Below w.heap.size w w' := by
  have := floor_wd m n w hm hn h0
  rw [resW_out h, resE_out h] at this
  exact this
theorem floor_wd0 (m : Int) (w : World) :
    Calls Tryd.prog 27 #[.int .u64 (wd m), .int .u64 (wd 0)] w fun e w' => e = .returned (.tuple #[.int .u64 0, .int .i64 1]) ∧ Below w.heap.size w w' :=
  floor_zero (wd m) (wd 0) w (wd_isW m) (wd_isW 0) (wd_odd m) (wd_odd 0) (val_wd (by unfold InR; omega))
theorem mod_wd (m n : Int) (w : World) (hm : InR m) (hn : InR n) (h0 : n ≠ 0) :
    Calls Tryd.prog 28 #[.int .u64 (wd m), .int .u64 (wd n)] w fun e w' => e = .returned (.tuple #[.int .u64 (resW (rest m n)), .int .i64 (resE (rest m n))]) ∧ Below w.heap.size w w' := by
  have := mod_any (wd m) (wd n) w (wd_isW m) (wd_isW n) (wd_odd m) (wd_odd n) (by rw [val_wd hn]; exact h0)
  rw [val_wd hm, val_wd hn] at this
  exact this
theorem mod_in (m n : Int) (w : World) (hm : InR m) (hn : InR n) (h0 : n ≠ 0) (h : InR (rest m n)) :
    Calls Tryd.prog 28 #[.int .u64 (wd m), .int .u64 (wd n)] w fun e w' => e = .returned (.tuple #[.int .u64 (wd (rest m n)), .int .i64 0]) ∧ Below w.heap.size w w' := by
  have := mod_wd m n w hm hn h0
  rw [resW_in h, resE_in h] at this
  exact this
theorem mod_out (m n : Int) (w : World) (hm : InR m) (hn : InR n) (h0 : n ≠ 0) (h : ¬ InR (rest m n)) :
    Calls Tryd.prog 28 #[.int .u64 (wd m), .int .u64 (wd n)] w fun e w' => e = .returned (.tuple #[.int .u64 0, .int .i64 9]) ∧ Below w.heap.size w w' := by
  have := mod_wd m n w hm hn h0
  rw [resW_out h, resE_out h] at this
  exact this
theorem mod_wd0 (m : Int) (w : World) :
    Calls Tryd.prog 28 #[.int .u64 (wd m), .int .u64 (wd 0)] w fun e w' => e = .returned (.tuple #[.int .u64 0, .int .i64 1]) ∧ Below w.heap.size w w' :=
  mod_zero (wd m) (wd 0) w (wd_isW m) (wd_isW 0) (wd_odd m) (wd_odd 0) (val_wd (by unfold InR; omega))
theorem quo_wd (m n : Int) (w : World) (hm : InR m) (hn : InR n) (h0 : n ≠ 0) :
    Calls Tryd.prog 29 #[.int .u64 (wd m), .int .u64 (wd n)] w fun e w' => e = .returned (.tuple #[.int .u64 (resW (m.tdiv n)), .int .i64 (resE (m.tdiv n))]) ∧ Below w.heap.size w w' := by
  have := quo_any (wd m) (wd n) w (wd_isW m) (wd_isW n) (wd_odd m) (wd_odd n) (by rw [val_wd hn]; exact h0)
  rw [val_wd hm, val_wd hn] at this
  exact this
theorem quo_in (m n : Int) (w : World) (hm : InR m) (hn : InR n) (h0 : n ≠ 0) (h : InR (m.tdiv n)) :
    Calls Tryd.prog 29 #[.int .u64 (wd m), .int .u64 (wd n)] w fun e w' => e = .returned (.tuple #[.int .u64 (wd (m.tdiv n)), .int .i64 0]) ∧ Below w.heap.size w w' := by
  have := quo_wd m n w hm hn h0
  rw [resW_in h, resE_in h] at this
  exact this
theorem quo_out (m n : Int) (w : World) (hm : InR m) (hn : InR n) (h0 : n ≠ 0) (h : ¬ InR (m.tdiv n)) :
    Calls Tryd.prog 29 #[.int .u64 (wd m), .int .u64 (wd n)] w fun e w' => e = .returned (.tuple #[.int .u64 0, .int .i64 9]) ∧ Below w.heap.size w w' := by
  have := quo_wd m n w hm hn h0
  rw [resW_out h, resE_out h] at this
  exact this
theorem quo_wd0 (m : Int) (w : World) :
    Calls Tryd.prog 29 #[.int .u64 (wd m), .int .u64 (wd 0)] w fun e w' => e = .returned (.tuple #[.int .u64 0, .int .i64 1]) ∧ Below w.heap.size w w' :=
  quo_zero (wd m) (wd 0) w (wd_isW m) (wd_isW 0) (wd_odd m) (wd_odd 0) (val_wd (by unfold InR; omega))
theorem rem_wd (m n : Int) (w : World) (hm : InR m) (hn : InR n) (h0 : n ≠ 0) :
    Calls Tryd.prog 30 #[.int .u64 (wd m), .int .u64 (wd n)] w fun e w' => e = .returned (.tuple #[.int .u64 (resW (m.tmod n)), .int .i64 (resE (m.tmod n))]) ∧ Below w.heap.size w w' := by
  have := rem_any (wd m) (wd n) w (wd_isW m) (wd_isW n) (wd_odd m) (wd_odd n) (by rw [val_wd hn]; exact h0)
  rw [val_wd hm, val_wd hn] at this
  exact this
theorem rem_in (m n : Int) (w : World) (hm : InR m) (hn : InR n) (h0 : n ≠ 0) (h : InR (m.tmod n)) :
    Calls Tryd.prog 30 #[.int .u64 (wd m), .int .u64 (wd n)] w fun e w' => e = .returned (.tuple #[.int .u64 (wd (m.tmod n)), .int .i64 0]) ∧ Below w.heap.size w w' := by
  have := rem_wd m n w hm hn h0
  rw [resW_in h, resE_in h] at this
  exact this
theorem rem_out (m n : Int) (w : World) (hm : InR m) (hn : InR n) (h0 : n ≠ 0) (h : ¬ InR (m.tmod n)) :
    Calls Tryd.prog 30 #[.int .u64 (wd m), .int .u64 (wd n)] w fun e w' => e = .returned (.tuple #[.int .u64 0, .int .i64 9]) ∧ Below w.heap.size w w' := by
  have := rem_wd m n w hm hn h0
  rw [resW_out h, resE_out h] at this
  exact this
theorem rem_wd0 (m : Int) (w : World) :
    Calls Tryd.prog 30 #[.int .u64 (wd m), .int .u64 (wd 0)] w fun e w' => e = .returned (.tuple #[.int .u64 0, .int .i64 1]) ∧ Below w.heap.size w w' :=
  rem_zero (wd m) (wd 0) w (wd_isW m) (wd_isW 0) (wd_odd m) (wd_odd 0) (val_wd (by unfold InR; omega))
theorem and_wd (m n : Int) (w : World) (hm : InR m) (hn : InR n) :
    Calls Tryd.prog 36 #[.int .u64 (wd m), .int .u64 (wd n)] w fun e w' => e = .returned (.tuple #[.int .u64 (resW (bits .and .i64 m n)), .int .i64 (resE (bits .and .i64 m n))]) ∧ Below w.heap.size w w' := by
  have := and_any (wd m) (wd n) w (wd_isW m) (wd_isW n) (wd_odd m) (wd_odd n)
  rw [val_wd hm, val_wd hn] at this
  exact this
theorem and_in (m n : Int) (w : World) (hm : InR m) (hn : InR n) (h : InR (bits .and .i64 m n)) :
    Calls Tryd.prog 36 #[.int .u64 (wd m), .int .u64 (wd n)] w fun e w' => e = .returned (.tuple #[.int .u64 (wd (bits .and .i64 m n)), .int .i64 0]) ∧ Below w.heap.size w w' := by
  have := and_wd m n w hm hn
  rw [resW_in h, resE_in h] at this
  exact this
theorem and_out (m n : Int) (w : World) (hm : InR m) (hn : InR n) (h : ¬ InR (bits .and .i64 m n)) :
    Calls Tryd.prog 36 #[.int .u64 (wd m), .int .u64 (wd n)] w fun e w' => e = .returned (.tuple #[.int .u64 0, .int .i64 9]) ∧ Below w.heap.size w w' := by
  have := and_wd m n w hm hn
  rw [resW_out h, resE_out h] at this
  exact this
theorem or_wd (m n : Int) (w : World) (hm : InR m) (hn : InR n) :
    Calls Tryd.prog 37 #[.int .u64 (wd m), .int .u64 (wd n)] w fun e w' => e = .returned (.tuple #[.int .u64 (resW (bits .or .i64 m n)), .int .i64 (resE (bits .or .i64 m n))]) ∧ Below w.heap.size w w' := by
  have := or_any (wd m) (wd n) w (wd_isW m) (wd_isW n) (wd_odd m) (wd_odd n)
  rw [val_wd hm, val_wd hn] at this
  exact this
theorem or_in (m n : Int) (w : World) (hm : InR m) (hn : InR n) (h : InR (bits .or .i64 m n)) :
    Calls Tryd.prog 37 #[.int .u64 (wd m), .int .u64 (wd n)] w fun e w' => e = .returned (.tuple #[.int .u64 (wd (bits .or .i64 m n)), .int .i64 0]) ∧ Below w.heap.size w w' := by
  have := or_wd m n w hm hn
  rw [resW_in h, resE_in h] at this
  exact this
theorem or_out (m n : Int) (w : World) (hm : InR m) (hn : InR n) (h : ¬ InR (bits .or .i64 m n)) :
    Calls Tryd.prog 37 #[.int .u64 (wd m), .int .u64 (wd n)] w fun e w' => e = .returned (.tuple #[.int .u64 0, .int .i64 9]) ∧ Below w.heap.size w w' := by
  have := or_wd m n w hm hn
  rw [resW_out h, resE_out h] at this
  exact this
theorem xor_wd (m n : Int) (w : World) (hm : InR m) (hn : InR n) :
    Calls Tryd.prog 38 #[.int .u64 (wd m), .int .u64 (wd n)] w fun e w' => e = .returned (.tuple #[.int .u64 (resW (bits .xor .i64 m n)), .int .i64 (resE (bits .xor .i64 m n))]) ∧ Below w.heap.size w w' := by
  have := xor_any (wd m) (wd n) w (wd_isW m) (wd_isW n) (wd_odd m) (wd_odd n)
  rw [val_wd hm, val_wd hn] at this
  exact this
theorem xor_in (m n : Int) (w : World) (hm : InR m) (hn : InR n) (h : InR (bits .xor .i64 m n)) :
    Calls Tryd.prog 38 #[.int .u64 (wd m), .int .u64 (wd n)] w fun e w' => e = .returned (.tuple #[.int .u64 (wd (bits .xor .i64 m n)), .int .i64 0]) ∧ Below w.heap.size w w' := by
  have := xor_wd m n w hm hn
  rw [resW_in h, resE_in h] at this
  exact this
theorem xor_out (m n : Int) (w : World) (hm : InR m) (hn : InR n) (h : ¬ InR (bits .xor .i64 m n)) :
    Calls Tryd.prog 38 #[.int .u64 (wd m), .int .u64 (wd n)] w fun e w' => e = .returned (.tuple #[.int .u64 0, .int .i64 9]) ∧ Below w.heap.size w w' := by
  have := xor_wd m n w hm hn
  rw [resW_out h, resE_out h] at this
  exact this
theorem shift_wd (m n : Int) (w : World) (hm : InR m) (hn : InR n) :
    Calls Tryd.prog 40 #[.int .u64 (wd m), .int .u64 (wd n)] w fun e w' => e = .returned (.tuple #[.int .u64 (resW (shR m n)), .int .i64 (resE (shR m n))]) ∧ Below w.heap.size w w' := by
  have := shift_any (wd m) (wd n) w (wd_isW m) (wd_isW n) (wd_odd m) (wd_odd n)
  rw [val_wd hm, val_wd hn] at this
  exact this
theorem shift_in (m n : Int) (w : World) (hm : InR m) (hn : InR n) (h : InR (shR m n)) :
    Calls Tryd.prog 40 #[.int .u64 (wd m), .int .u64 (wd n)] w fun e w' => e = .returned (.tuple #[.int .u64 (wd (shR m n)), .int .i64 0]) ∧ Below w.heap.size w w' := by
  have := shift_wd m n w hm hn
  rw [resW_in h, resE_in h] at this
  exact this
theorem shift_out (m n : Int) (w : World) (hm : InR m) (hn : InR n) (h : ¬ InR (shR m n)) :
    Calls Tryd.prog 40 #[.int .u64 (wd m), .int .u64 (wd n)] w fun e w' => e = .returned (.tuple #[.int .u64 0, .int .i64 9]) ∧ Below w.heap.size w w' := by
  have := shift_wd m n w hm hn
  rw [resW_out h, resE_out h] at this
  exact this
end Go.Proofs.YtdcehjdngjafoaaDoor.Fl
