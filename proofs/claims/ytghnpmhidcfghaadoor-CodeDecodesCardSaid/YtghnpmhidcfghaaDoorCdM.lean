/-
  Instructions: the law's own, Equal.
-/
import Derived.Test.YtghnpmhidcfghaaDoorCdL
import Derived.Lib.SlicesS
namespace Go.Proofs.YtghnpmhidcfghaaDoor.Fl
open Go.RowKit

theorem own_result {W : World} {C : Nat} {v0 v1 v2 : Value} {a : Array Value} (h : W.heap[C]? = some (.cells #[v0, v1, v2] 27 (0, 0))) (h4 : a[2]?.getD undef = .pointer (some ⟨C, 0, none⟩)) :
    (results Tryd.f7 a).run Tryd.prog W = .ok (.agg #[v0, v1, v2]) W := by
  obtain ⟨c0, c1, c2, _⟩ := three_cellsC h
  simp [results, Tryd.results7, go_sem, h4, c0, c1, c2]
set_option maxHeartbeats 1000000 in
theorem own_any (x y z : Int) (w : World) :
    Calls Tryd.prog 7 #[insV (x, y, z)] w fun e w' => e = .returned (insV (x, y, z)) ∧ Below w.heap.size w w' := by
  show Calls Tryd.prog 7 #[.agg #[.int .i64 x, .int .i64 y, .int .i64 z]] w fun e w' => e = .returned (.agg #[.int .i64 x, .int .i64 y, .int .i64 z]) ∧ Below w.heap.size w w'
  have hw1 := heap_alloc_new w (.cells #[.int .i64 x, .int .i64 y, .int .i64 z] 26)
  have l1 : w.heap.size < (w.alloc (.cells #[.int .i64 x, .int .i64 y, .int .i64 z] 26)).heap.size := lt_of_blkC hw1
  have hb1 : Below w.heap.size w (w.alloc (.cells #[.int .i64 x, .int .i64 y, .int .i64 z] 26)) := (Below.refl _ _).alloc (Nat.le_refl _) _
  have hw2 : ((w.alloc (.cells #[.int .i64 x, .int .i64 y, .int .i64 z] 26)).alloc (.cells #[.int .i64 0, .int .i64 0, .int .i64 0] 27)).heap[w.heap.size]? = _ := (Below.heap_alloc _ _ _ l1).trans hw1
  have f2 := three_cellsC hw2
  have hw3 := heap_alloc_new (w.alloc (.cells #[.int .i64 x, .int .i64 y, .int .i64 z] 26)) (.cells #[.int .i64 0, .int .i64 0, .int .i64 0] 27)
  rw [World.size_alloc] at hw3
  have f3 := three_cellsC hw3
  have l3 := lt_of_blkC hw3
  have HB := Lib.hid hb1
  clear hb1 hw1 hw2
  go_enter Tryd.func7, Tryd.ntmps7
  go_wp2_with fail
  have hw4 := heap_alloc_new (w.alloc (.cells #[.int .i64 x, .int .i64 y, .int .i64 z] 26)) (.cells #[.int .i64 x, .int .i64 y, .int .i64 z] 27)
  rw [World.size_alloc] at hw4
  exact bodyPost_ret (own_result hw4 rfl) rfl ⟨rfl, HB.out.alloc (Nat.le_of_lt l1) _⟩
theorem nums_getDC (xs : List UInt8) (i : Nat) (h : i < xs.length) : (xs.map fun c => (c.toNat : Int)).getD i 0 = (xs[i].toNat : Int) := by
  rw [List.getD_eq_getElem?_getD, List.getElem?_map, List.getElem?_eq_getElem h]; rfl
theorem conv_strC {w : World} {B : Nat} {A : Option Addr} {xs : List UInt8} (c : Nat) (hr : Rd w B A (cb xs)) : (convert 29 9 (.slice A xs.length c)).run Tryd.prog w = .ok (.string (strOfNums (xs.map fun c => (c.toNat : Int)))) w := by
  rcases Nat.eq_zero_or_pos xs.length with h | h
  · obtain rfl := List.eq_nil_of_length_eq_zero h
    have h0 := run_convert_bytes_string (P := Tryd.prog) w 29 9 5 A 0 c Tryd.underlying29 Tryd.underlying5 Tryd.underlying9
    rw [show ([] : List UInt8).length = 0 from rfl, h0]
    cases A <;> simp [Conv.bytesToString, loadCells] <;> rfl
  · obtain ⟨b, off, rfl, _, _⟩ := cbC_at hr h
    refine run_convert_bytes_arg w 29 5 Tryd.underlying29 Tryd.underlying5 b off xs.length c _ (by simp) (fun i hi => ?_) 9 Tryd.underlying9
    obtain ⟨b', off', e, _, hc⟩ := cbC_at hr hi
    obtain ⟨rfl, rfl⟩ : b = b' ∧ off = off' := by injection e with e; injection e with h1 h2 _; exact ⟨h1, h2⟩
    rw [nums_getDC _ _ hi]; exact hc
/-- the bytes are the same -/
theorem equalC (xs : List UInt8) (c c2 B B2 : Nat) (A A2 : Option Addr) (w : World) (hr : Rd w B A (cb xs)) (hr2 : Rd w B2 A2 (cb xs)) :
    Calls Tryd.prog 10 #[.slice A xs.length c, .slice A2 xs.length c2] w fun e w' => e = .returned (.bool true) ∧ w = w' := by
  have h1 := conv_strC c hr
  have h2 := conv_strC c2 hr2
  generalize strOfNums (xs.map fun c => (c.toNat : Int)) = s at h1 h2
  go_enter Tryd.func10, Tryd.ntmps10
  go_wp2_with fail
  go_ret
  exact ⟨rfl, rfl⟩
end Go.Proofs.YtghnpmhidcfghaaDoor.Fl
