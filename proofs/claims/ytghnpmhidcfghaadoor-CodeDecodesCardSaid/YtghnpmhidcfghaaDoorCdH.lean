/-
  Instructions: the document's names.
-/
import Derived.Test.YtghnpmhidcfghaaDoorCdG
namespace Go.Proofs.YtghnpmhidcfghaaDoor.Fl
open Go.RowKit

/-- how many bytes A has: below 0, with a sign -/
def refA (a la : Int) : Int := if la < 0 then -a else a
set_option maxRecDepth 100000 in
set_option maxHeartbeats 4000000 in
theorem rname_row {k : Nat} (hk : k < 20) {nmx : List UInt8} {a la b lb t u : Int} (hr : formsL[k]? = some (nmx, a, la, b, lb, t, u)) (w : World) :
    Calls Tryd.prog 19 #[.int .i64 (k : Int)] w fun e w' => e = .returned (.tuple #[.string ⟨nmx.toArray⟩, .int .i64 (refA a la), .int .i64 b]) ∧ w = w' := by
  obtain rfl | rfl | rfl | rfl | rfl | rfl | rfl | rfl | rfl | rfl | rfl | rfl | rfl | rfl | rfl | rfl | rfl | rfl | rfl | rfl : k = 0 ∨ k = 1 ∨ k = 2 ∨ k = 3 ∨ k = 4 ∨ k = 5 ∨ k = 6 ∨ k = 7 ∨ k = 8 ∨ k = 9 ∨ k = 10 ∨ k = 11 ∨ k = 12 ∨ k = 13 ∨ k = 14 ∨ k = 15 ∨ k = 16 ∨ k = 17 ∨ k = 18 ∨ k = 19 := by omega
  all_goals
    injection hr with hr
    injection hr with h1 h2
    injection h2 with h2 h3
    injection h3 with h3 h4
    injection h4 with h4 h5
    subst h1 h2 h3 h4
    clear h5 hk
    go_enter Tryd.func19, Tryd.ntmps19
    go_wp2_with fail
    go_ret3
    exact ⟨rfl, rfl⟩
set_option maxRecDepth 100000 in
set_option maxHeartbeats 4000000 in
theorem rname_none {op : Int} (h : ¬ (0 ≤ op ∧ op < 20)) (w : World) :
    Calls Tryd.prog 19 #[.int .i64 op] w fun e w' => e = .returned (.tuple #[.string ⟨#[]⟩, .int .i64 0, .int .i64 0]) ∧ w = w' := by
  have hb : ∀ n : Int, 0 ≤ n ∧ n < 20 → (op == n) = false := fun n hn => by
    apply beq_eq_false_iff_ne.mpr
    intro e
    exact h (by omega)
  have h0 := hb 0 (by omega)
  have h1 := hb 1 (by omega)
  have h2 := hb 2 (by omega)
  have h3 := hb 3 (by omega)
  have h4 := hb 4 (by omega)
  have h5 := hb 5 (by omega)
  have h6 := hb 6 (by omega)
  have h7 := hb 7 (by omega)
  have h8 := hb 8 (by omega)
  have h9 := hb 9 (by omega)
  have h10 := hb 10 (by omega)
  have h11 := hb 11 (by omega)
  have h12 := hb 12 (by omega)
  have h13 := hb 13 (by omega)
  have h14 := hb 14 (by omega)
  have h15 := hb 15 (by omega)
  have h16 := hb 16 (by omega)
  have h17 := hb 17 (by omega)
  have h18 := hb 18 (by omega)
  have h19 := hb 19 (by omega)
  clear hb h
  go_enter Tryd.func19, Tryd.ntmps19
  go_wp2_with fail
  go_ret3
  exact ⟨rfl, rfl⟩
end Go.Proofs.YtghnpmhidcfghaaDoor.Fl
