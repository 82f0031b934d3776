/-
  A region that draws its order, whose operations only read and whose calls read or make memory of their own: walked once, in the order of the text. The class of worlds: what was there is as it was.
-/
import Derived.WalkKit
import Derived.Below
import Derived.Deep.QuietTactic
import Derived.BigQuiet
import Derived.Lib.Hide
namespace Go.Proofs.YthklbpcpmmpfmaaDoor.Fl
open Go.RowKit

structure Grow (wr : World) where
  w : World
  below : Below wr.heap.size wr w
instance Grow.there (wr : World) : Nonempty (Grow wr) := ⟨⟨wr, Below.refl _ _⟩⟩
theorem Grow.cell {wr : World} (x : Grow wr) (b o : Nat) (h : b < wr.heap.size) : x.w.cell? ⟨b, o, none⟩ = wr.cell? ⟨b, o, none⟩ := x.below.cell (p := ⟨b, o, none⟩) h
theorem Grow.size {wr : World} (x : Grow wr) : wr.heap.size ≤ x.w.heap.size := x.below.size
theorem wp_region_grow {P : Program} {id : Nat} {Q : Exit → Act → World → Prop} {a : Act} {wr : World} {l : List Oper} (hm : P.follows .mixedOrders = true) (hB : Region.lexB .any l.toArray = true)
    (h : wpQuiet P l.toArray (fun w' => ∃ x : Grow wr, w' = x.w) (fun a' => ∀ w', (∃ x : Grow wr, w' = x.w) → Q .normal a' w') l a) : (Code.region id l.toArray true).wp P Q a wr :=
  wp_region_quiet (C := fun w' => ∃ x : Grow wr, w' = x.w) hm hB ⟨⟨wr.drew, (Below.refl _ _).drew⟩, rfl⟩ (by simpa using h)
/-- a call whose contract says that what was there is as it was -/
theorem Grow.call {P : Program} {f : FuncId} {args : Array Value} {wr : World} (x : Grow wr) {v : Value}
    (h : Calls P f args x.w fun e w' => e = .returned v ∧ Below x.w.heap.size x.w w') : Calls P f args x.w fun e w'' => e = .returned v ∧ ∃ y : Grow wr, w'' = y.w :=
  h.mono fun _ w' ⟨he, hb⟩ => ⟨he, ⟨⟨w', x.below.trans (hb.mono x.size)⟩, rfl⟩⟩
theorem Grow.same {P : Program} {f : FuncId} {args : Array Value} {wr : World} (x : Grow wr) {v : Value}
    (h : Calls P f args x.w fun e w' => e = .returned v ∧ x.w = w') : Calls P f args x.w fun e w'' => e = .returned v ∧ ∃ y : Grow wr, w'' = y.w :=
  h.mono fun _ _ ⟨he, hb⟩ => ⟨he, x, hb.symm⟩
end Go.Proofs.YthklbpcpmmpfmaaDoor.Fl
