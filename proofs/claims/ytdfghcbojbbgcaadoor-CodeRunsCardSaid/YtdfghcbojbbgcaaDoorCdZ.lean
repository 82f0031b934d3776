/-
  A line of any instruction: what it says; how many lines.
-/
import Derived.Test.YtdfghcbojbbgcaaDoorCdX
namespace Go.Proofs.YtdfghcbojbbgcaaDoor.Fl
open Go.RowKit

/-- an instruction's words -/
def wordsR (q : Nat) (x : Ins) : List (List UInt8) := match formsL[x.1.toNat]? with
  | some r => [Lib.itoa (q : Int), r.1] ++ (if 0 < r.2.1 then [Lib.itoa x.2.1] else []) ++ (if 0 < r.2.2.2.1 then [Lib.itoa x.2.2] else [])
  | none => []
def lineR (q : Nat) (x : Ins) : List UInt8 := Lib.join (wordsR q x) [32] ++ [10]
/-- how often a line ends -/
def ends (l : List UInt8) : Nat := l.countP (· == 10)
theorem ends_app (l m : List UInt8) : ends (l ++ m) = ends l + ends m := by unfold ends; exact List.countP_append
theorem ends_join (ws : List (List UInt8)) (h : ∀ w ∈ ws, ends w = 0) : ends (Lib.join ws [32]) = 0 := by
  cases ws with
  | nil => rfl
  | cons w ws =>
    rw [Lib.join_cons, ends_app, h w (List.mem_cons_self ..)]
    have hr : ∀ v ∈ ws, ends v = 0 := fun v hv => h v (List.mem_cons_of_mem _ hv)
    clear h
    unfold Lib.joinTail
    induction ws with
    | nil => rfl
    | cons v ws ih =>
      rw [List.map_cons, List.flatten_cons, ends_app, ends_app, hr v (List.mem_cons_self ..)]
      have := ih (fun u hu => hr u (List.mem_cons_of_mem _ hu))
      show 0 + (0 + 0 + ends _) = 0
      omega
theorem ends_nm {k : Nat} {r : FormR} (h : formsL[k]? = some r) : ends r.1 = 0 := by
  have ha : ∀ r ∈ formsL, ends r.1 = 0 := by decide +kernel
  exact ha r (List.mem_of_getElem? h)
end Go.Proofs.YtdfghcbojbbgcaaDoor.Fl

