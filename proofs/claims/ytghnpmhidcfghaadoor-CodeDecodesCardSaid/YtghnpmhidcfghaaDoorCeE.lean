/-
  Towards CodeJoins: one list behind another; Copy.
-/
import Derived.Test.YtghnpmhidcfghaaDoorCeD
namespace Go.Proofs.YtghnpmhidcfghaaDoor.Fl
open Go.RowKit

theorem encR_app : ∀ l m : List Ins, encR (l ++ m) = (encR l).bind fun p => (encR m).map (p ++ ·)
  | [], m => by
    show encR m = (encR m).map ([] ++ ·)
    cases encR m <;> rfl
  | x :: l, m => by
    rw [List.cons_append, encR, encR, encR_app l m]
    by_cases h : isI x.1 x.2.1 x.2.2 = true
    · rw [if_pos h, if_pos h]
      cases encR l with
      | none => rfl
      | some p =>
        cases encR m with
        | none => rfl
        | some r => simp
    · rw [if_neg h, if_neg h]; rfl
theorem ownB_void (w : World) : OwnB (w.alloc (.cells #[] 5)) w.heap.size (.slice (some ⟨w.heap.size, 0, none⟩) 0 0) [] := own_void w _ _ _ (Nat.le_refl _)
theorem ownI_void (w : World) : OwnI (w.alloc (.cells #[] 27)) w.heap.size (.slice (some ⟨w.heap.size, 0, none⟩) 0 0) [] := own_void w _ _ _ (Nat.le_refl _)
set_option maxHeartbeats 1000000 in
theorem copyC_any (xs : List UInt8) (c B : Nat) (A : Option Addr) (w : World) (hr : Rd w B A (cb xs)) (hB : B ≤ w.heap.size) (hl : xs.length ≤ 99000) (hn : A = none → xs.length = 0) :
    Calls Tryd.prog 12 #[.slice A xs.length c] w fun e w' => ∃ A' c', e = .returned (.slice A' xs.length c') ∧ OwnB w' w.heap.size (.slice A' xs.length c') xs ∧ Below w.heap.size w w' := by
  have HO := Lib.hid (ownB_void w)
  have HR := Lib.hid ((hr.below ((Below.refl w.heap.size w).alloc (Nat.le_refl _) (.cells #[] 5)) hB).more (show B ≤ (w.alloc (.cells #[] 5)).heap.size by rw [World.size_alloc]; omega))
  have hn' := hn
  clear hr hn
  go_enter Tryd.func12, Tryd.ntmps12
  go_wp2_with (at_builtin; refine wpList_append_u (base := w.heap.size) (v := .slice (some ⟨w.heap.size, 0, none⟩) 0 0) (xs := []) (news := xs) rfl _ _ rfl rfl rfl HO.out HR.out hn' (by simp) (by omega) (by rw [World.size_alloc]; omega) ?_; intro A4 t4 c4 w4 HT4 HO4 HB4)
  have ht : t4 = xs := by rw [HT4.out]; rfl
  subst ht
  have hb := ((Below.refl w.heap.size w).alloc (Nat.le_refl _) (.cells #[] 5)).trans HB4.out.1
  go_ret
  exact ⟨A4, c4, rfl, HO4.out, hb⟩
end Go.Proofs.YtghnpmhidcfghaaDoor.Fl

