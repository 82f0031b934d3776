/-
  Contracts of package head, and of the document's answers for it.
-/
import Derived.Test.YtahmljjjdoaahaaDoorProg
import Derived.Test.YtahmljjjdoaahaaDoorPMath
import Derived.WalkKit
import Derived.WalkSmall
import Derived.WalkSpells
import Derived.WalkLawsBesides
import Derived.Deep.QuietTactic
import Derived.BigQuiet
import Derived.Lib.Hide
import Derived.RegionTactic
namespace Go.Proofs.YtahmljjjdoaahaaDoor.Fl
open Go.RowKit

theorem and1 {a : Int} (h : 0 ≤ a) (h2 : a ≤ 18446744073709551615) : bits .and .u64 a 1 = a % 2 := and_one_u64 a h h2
theorem is_odd (a : Int) (w : World) (h : 0 ≤ a) (h2 : a ≤ 18446744073709551615) (ho : a % 2 = 1) :
    Calls Tryd.prog 62 #[.int .u64 a] w fun e w' => e = .returned (.bool true) ∧ w = w' := by
  have hb : (bits BinOp.and IntKind.u64 a 1 == 1) = true := by rw [and1 h h2, ho]; rfl
  go_enter Tryd.func62, Tryd.ntmps62
  go_wp2
  go_ret
  exact ⟨by simp, rfl⟩
theorem is_even (a : Int) (w : World) (h : 0 ≤ a) (h2 : a ≤ 18446744073709551615) (ho : a % 2 = 0) :
    Calls Tryd.prog 62 #[.int .u64 a] w fun e w' => e = .returned (.bool false) ∧ w = w' := by
  have hb : (bits BinOp.and IntKind.u64 a 1 == 1) = false := by rw [and1 h h2, ho]; rfl
  go_enter Tryd.func62, Tryd.ntmps62
  go_wp2
  go_ret
  exact ⟨by simp, rfl⟩

/-! ### Pointer, At -/
def ptrE (at_ : Int) : Int := if at_ < 1 ∨ 16777216 ≤ at_ then 1 else 0
def ptrW (at_ : Int) : Int := if at_ < 1 ∨ 16777216 ≤ at_ then 0 else 2 * at_
theorem pointer_in (n : Int) (w : World) (h1 : 1 ≤ n) (h2 : n < 16777216) :
    Calls Tryd.prog 54 #[.int .i64 n] w fun e w' => e = .returned (.tuple #[.int .u64 (n * 2), .int .i64 0]) ∧ w = w' := by
  go_enter Tryd.func54, Tryd.ntmps54
  go_wp2
  go_ret2
  exact ⟨rfl, rfl⟩
theorem pointer_out (n : Int) (w : World) (h : n < 1 ∨ 16777216 ≤ n) :
    Calls Tryd.prog 54 #[.int .i64 n] w fun e w' => e = .returned (.tuple #[.int .u64 0, .int .i64 1]) ∧ w = w' := by
  rcases h with h | h
  · go_enter Tryd.func54, Tryd.ntmps54
    go_wp2
    go_ret2
    exact ⟨rfl, rfl⟩
  · have h1 : 1 ≤ n := by omega
    go_enter Tryd.func54, Tryd.ntmps54
    go_wp2
    go_ret2
    exact ⟨rfl, rfl⟩
theorem at_in (a : Int) (w : World) (h1 : 0 < a) (h2 : a < 33554432) (ho : a % 2 = 0) :
    Calls Tryd.prog 46 #[.int .u64 a] w fun e w' => e = .returned (.tuple #[.int .i64 (a / 2), .int .i64 0]) ∧ w = w' := by
  have HO := Lib.hid ho
  clear ho
  have hz : (a == 0) = false := by simp; omega
  go_enter Tryd.func46, Tryd.ntmps46
  go_wp2_with (go_at_call 62; (with_reducible refine (is_even _ _ (by omega) (by omega) HO.out).mono ?_); rintro e w' ⟨rfl, rfl⟩)
  go_ret2
  exact ⟨rfl, rfl⟩
theorem at_out (a : Int) (w : World) (h : 0 ≤ a) (h2 : a ≤ 18446744073709551615) (hb : a % 2 = 1 ∨ a = 0 ∨ 33554432 ≤ a) :
    Calls Tryd.prog 46 #[.int .u64 a] w fun e w' => e = .returned (.tuple #[.int .i64 0, .int .i64 13]) ∧ w = w' := by
  by_cases ho : a % 2 = 1
  · have HO := Lib.hid ho
    clear ho hb
    go_enter Tryd.func46, Tryd.ntmps46
    go_wp2_with (go_at_call 62; (with_reducible refine (is_odd _ _ h h2 HO.out).mono ?_); rintro e w' ⟨rfl, rfl⟩)
    go_ret2
    exact ⟨rfl, rfl⟩
  · have HO : Hid (a % 2 = 0) := Lib.hid (by omega)
    by_cases hz : a = 0
    · have hz' : (a == 0) = true := by simp [hz]
      have HZ := Lib.hid hz
      clear ho hb hz
      go_enter Tryd.func46, Tryd.ntmps46
      go_wp2_with (go_at_call 62; (with_reducible refine (is_even _ _ h h2 HO.out).mono ?_); rintro e w' ⟨rfl, rfl⟩)
      go_ret2
      exact ⟨rfl, rfl⟩
    · have hz' : (a == 0) = false := by simp [hz]
      have hge : 33554432 ≤ a := by omega
      clear ho hb hz
      go_enter Tryd.func46, Tryd.ntmps46
      go_wp2_with (go_at_call 62; (with_reducible refine (is_even _ _ h h2 HO.out).mono ?_); rintro e w' ⟨rfl, rfl⟩)
      go_ret2
      exact ⟨rfl, rfl⟩
end Go.Proofs.YtahmljjjdoaahaaDoor.Fl

/-
  Contracts of package head: wrong, Pack, Cells.
-/
namespace Go.Proofs.YtahmljjjdoaahaaDoor.Fl
open Go.RowKit

theorem hbelow1 (w : World) (o1 : Obj) : Below w.heap.size w (w.alloc o1) := (Below.refl _ _).alloc (Nat.le_refl _) _
theorem retI {k : IntKind} {a b : Int} (h : a = b) : Ending.returned (.int k a) = .returned (.int k b) := by rw [h]
theorem bcell {W w1 : World} (hb : Below W.heap.size W w1) : (∀ b o, b < W.heap.size → w1.cell? ⟨b, o, none⟩ = W.cell? ⟨b, o, none⟩) ∧ (∀ b o, b < W.heap.size → w1.frozen? ⟨b, o, none⟩ = W.frozen? ⟨b, o, none⟩) :=
  ⟨fun b o h => hb.cell (p := ⟨b, o, none⟩) h, fun b o h => hb.frozen (p := ⟨b, o, none⟩) h⟩
theorem hErr_1 {cl kind size hash : Int} (h : cl = 0 ∨ cl % 2 = 1) : hErr cl kind size hash = 1 := by unfold hErr; rw [if_pos h]
theorem hErr_2 {cl kind size hash : Int} (h : ¬ (cl = 0 ∨ cl % 2 = 1)) (h2 : size < 0 ∨ 1048576 < size) : hErr cl kind size hash = 2 := by unfold hErr; rw [if_neg h, if_pos h2]
theorem hErr_9 {cl kind size hash : Int} (h : ¬ (cl = 0 ∨ cl % 2 = 1)) (h2 : ¬ (size < 0 ∨ 1048576 < size)) (h3 : 16777216 ≤ hash) : hErr cl kind size hash = 9 := by unfold hErr; rw [if_neg h, if_neg h2, if_pos h3]
theorem hErr_13 {cl kind size hash : Int} (h : ¬ (cl = 0 ∨ cl % 2 = 1)) (h2 : ¬ (size < 0 ∨ 1048576 < size)) (h3 : ¬ 16777216 ≤ hash) (h4 : kind < 0 ∨ 2 < kind) : hErr cl kind size hash = 13 := by unfold hErr; rw [if_neg h, if_neg h2, if_neg h3, if_pos h4]
theorem hErr_0 {cl kind size hash : Int} (h : ¬ (cl = 0 ∨ cl % 2 = 1)) (h2 : ¬ (size < 0 ∨ 1048576 < size)) (h3 : ¬ 16777216 ≤ hash) (h4 : ¬ (kind < 0 ∨ 2 < kind)) : hErr cl kind size hash = 0 := by unfold hErr; rw [if_neg h, if_neg h2, if_neg h3, if_neg h4]
set_option maxHeartbeats 1000000 in
theorem wrong_any (cl kind size hash : Int) (mark : Bool) (w : World) (c0 : 0 ≤ cl) (c1 : cl ≤ 18446744073709551615) :
    Calls Tryd.prog 57 #[.agg #[.int .u64 cl, .int .i64 kind, .int .i64 size, .int .u32 hash, .bool mark]] w fun e w' => e = .returned (.int .i64 (hErr cl kind size hash)) ∧ Below w.heap.size w w' := by
  by_cases h : cl = 0 ∨ cl % 2 = 1
  · rw [hErr_1 h]
    by_cases hz : cl = 0
    · have hz' : (cl == 0) = true := by simp [hz]
      clear h hz
      go_enter Tryd.func57, Tryd.ntmps57
      go_wp2
      go_ret
      exact ⟨rfl, hbelow1 _ _⟩
    · have hz' : (cl == 0) = false := by simp [hz]
      have HO : Hid (cl % 2 = 1) := Lib.hid (by omega)
      clear h hz
      go_enter Tryd.func57, Tryd.ntmps57
      go_wp2_with (go_at_call 62; (with_reducible refine (is_odd _ _ c0 c1 HO.out).mono ?_); rintro e w' ⟨rfl, rfl⟩)
      go_ret
      exact ⟨rfl, hbelow1 _ _⟩
  · have hz' : (cl == 0) = false := by simp; omega
    have HO : Hid (cl % 2 = 0) := Lib.hid (by omega)
    by_cases h2 : size < 0 ∨ 1048576 < size
    · rw [hErr_2 h h2]
      by_cases h3 : size < 0
      · clear h h2
        go_enter Tryd.func57, Tryd.ntmps57
        go_wp2_with (go_at_call 62; (with_reducible refine (is_even _ _ c0 c1 HO.out).mono ?_); rintro e w' ⟨rfl, rfl⟩)
        go_ret
        exact ⟨rfl, hbelow1 _ _⟩
      · have h4 : 1048576 < size := by omega
        have h5 : 0 ≤ size := by omega
        clear h h2 h3
        go_enter Tryd.func57, Tryd.ntmps57
        go_wp2_with (go_at_call 62; (with_reducible refine (is_even _ _ c0 c1 HO.out).mono ?_); rintro e w' ⟨rfl, rfl⟩)
        go_ret
        exact ⟨rfl, hbelow1 _ _⟩
    · have s0 : 0 ≤ size := by omega
      have s1 : size ≤ 1048576 := by omega
      by_cases h3 : 16777216 ≤ hash
      · rw [hErr_9 h h2 h3]
        clear h h2
        go_enter Tryd.func57, Tryd.ntmps57
        go_wp2_with (go_at_call 62; (with_reducible refine (is_even _ _ c0 c1 HO.out).mono ?_); rintro e w' ⟨rfl, rfl⟩)
        go_ret
        exact ⟨rfl, hbelow1 _ _⟩
      · have t0 : hash < 16777216 := by omega
        by_cases h4 : kind < 0 ∨ 2 < kind
        · rw [hErr_13 h h2 h3 h4]
          by_cases h5 : kind < 0
          · clear h h2 h4 h3
            go_enter Tryd.func57, Tryd.ntmps57
            go_wp2_with (go_at_call 62; (with_reducible refine (is_even _ _ c0 c1 HO.out).mono ?_); rintro e w' ⟨rfl, rfl⟩)
            go_ret
            exact ⟨rfl, hbelow1 _ _⟩
          · have k0 : 0 ≤ kind := by omega
            have k1 : 2 < kind := by omega
            clear h h2 h4 h3 h5
            go_enter Tryd.func57, Tryd.ntmps57
            go_wp2_with (go_at_call 62; (with_reducible refine (is_even _ _ c0 c1 HO.out).mono ?_); rintro e w' ⟨rfl, rfl⟩)
            go_ret
            exact ⟨rfl, hbelow1 _ _⟩
        · rw [hErr_0 h h2 h3 h4]
          have k0 : 0 ≤ kind := by omega
          have k1 : kind ≤ 2 := by omega
          clear h h2 h4 h3
          go_enter Tryd.func57, Tryd.ntmps57
          go_wp2_with (go_at_call 62; (with_reducible refine (is_even _ _ c0 c1 HO.out).mono ?_); rintro e w' ⟨rfl, rfl⟩)
          go_ret
          exact ⟨rfl, hbelow1 _ _⟩

/-! ### Pack -/
theorem pack_no (cl kind size hash : Int) (mark : Bool) (w : World) (c0 : 0 ≤ cl) (c1 : cl ≤ 18446744073709551615) (hE : hErr cl kind size hash ≠ 0) :
    Calls Tryd.prog 34 #[.agg #[.int .u64 cl, .int .i64 kind, .int .i64 size, .int .u32 hash, .bool mark]] w fun e w' => e = .returned (.tuple #[.agg #[.int .u64 0, .int .u64 0], .int .i64 (hErr cl kind size hash)]) ∧ Below w.heap.size w w' := by
  have hw := fun w' => wrong_any cl kind size hash mark w' c0 c1
  have hne : (hErr cl kind size hash != 0) = true := by simp [hE]
  generalize hErr cl kind size hash = E at hw hne
  clear hE
  go_enter Tryd.func34, Tryd.ntmps34
  go_wp2_with fail
  refine (hw _).mono ?_
  rintro e w1 ⟨rfl, hb⟩
  obtain ⟨hc, hf⟩ := bcell hb
  have hs := hb.size
  simp at hs
  have hbw : Below w.heap.size w w1 := (((Below.refl _ _).alloc (Nat.le_refl _) _).alloc (by simp) _).trans (hb.mono (by simp; omega))
  go_wp2_with fail
  exact bodyPost_ret (v := .tuple #[.agg #[.int .u64 0, .int .u64 0], .int .i64 E]) (by simp [results, Tryd.results34, go_sem, hc]) rfl ⟨rfl, (hbw.setCell (by simp) _).setCell (by simp) _⟩
end Go.Proofs.YtahmljjjdoaahaaDoor.Fl
