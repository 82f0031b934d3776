/-
  Contracts of the document's Cells and Unpack, the law's own, and the law's fixed fact.
-/
import Derived.Test.YtmlfooofgedmaaaHeadD
import Derived.LoopTactic
namespace Go.Proofs.Ytmlfooofgedmaaa.Fl
open Go.RowKit

set_option maxHeartbeats 1000000 in
theorem rcells_any (cl kind size hash : Int) (mark : Bool) (w : World) (c0 : 0 ≤ cl) (z0 : 0 ≤ hash) :
    Calls Try.prog 14 #[.agg #[.int .u64 cl, .int .i64 kind, .int .i64 size, .int .u32 hash, .bool mark]] w fun e w' => e = .returned (.int .i64 (cellsI cl kind size hash)) ∧ Below w.heap.size w w' := by
  have hw := fun w' => rpack_any cl kind size hash mark w' c0 z0
  unfold cellsI
  by_cases hE : hErr cl kind size hash = 0
  · rw [if_pos hE]
    rw [hE] at hw
    obtain ⟨_, ⟨s0, s1⟩, h0, ⟨k0, k1⟩⟩ := hErr_ok hE
    clear hE
    generalize pkC cl kind size hash = C at hw
    generalize pkW cl kind size hash mark = X at hw
    by_cases hk : kind = 2
    · have hk' : (kind == 2) = true := by simp [hk]
      rw [if_pos hk]
      clear hk
      go_enter Try.func14, Try.ntmps14
      go_wp2_with fail
      refine (hw _).mono ?_
      rintro e w1 ⟨rfl, hb⟩
      obtain ⟨hc, hf⟩ := bcell hb
      have hs := hb.size
      simp at hs
      have hz0 : w.heap.size < w1.heap.size := by omega
      have hbw : Below w.heap.size w w1 := ((Below.refl _ _).alloc (Nat.le_refl _) _).trans (hb.mono (by simp))
      have hbw2 := hbw.alloc (by omega) (.cells #[.int .u64 C, .int .u64 X] 35)
      go_wp2_with fail
      go_loop [5] (fun n => ∃ k : Nat, (k : Int) ≤ (size + 7) / 8 ∧ n = .int .i64 k) (fun n => ((size + 7) / 8 - intOf n).toNat)
      case atStart => exact ⟨0, by omega, rfl⟩
      case round =>
        obtain ⟨k, hk, rfl⟩ := hrel
        by_cases hlt : 8 * (k : Int) < size
        · go_wp2
          go_round
          case rel => exact ⟨k + 1, by omega, by go_num⟩
          case measure => simp [intOf]; omega
        · have hke : (k : Int) = (size + 7) / 8 := by omega
          have HK := Lib.hid hke
          clear hke
          go_wp2
          go_ret
          exact ⟨retI HK.out, hbw2⟩
    · have hk' : (kind == 2) = false := by simp [hk]
      rw [if_neg hk]
      clear hk
      go_enter Try.func14, Try.ntmps14
      go_wp2_with fail
      refine (hw _).mono ?_
      rintro e w1 ⟨rfl, hb⟩
      obtain ⟨hc, hf⟩ := bcell hb
      have hs := hb.size
      simp at hs
      have hz0 : w.heap.size < w1.heap.size := by omega
      have hbw : Below w.heap.size w w1 := ((Below.refl _ _).alloc (Nat.le_refl _) _).trans (hb.mono (by simp))
      have hbw2 := hbw.alloc (by omega) (.cells #[.int .u64 C, .int .u64 X] 35)
      go_wp2_with fail
      go_ret
      exact ⟨rfl, hbw2⟩
  · rw [if_neg hE]
    have hne : (hErr cl kind size hash != 0) = true := by simp [hE]
    generalize hErr cl kind size hash = E at hw hne
    clear hE
    generalize pkC cl kind size hash = C at hw
    generalize pkW cl kind size hash mark = X at hw
    go_enter Try.func14, Try.ntmps14
    go_wp2_with fail
    refine (hw _).mono ?_
    rintro e w1 ⟨rfl, hb⟩
    have hs := hb.size
    simp at hs
    have hz0 : w.heap.size < w1.heap.size := by omega
    have hbw : Below w.heap.size w w1 := ((Below.refl _ _).alloc (Nat.le_refl _) _).trans (hb.mono (by simp))
    have hbw2 := hbw.alloc (by omega) (.cells #[.int .u64 C, .int .u64 X] 35)
    go_wp2_with fail
    go_ret
    exact ⟨rfl, hbw2⟩
theorem own_hd (cl kind size hash : Int) (mark : Bool) (w : World) :
    Calls Try.prog 11 #[.agg #[.int .u64 cl, .int .i64 kind, .int .i64 size, .int .u32 hash, .bool mark]] w fun e w' => e = .returned (.agg #[.int .u64 cl, .int .i64 kind, .int .i64 size, .int .u32 hash, .bool mark]) ∧ Below w.heap.size w w' := by
  go_enter Try.func11, Try.ntmps11
  go_wp2
  exact bodyPost_ret (v := .agg #[.int .u64 cl, .int .i64 kind, .int .i64 size, .int .u32 hash, .bool mark]) (by simp [results, Try.results11, go_sem]) rfl ⟨rfl, hbelow2 _ _ _⟩
theorem awake_hd (w : World) :
    Calls Try.prog 9 #[] w fun e w' => e = .returned (.bool true) ∧ Below w.heap.size w w' := by
  have h0 : hErr 4 1 3 5 = 0 := by decide
  have hp := fun w' => pack_yes 4 1 3 5 false w' (by omega) (by omega) (by omega) h0
  rw [show pkI 1 3 5 false = 5501853106179 by rw [← pkI_f (by omega) (by omega) (by omega)]; rfl] at hp
  have hq := eq_pair 4 5501853106179 4 5501853106179
  clear h0
  go_enter Try.func9, Try.ntmps9
  go_wp2_with fail
  refine (hp _).mono ?_
  rintro e w1 ⟨rfl, hb⟩
  go_wp2_with fail
  refine (pointer_in 6 _ (by omega) (by omega)).mono ?_
  rintro e w2 ⟨rfl, rfl⟩
  go_wp2_with fail
  go_ret
  exact ⟨rfl, hb.alloc hb.size _⟩
end Go.Proofs.Ytmlfooofgedmaaa.Fl
