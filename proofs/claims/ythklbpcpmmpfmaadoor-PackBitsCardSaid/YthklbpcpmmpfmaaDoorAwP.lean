/-
  The fixed fact of the second layer's laws.
-/
import Derived.Test.YthklbpcpmmpfmaaDoorPut
import Derived.Lib.SlBytesConst
namespace Go.Proofs.YthklbpcpmmpfmaaDoor.Fl
open Go.RowKit

def digits9 : List UInt8 := [49, 50, 51, 52, 53, 54, 55, 56, 57]
theorem crc_digits : (upd 0 digits9 : Nat) = 3421780262 := by decide +kernel
theorem cb_digits : cb digits9 = [.int .u8 49, .int .u8 50, .int .u8 51, .int .u8 52, .int .u8 53, .int .u8 54, .int .u8 55, .int .u8 56, .int .u8 57] := rfl
def zeros100 : List Nat := List.replicate ((100 + 63) / 64) 0
theorem zeros_bit (k : Nat) : bitAt zeros100 k = false := bitAt_zero _ k
theorem zeros_70 : bitAt zeros100 70 = !true := zeros_bit _
theorem next_70 {r : Int} (h : IsNext (flip zeros100 70) 100 4 r) : r = 70 := by
  have hb : ∀ k, bitAt (flip zeros100 70) k = if k = 70 then true else false := by
    intro k
    rw [bitAt_flip (by decide), zeros_bit, zeros_bit]; rfl
  rcases h with ⟨_, h⟩ | ⟨k, rfl, _, _, h, _⟩
  · have := h 70 (by omega)
    rw [hb] at this; simp at this
  · rw [hb] at h
    by_cases hk : k = 70
    · rw [hk]; rfl
    · rw [if_neg hk] at h; cases h
theorem le_2 : le 258 (min (2 : Int).toNat 8) = [2, 1] := by decide
theorem rd_digits (w : World) : Rd (w.alloc (.cells #[.int .u8 49, .int .u8 50, .int .u8 51, .int .u8 52, .int .u8 53, .int .u8 54, .int .u8 55, .int .u8 56, .int .u8 57] 5 (9, 10))) (w.heap.size + 1) (some ⟨w.heap.size, 0, none⟩) (cb digits9) := by
  refine .inr ⟨_, 0, rfl, by omega, fun j v hj => ?_⟩
  rw [Nat.zero_add, cell_of_row _ _ _ _ _ _ (heap_alloc_new w _), ← hj, cb_digits]; simp
set_option maxHeartbeats 1000000 in
theorem awakeP_any (w : World) (he : EnvB w) :
    Calls Tryd.prog 9 #[] w fun e w' => e = .returned (.bool true) ∧ Below w.heap.size w w' := by
  go_enter Tryd.func9, Tryd.ntmps9
  go_wp2_with fail
  refine (newBits_nat 100 (by omega) _).mono ?_
  rintro e w1 ⟨g, g2, rfl, hg, hg2, hB, hb1⟩
  have HB : Hid (BitsAt w1 g g2 100 zeros100) := Lib.hid hB
  clear hB
  have hcv := Lib.run_convert_bytes_const (P := Tryd.prog) w1 76 5 #[.int .u8 49, .int .u8 50, .int .u8 51, .int .u8 52, .int .u8 53, .int .u8 54, .int .u8 55, .int .u8 56, .int .u8 57] 9 9 Tryd.underlying76 Tryd.underlying5
  rw [show (#[Value.int .u8 49, .int .u8 50, .int .u8 51, .int .u8 52, .int .u8 53, .int .u8 54, .int .u8 55, .int .u8 56, .int .u8 57] : Array Value).size = 9 from rfl] at hcv
  have hrd := rd_digits w1
  go_wp2_with fail
  refine (crc_any digits9 9 _ _ (hrd.more (by simp)) (by decide)).mono ?_
  rintro e w2 ⟨rfl, hb2⟩
  rw [crc_digits]
  have hb3 : Below w.heap.size w w2 := (hb1.alloc (by have := hb1.size; omega) _).trans (hb2.mono (by have := hb1.size; simp; omega))
  have h12 : Below w1.heap.size w1 w2 := ((Below.refl _ _).alloc (Nat.le_refl _) _).trans (hb2.mono (by simp))
  have HB2 := Lib.hid (HB.out.below h12 HB.out.gl HB.out.gl2)
  clear hcv hrd hb2 h12 hb1 HB
  go_wp2_with fail
  refine (put_any [] 0 0 none 258 2 w2 (Rd.nil _ _ _) (Nat.zero_le _) (by omega) (by simp)).mono ?_
  rintro e w3 ⟨v', rfl, hO, hb4⟩
  rw [le_2] at hO
  obtain ⟨A', c', rfl, _, _⟩ := own_rd hO
  have HB3 := Lib.hid (HB2.out.below hb4 HB2.out.gl HB2.out.gl2)
  have hb5 := hb3.trans (hb4.mono hb3.size)
  clear hb3 hb4 hO HB2
  go_wp2_with fail
  refine (size_any g g2 100 zeros100 w3 HB3.out).mono ?_
  rintro e w4 ⟨rfl, rfl⟩
  go_wp2_with fail
  refine (set_flip g g2 100 70 true zeros100 w3 HB3.out (by omega) zeros_70).mono ?_
  rintro e w5 ⟨rfl, HB5, hb6, hs6⟩
  have hb7 := hb5.trans (hb6 w.heap.size hg2)
  have he5 := he.below hb7
  have HB6 := Lib.hid HB5
  clear HB5 hb6 hb5 HB3
  go_wp2_with fail
  refine (next_nat g g2 100 4 (flip zeros100 70) w5 HB6.out he5).mono ?_
  rintro e w6 ⟨r, q, rfl, hr, rfl⟩
  rw [next_70 hr]
  go_wp2_with fail
  go_ret
  exact ⟨rfl, below_drewN hb7 _⟩
end Go.Proofs.YthklbpcpmmpfmaaDoor.Fl
