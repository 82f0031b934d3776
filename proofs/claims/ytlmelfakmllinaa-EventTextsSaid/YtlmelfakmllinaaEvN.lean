/-
  Events: the digest; the first byte of what is quoted; unquoted.
-/
import Derived.Test.YtlmelfakmllinaaEvM
namespace Go.Proofs.Ytlmelfakmllinaa.Fl
open Go.RowKit

set_option maxRecDepth 100000 in
theorem digest_any (xs : List EE) (A : Option Addr) (c B : Nat) (w : World) (h : EvsAt w B A xs) (hB : B ≤ w.heap.size) (hl : xs.length ≤ 40) :
    Calls Try.prog 11 #[.slice A xs.length c] w fun e w' => e = .returned (.int .u32 ((upd 0 (textE (evs xs)) : Nat) : Int)) ∧ Below w.heap.size w w' := by
  have ht := text_anyE xs A c B w h hB hl
  have hln := textE_len (evs_small h.sm)
  rw [List.length_map] at hln
  clear h
  generalize textE (evs xs) = T at *
  go_enter Try.func11, Try.ntmps11
  go_wp2_with fail
  refine ht.mono ?_
  rintro e w1 ⟨rfl, hb1⟩
  obtain ⟨c2, w2, hcv, hr2, hb2⟩ := conv_bytesE w1 T
  have HB := Lib.hid (hb1.trans (hb2.mono hb1.size))
  have HCV := Lib.hid hcv
  have hcr := crc_any T c2 (some ⟨w1.heap.size, 0, none⟩) w2 hr2 (by omega)
  clear hcv hr2 hb2 hb1 ht
  go_wp2_with fail
  rw [HCV.out]
  simp only [Result.andThen]
  rw [Oper.upon_value]
  clear HCV
  go_wp2_with (go_at_call 25; refine hcr.mono ?_; rintro e w3 ⟨rfl, hb3⟩; have hb4 := HB.out.trans (hb3.mono HB.out.size); clear hcr hb3)
  go_ret
  exact ⟨rfl, hb4⟩
end Go.Proofs.Ytlmelfakmllinaa.Fl
